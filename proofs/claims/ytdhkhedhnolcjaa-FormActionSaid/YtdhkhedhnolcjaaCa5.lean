/- Or, Os, Mg, Mh, Mi, Mj, Mk, Pn, Pd, Pe, Pg, Pf, Pk, Ps, Ph, Pi, Pj, Qf, Pq, Qg, Pr, Pt, Pu, Ml, Mm, Mo, Mq, Ms, Mu, Mw, Mx, Na, Nb, Nc, Pv, Px, Qh, Qi, Ot, Ou, Sb, Uh, Ui, Uj, Ue, Uf. -/
import Derived.Test.YtdhkhedhnolcjaaCa4
import Derived.WalkSmall
import Derived.Shelf.Spec.TrailingZeros
import Derived.Shelf.Bits.Mul64
import Derived.Lib.BitFns
import Derived.Lib.Walk
import Derived.Lib.Small
import Derived.RangeFuncNested
import Derived.RangeFuncBound
import Derived.RangeFuncCalls
import Derived.RangeFuncLeaves
import Derived.Shelf.Abstract
import Derived.Shelf.RegionOpen
import Derived.WalkKit
import Derived.OwnWalkIn
import Derived.TacticsInMore
import Derived.LoopNIn
import Derived.LoopIn
import Derived.Laws.OwnMore
import Derived.Deep.AppendLies
import Derived.Recover
import Derived.Laws.Pointers
namespace Go.Proofs.Ytdhkhedhnolcjaa
open Go Go.RowKit

structure Pt where
 x : Int
 y : Int
 i : Bool
def Pt.Ok (M : Int) (P : Pt) : Prop := 0 ≤ P.x ∧ P.x < M ∧ 0 ≤ P.y ∧ P.y < M
theorem Pt.Ok.ab {M : Int} {P : Pt} (h : P.Ok M) (hM : ab M < pw 5) : Go.Proofs.Ytdhkhedhnolcjaa.ab P.x < pw 5 ∧ Go.Proofs.Ytdhkhedhnolcjaa.ab P.y < pw 5 := by
 obtain ⟨h1, h2, h3, h4⟩ := h
 unfold Go.Proofs.Ytdhkhedhnolcjaa.ab at hM ⊢
 generalize pw 5 = k at hM
 constructor <;> omega
section
variable {os : List Oper} {Q : Exit → Act → World → Prop} {a : Act} {p : Pq} {B B0 : Nat} {w0 : World}
variable {i s : Nat} {d : Option Tmp} {ty : TypeId} {ps : String} {af : Array Edge} {gd : Option (Nat × Bool)}
end
end Go.Proofs.Ytdhkhedhnolcjaa

namespace Go.Proofs.Ytdhkhedhnolcjaa
open Go Go.RowKit

end Go.Proofs.Ytdhkhedhnolcjaa

namespace Go.Proofs.Ytdhkhedhnolcjaa
open Go Go.RowKit

end Go.Proofs.Ytdhkhedhnolcjaa

namespace Go.Proofs.Ytdhkhedhnolcjaa
open Go Go.RowKit

end Go.Proofs.Ytdhkhedhnolcjaa

namespace Go.Proofs.Ytdhkhedhnolcjaa
open Go Go.RowKit

end Go.Proofs.Ytdhkhedhnolcjaa

namespace Go.Proofs.Ytdhkhedhnolcjaa
open Go Go.RowKit

def v2 (z : Int) : Nat := Lib.ctzFrom (nbits z) z.natAbs
section
variable {os : List Oper} {Q : Exit → Act → World → Prop} {a : Act} {p : Pq} {B B0 : Nat} {w0 : World}
variable {i s : Nat} {d : Option Tmp} {ty : TypeId} {ps : String} {af : Array Edge} {gd : Option (Nat × Bool)}
end
end Go.Proofs.Ytdhkhedhnolcjaa

namespace Go.Proofs.Ytdhkhedhnolcjaa
open Go Go.RowKit

section
variable {os : List Oper} {Q : Exit → Act → World → Prop} {a : Act} {p : Pq} {B B0 : Nat} {w0 : World}
variable {i s : Nat} {d : Option Tmp} {ty : TypeId} {ps : String} {af : Array Edge} {gd : Option (Nat × Bool)}
end
end Go.Proofs.Ytdhkhedhnolcjaa

namespace Go.Proofs.Ytdhkhedhnolcjaa
open Go Go.RowKit

end Go.Proofs.Ytdhkhedhnolcjaa

namespace Go.Proofs.Ytdhkhedhnolcjaa
open Go Go.RowKit

section
variable {U Y y1 y0 B u q r : Nat}
end
end Go.Proofs.Ytdhkhedhnolcjaa

namespace Go.Proofs.Ytdhkhedhnolcjaa
open Go Go.RowKit

end Go.Proofs.Ytdhkhedhnolcjaa

namespace Go.Proofs.Ytdhkhedhnolcjaa
open Go Go.RowKit

end Go.Proofs.Ytdhkhedhnolcjaa

namespace Go.Proofs.Ytdhkhedhnolcjaa
open Go Go.RowKit

end Go.Proofs.Ytdhkhedhnolcjaa

namespace Go.Proofs.Ytdhkhedhnolcjaa
open Go Go.RowKit

def Eqp (p : Int) (x y : Int × Int) : Prop := x.1 % p = y.1 % p ∧ x.2 % p = y.2 % p
theorem Eqp.refl (p : Int) (x : Int × Int) : Eqp p x x := ⟨rfl, rfl⟩
theorem Eqp.symm {p : Int} {x y : Int × Int} (h : Eqp p x y) : Eqp p y x := ⟨h.1.symm, h.2.symm⟩
theorem Eqp.trans {p : Int} {x y z : Int × Int} (h : Eqp p x y) (h' : Eqp p y z) : Eqp p x z := ⟨h.1.trans h'.1, h.2.trans h'.2⟩
end Go.Proofs.Ytdhkhedhnolcjaa

namespace Go.Proofs.Ytdhkhedhnolcjaa
open Go Go.RowKit

end Go.Proofs.Ytdhkhedhnolcjaa

namespace Go.Proofs.Ytdhkhedhnolcjaa
open Go Go.RowKit

end Go.Proofs.Ytdhkhedhnolcjaa

namespace Go.Proofs.Ytdhkhedhnolcjaa
open Go Go.RowKit

end Go.Proofs.Ytdhkhedhnolcjaa

namespace Go.Proofs.Ytdhkhedhnolcjaa
open Go Go.RowKit

end Go.Proofs.Ytdhkhedhnolcjaa

namespace Go.Proofs.Ytdhkhedhnolcjaa
open Go Go.RowKit

end Go.Proofs.Ytdhkhedhnolcjaa

namespace Go.Proofs.Ytdhkhedhnolcjaa
open Go Go.RowKit

end Go.Proofs.Ytdhkhedhnolcjaa

namespace Go.Proofs.Ytdhkhedhnolcjaa
open Go Go.RowKit

end Go.Proofs.Ytdhkhedhnolcjaa

namespace Go.Proofs.Ytdhkhedhnolcjaa
open Go Go.RowKit Go.Shelf

attribute [local go_sem] Oper.semAt_some

abbrev MulP (p n : Nat) := { x : Nat // p * p ≤ x ∧ x ≤ n ∧ x % p = 0 }
def KpM (Bp Bn : Nat) (A B : World) : Prop := B.heap[Bp]? = A.heap[Bp]? ∧ B.heap[Bn]? = A.heap[Bn]?
theorem cell_same {A B : World} {b j : Nat} (h : B.heap[b]? = A.heap[b]?) : B.cell? ⟨b, j, none⟩ = A.cell? ⟨b, j, none⟩ := by
 unfold World.cell?
 simp only [h]
theorem frozen_same {A B : World} {b j : Nat} (h : B.heap[b]? = A.heap[b]?) : B.frozen? ⟨b, j, none⟩ = A.frozen? ⟨b, j, none⟩ := by
 unfold World.frozen?
 simp only [h]
theorem KpM.trans {Bp Bn : Nat} {A B C : World} (h : KpM Bp Bn A B) (k : KpM Bp Bn B C) : KpM Bp Bn A C := ⟨k.1.trans h.1, k.2.trans h.2⟩
end Go.Proofs.Ytdhkhedhnolcjaa

namespace Go.Proofs.Ytdhkhedhnolcjaa
open Go Go.RowKit Go.Shelf

attribute [local go_sem] Oper.semAt_some

def isP (q : Nat) : Bool := decide (2 ≤ q) && (List.range q).all (fun d => decide (d < 2) || decide (q % d ≠ 0))
def mkB (p m : Nat) : Bool := (List.range p).any (fun q => isP q && decide (q * q ≤ m) && (m % q == 0))
def below (p : Nat) : List Nat := (List.range p).filter isP
def Ni (W : World) (B : Nat) (v : Value) (xs : List Nat) : Prop := W.ownsRow B 3 1 v xs.length (xs.map fun x : Nat => Value.int .i64 (x : Int))
theorem Ni.shape {W : World} {B : Nat} {v : Value} {xs : List Nat} (h : Ni W B v xs) : ∃ ao cap, v = .slice ao xs.length cap := by
 rcases h.2 with ⟨rfl, h0⟩ | ⟨g, cap, cur, rfl, _⟩
 ·exact ⟨none, 0, by rw [h0]⟩
 ·exact ⟨_, _, rfl⟩
theorem Ni.nil (w : World) (B : Nat) : Ni w B (.slice none 0 0) [] := World.ownsRow_nil w B _ _
theorem Ni.mono {w w' : World} {B : Nat} {v : Value} {xs : List Nat} (h : Ni w B v xs) (hb : ∀ g, (∃ cur t r, w.heap[g]? = some (.cells cur t r)) → B ≤ g → v.ownBlock = some g → w'.heap[g]? = w.heap[g]?) : Ni w' B v xs := by
 refine ⟨h.1, ?_⟩
 rcases h.2 with h2 | ⟨g, cap, cur, h1, h2, h3, h4⟩
 ·exact .inl h2
 ·exact .inr ⟨g, cap, cur, h1, h2, by rw [hb g ⟨_, _, _, h3⟩ h2 (by rw [h1]; rfl)]; exact h3, h4⟩
theorem Ni.below {w w' : World} {B : Nat} {v : Value} {xs : List Nat} (h : Ni w B v xs) (hb : Below w.heap.size w w') : Ni w' B v xs :=
 h.mono fun g ⟨_, _, _, hg⟩ _ _ => hb.block g (Array.getElem?_eq_some_iff.1 hg).1
theorem Ni.cell {w : World} {B : Nat} {ao : Option Addr} {n c : Nat} {xs : List Nat} (h : Ni w B (.slice ao n c) xs) {i : Nat} (hi : i < xs.length) : ∃ g, ao = some ⟨g, 0, none⟩ ∧ w.cell? ⟨g, i, none⟩ = some (.int .i64 ((xs.getD i 0 : Nat) : Int)) := by
 rcases h.2 with ⟨_, h0⟩ | ⟨g, cap, cur, e, _⟩
 ·omega
 ·injection e with e1 e2 e3
  subst e1
  have := World.ownsRow.cells h (g := g) rfl i (.int .i64 ((xs.getD i 0 : Nat) : Int)) (by simp [hi])
  rw [add_plain'] at this
  exact ⟨g, rfl, this⟩
def Bo (W : World) (C N : Nat) (f : Nat → Bool) : Prop := ∀ m, m ≤ N → W.cell? ⟨C, m, none⟩ = some (.bool (f m)) ∧ W.frozen? ⟨C, m, none⟩ = false
def Marks (B : Nat) (W : World) (ds : List Deferred) : Prop := ∃ Ds : List Nat, ds = Ds.map (fun D => { target := .collected D, args := #[] }) ∧ Ds.Nodup ∧ ∀ D ∈ Ds, B ≤ D ∧ W.heap[D]? = some (Obj.deferred (some []))
theorem Marks.mono {B : Nat} {W W' : World} {ds : List Deferred} (h : Marks B W ds) (hk : ∀ D : Nat, W.heap[D]? = some (Obj.deferred (some [])) → W'.heap[D]? = some (Obj.deferred (some []))) : Marks B W' ds := by
 obtain ⟨Ds, h1, h2, h3⟩ := h
 exact ⟨Ds, h1, h2, fun D hD => ⟨(h3 D hD).1, hk D (h3 D hD).2⟩⟩
theorem Marks.nil (B : Nat) (W : World) : Marks B W [] := ⟨[], rfl, List.nodup_nil, fun _ h => by simp at h⟩
theorem Marks.cons {B : Nat} {W W1 : World} {ds : List Deferred} (h : Marks B W1 ds) (hk : ∀ E, E < W1.heap.size → W.heap[E]? = W1.heap[E]? ∨ W1.heap[E]? ≠ some (Obj.deferred (some []))) {D : Nat} (hB : B ≤ D) (hD1 : W1.heap.size ≤ D) (hD : W.heap[D]? = some (Obj.deferred (some []))) : Marks B W ({ target := .collected D, args := #[] } :: ds) := by
 obtain ⟨Ds, rfl, h2, h3⟩ := h
 have hlt : ∀ E ∈ Ds, E < W1.heap.size := fun E hE => (Array.getElem?_eq_some_iff.1 (h3 E hE).2).1
 refine ⟨D :: Ds, rfl, List.nodup_cons.2 ⟨fun hm => ?_, h2⟩, fun E hE => ?_⟩
 ·have := hlt D hm; omega
 ·rcases List.mem_cons.1 hE with rfl | hE
  ·exact ⟨hB, hD⟩
  ·refine ⟨(h3 E hE).1, ?_⟩
   rcases hk E (hlt E hE) with e | e
   ·exact e.trans (h3 E hE).2
   ·exact absurd (h3 E hE).2 e
end Go.Proofs.Ytdhkhedhnolcjaa

namespace Go.Proofs.Ytdhkhedhnolcjaa
open Go Go.RowKit Go.Shelf

attribute [local go_sem] Oper.semAt_some

def SvI (C N p : Nat) (S : World) (pre : List (MulP p N)) (W : World) : Prop :=
 S.heap.size ≤ W.heap.size ∧ (∀ k, k < S.heap.size → k ≠ C → W.heap[k]? = S.heap[k]?) ∧ Bo W C N (fun m => mkB p m || pre.any (fun x => x.1 == m)) ∧ Below C S W
theorem SvI.own {C N p : Nat} {S : World} (hC : C < S.heap.size) : OwnFrom S.heap.size (SvI C N p S) :=
 fun s A B row hs hg hr => ⟨Nat.le_trans hs.1 hg.size, fun k hk hkC => (hg.block k (by have := hs.1; omega) (fun e => by have := (hr k e.symm).1; omega)).trans (hs.2.1 k hk hkC), fun m hm => by
  have hc : B.heap[C]? = A.heap[C]? := hg.block C (by have := hs.1; omega) (fun e => by have := (hr C e.symm).1; omega)
  rw [cell_same hc, frozen_same hc]
  exact hs.2.2.1 m hm, hs.2.2.2.grown hg (by have := hs.1; omega) (fun k e => by have := (hr k e).1; omega)⟩
theorem SvI.step {C N p : Nat} {S W : World} {pre : List (MulP p N)} {x : MulP p N} {y : Nat} (h : SvI C N p S pre W) (hy : y = x.1) (hyN : y ≤ N) : SvI C N p S (pre ++ [x]) (W.setCell ⟨C, y, none⟩ (.bool true)) := by
 obtain ⟨h1, h2, h3, h4⟩ := h
 refine ⟨Nat.le_trans h1 (KeepsOthers.setCell _ _ _).size, fun k hk hkC => (Below.heap_setCell _ _ _ k (fun e => hkC e)).trans (h2 k hk hkC), fun m hm => ?_, h4.setCell (p := ⟨C, y, none⟩) (Nat.le_refl _) _⟩
 rw [World.frozen?_setCell]
 refine ⟨?_, (h3 m hm).2⟩
 show _ = some (Value.bool (mkB p m || (pre ++ [x]).any (fun x => x.1 == m)))
 have h3m : W.cell? ⟨C, m, none⟩ = some (.bool (mkB p m || pre.any (fun x => x.1 == m))) := (h3 m hm).1
 rw [List.any_append, List.any_cons, List.any_nil, Bool.or_false, ← hy]
 by_cases e : m = y
 ·subst e
  rw [World.cell?_setCell_same' _ _ _ (by rw [h3m]; rfl)]
  simp
 ·rw [World.cell?_setCell_other _ _ _ _ (by intro e2; injection e2 with e3 e4; omega), h3m]
  have : (y == m) = false := by simp; omega
  rw [this, Bool.or_false]
end Go.Proofs.Ytdhkhedhnolcjaa

namespace Go.Proofs.Ytdhkhedhnolcjaa
open Go Go.RowKit

end Go.Proofs.Ytdhkhedhnolcjaa

namespace Go.Proofs.Ytdhkhedhnolcjaa
open Go Go.RowKit

def Got (w : World) (v : Value) (z r : Int) : Prop := ∃ n ao k c, v = .agg #[.bool n, .slice ao k c, .int .i64 r] ∧ Num w (.agg #[.bool n, .slice ao k c]) z
theorem Got.parts {w : World} {v : Value} {z r : Int} (h : Got w v z r) : ∃ n ao k c, v = .agg #[.bool n, .slice ao k c, .int .i64 r] ∧ Num w (.agg #[.bool n, .slice ao k c]) z := h
def zeroGot : List Value := [.bool false, .slice none 0 0, .int .i64 0]
theorem Got.zero (w : World) : Got w (.agg zeroGot.toArray) 0 0 := ⟨_, _, _, _, rfl, Num.zero w⟩
section
variable {os : List Oper} {Q : Exit → Act → World → Prop} {a : Act} {p : Pq} {B B0 : Nat} {w0 : World}
variable {i s : Nat} {d : Option Tmp} {ty : TypeId} {ps : String} {af : Array Edge} {gd : Option (Nat × Bool)}
end
end Go.Proofs.Ytdhkhedhnolcjaa

namespace Go.Proofs.Ytdhkhedhnolcjaa
open Go Go.RowKit

section
variable {os : List Oper} {Q : Exit → Act → World → Prop} {a : Act} {p : Pq} {B B0 : Nat} {w0 : World}
variable {i s : Nat} {d : Option Tmp} {ty : TypeId} {ps : String} {af : Array Edge} {gd : Option (Nat × Bool)}
end
end Go.Proofs.Ytdhkhedhnolcjaa

namespace Go.Proofs.Ytdhkhedhnolcjaa
open Go Go.RowKit

end Go.Proofs.Ytdhkhedhnolcjaa

namespace Go.Proofs.Ytdhkhedhnolcjaa
open Go Go.RowKit

def Li (W : World) (B : Nat) (v : Value) (xs : List Int) : Prop := W.ownsRow B 2 1 v xs.length (xs.map (Value.int .i64))
theorem Li.shape {W : World} {B : Nat} {v : Value} {xs : List Int} (h : Li W B v xs) : ∃ ao cap, v = .slice ao xs.length cap := by
 rcases h.2 with ⟨rfl, h0⟩ | ⟨g, cap, cur, rfl, _⟩
 ·exact ⟨none, 0, by rw [h0]⟩
 ·exact ⟨_, _, rfl⟩
theorem Li.nil (w : World) (B : Nat) : Li w B (.slice none 0 0) [] := World.ownsRow_nil w B _ _
theorem Li.one (w : World) {B : Nat} (hB : B ≤ w.heap.size) (x : Int) : Li (w.alloc (.cells #[.int .i64 x] 2)) B (.slice (some ⟨w.heap.size, 0, none⟩) 1 1) [x] :=
 ⟨rfl, .inr ⟨w.heap.size, 1, #[.int .i64 x], rfl, hB, heap_alloc_new _ _, Nat.le_refl _, by decide, rfl, rfl⟩⟩
theorem Li.mono {w w' : World} {B : Nat} {v : Value} {xs : List Int} (h : Li w B v xs) (hb : Below w.heap.size w w') : Li w' B v xs := by
 refine ⟨h.1, ?_⟩
 rcases h.2 with h2 | ⟨g, cap, cur, h1, h2, h3, h4⟩
 ·exact .inl h2
 ·exact .inr ⟨g, cap, cur, h1, h2, by rw [hb.block g (Array.getElem?_eq_some_iff.1 h3).1]; exact h3, h4⟩
theorem Li.cell {w : World} {B : Nat} {ao : Option Addr} {n c : Nat} {xs : List Int} (h : Li w B (.slice ao n c) xs) {i : Nat} (hi : i < xs.length) : ∃ g, ao = some ⟨g, 0, none⟩ ∧ w.cell? ⟨g, i, none⟩ = some (.int .i64 (xs.getD i 0)) := by
 rcases h.2 with ⟨_, h0⟩ | ⟨g, cap, cur, e, _⟩
 ·omega
 ·injection e with e1 e2 e3
  subst e1
  have := World.ownsRow.cells h (g := g) rfl i (.int .i64 (xs.getD i 0)) (by simp [hi])
  rw [add_plain'] at this
  exact ⟨g, rfl, this⟩
theorem Li.step {B : Nat} {w wr w1 : World} {v v' : Value} {xs : List Int} {d : Int} {o : Obj} (h : Li wr B v xs) (hB : B ≤ wr.heap.size) (hnx : Below B w wr)
  (hown' : w1.ownsRow B 2 1 v' (xs.length + 1) (xs.map (Value.int .i64) ++ [.int .i64 d])) (hgrow : (wr.alloc o).grownBy w1 v.ownBlock) :
  Li w1 B v' (xs ++ [d]) ∧ Below B w w1 := by
 refine ⟨?_, ?_⟩
 ·unfold Li; simpa using hown'
 ·exact (hnx.alloc hB o).grown hgrow (by simp; omega) (fun j hj => (World.ownsRow.lt h j hj).1)

end Go.Proofs.Ytdhkhedhnolcjaa

namespace Go.Proofs.Ytdhkhedhnolcjaa
open Go Go.RowKit

end Go.Proofs.Ytdhkhedhnolcjaa

namespace Go.Proofs.Ytdhkhedhnolcjaa
open Go Go.RowKit

end Go.Proofs.Ytdhkhedhnolcjaa

namespace Go.Proofs.Ytdhkhedhnolcjaa
open Go Go.RowKit

end Go.Proofs.Ytdhkhedhnolcjaa

namespace Go.Proofs.Ytdhkhedhnolcjaa
open Go Go.RowKit

def NumAt (w : World) (g i : Nat) (z : Int) : Prop := ∃ n ao k c, w.cell? ⟨g, i * 2, none⟩ = some (.bool n) ∧ w.cell? ⟨g, i * 2 + 1, none⟩ = some (.slice ao k c) ∧ Num w (.agg #[.bool n, .slice ao k c]) z
def Nums (w : World) (v : Value) (zs : List Int) : Prop := ∃ ao cap, v = .slice ao zs.length cap ∧ (zs = [] ∨ ∃ g, ao = some ⟨g, 0, none⟩ ∧ g < w.heap.size ∧ ∀ i z, zs[i]? = some z → NumAt w g i z)
theorem NumAt.mono {w w' : World} {g i : Nat} {z : Int} (h : NumAt w g i z) (hb : Below w.heap.size w w') : NumAt w' g i z := by
 obtain ⟨n, ao, k, c, h1, h2, h3⟩ := h
 have hl := World.block_lt_of_cell? w _ h1
 exact ⟨n, ao, k, c, (hb.cell (p := ⟨g, i * 2, none⟩) hl).trans h1, (hb.cell (p := ⟨g, i * 2 + 1, none⟩) hl).trans h2, h3.mono hb⟩
theorem Nums.mono {w w' : World} {v : Value} {zs : List Int} (h : Nums w v zs) (hb : Below w.heap.size w w') : Nums w' v zs := by
 obtain ⟨ao, cap, e, h⟩ := h
 refine ⟨ao, cap, e, ?_⟩
 rcases h with h | ⟨g, h1, h2, h3⟩
 ·exact .inl h
 ·exact .inr ⟨g, h1, Nat.lt_of_lt_of_le h2 hb.size, fun i z hi => (h3 i z hi).mono hb⟩
theorem Nums.at {w : World} {ao : Option Addr} {n c : Nat} {zs : List Int} (h : Nums w (.slice ao n c) zs) {i : Nat} (hi : i < zs.length) :
  ∃ g p r k d, ao = some ⟨g, 0, none⟩ ∧ w.cell? ⟨g, i * 2, none⟩ = some (.bool p) ∧ w.cell? ⟨g, i * 2 + 1, none⟩ = some (.slice r k d) ∧ Num w (.agg #[.bool p, .slice r k d]) (zs.getD i 0) := by
 obtain ⟨ao', cap, e, h⟩ := h
 injection e with e1 e2 e3
 subst e1
 rcases h with h | ⟨g, h1, h2, h3⟩
 ·subst h; simp at hi
 ·obtain ⟨p, r, k, d, g1, g2, g3⟩ := h3 i (zs.getD i 0) (by simp [hi])
  exact ⟨g, p, r, k, d, h1, g1, g2, g3⟩

def NumCell (us : List Value) (w : World) (own : Option Nat) (i : Nat) (z : Int) : Prop :=
 ∃ n ao k c, us[i * 2]? = some (.bool n) ∧ us[i * 2 + 1]? = some (.slice ao k c) ∧ (∀ a, ao = some a → k ≠ 0 → some a.block ≠ own) ∧ Num w (.agg #[.bool n, .slice ao k c]) z
def Ln (W : World) (B : Nat) (v : Value) (zs : List Int) : Prop := ∃ us, W.ownsRow B 31 2 v zs.length us ∧ ∀ i z, zs[i]? = some z → NumCell us W v.ownBlock i z
theorem Ln.shape {W : World} {B : Nat} {v : Value} {zs : List Int} (h : Ln W B v zs) : ∃ ao cap, v = .slice ao zs.length cap := by
 obtain ⟨us, h, _⟩ := h
 rcases h.2 with ⟨rfl, h0⟩ | ⟨g, cap, cur, rfl, _⟩
 ·exact ⟨none, 0, by rw [h0]⟩
 ·exact ⟨_, _, rfl⟩
theorem Ln.nil (w : World) (B : Nat) : Ln w B (.slice none 0 0) [] := ⟨[], World.ownsRow_nil w B _ _, fun i z h => by simp at h⟩
theorem Ln.mono {w w' : World} {B : Nat} {v : Value} {zs : List Int} (h : Ln w B v zs) (hb : Below w.heap.size w w') : Ln w' B v zs := by
 obtain ⟨us, h, hE⟩ := h
 refine ⟨us, ⟨h.1, ?_⟩, fun i z hi => ?_⟩
 ·rcases h.2 with h2 | ⟨g, cap, cur, h1, h2, h3, h4⟩
  ·exact .inl h2
  ·exact .inr ⟨g, cap, cur, h1, h2, by rw [hb.block g (Array.getElem?_eq_some_iff.1 h3).1]; exact h3, h4⟩
 ·obtain ⟨n, ao, k, c, g1, g2, g3, g4⟩ := hE i z hi
  exact ⟨n, ao, k, c, g1, g2, g3, g4.mono hb⟩
theorem Num.grown {w w' : World} {n : Bool} {ao : Option Addr} {k c : Nat} {z : Int} {row : Option Nat} (h : Num w (.agg #[.bool n, .slice ao k c]) z) (hg : w.grownBy w' row) (hne : ∀ a, ao = some a → k ≠ 0 → some a.block ≠ row) : Num w' (.agg #[.bool n, .slice ao k c]) z := by
 obtain ⟨neg, ao', k', c', xs, hv, hs, hn, hz⟩ := h
 injection hv with hv
 have hv2 := congrArg Array.toList hv
 simp at hv2
 obtain ⟨rfl, rfl, rfl, rfl⟩ := hv2
 refine ⟨n, ao, k, c, xs, rfl, ⟨hs.len, hs.cap, hs.cells.1, ?_⟩, hn, hz⟩
 rcases hs.cells.2 with h0 | ⟨b, off, rfl, hlt, hc⟩
 ·exact .inl h0
 ·rcases Nat.eq_zero_or_pos k with h0 | h0
  ·exact .inl (List.eq_nil_of_length_eq_zero (hs.len.trans h0))
  ·refine .inr ⟨b, off, rfl, Nat.lt_of_lt_of_le hlt hg.size, fun j hj => hg.cell (hc j hj) (show some b ≠ row from hne ⟨b, off, none⟩ rfl (by omega))⟩
theorem Num.blk {w : World} {n : Bool} {a : Addr} {k c : Nat} {z : Int} (h : Num w (.agg #[.bool n, .slice (some a) k c]) z) (hk : k ≠ 0) : a.block < w.heap.size := by
 obtain ⟨neg, ao', k', c', xs, hv, hs, hn, hz⟩ := h
 injection hv with hv
 have hv2 := congrArg Array.toList hv
 simp at hv2
 obtain ⟨rfl, rfl, rfl, rfl⟩ := hv2
 rcases hs.cells.2 with h0 | ⟨b, off, e, hlt, hc⟩
 ·have := hs.len; rw [h0] at this; simp at this; omega
 ·injection e with e; rw [e]; exact hlt
theorem Ln.step {B : Nat} {w wr w1 w2 : World} {v : Value} {zs : List Int} {us : List Value} {z : Int} {o : Obj} {g cap H : Nat} {ng : Bool} {ao : Option Addr} {n c : Nat}
  (hO : wr.ownsRow B 31 2 v zs.length us) (hE : ∀ i z, zs[i]? = some z → NumCell us wr v.ownBlock i z) (hB : B ≤ wr.heap.size) (hnx : Below B w wr) (hb : Below wr.heap.size wr w1)
  (hnew : ∀ a, ao = some a → wr.heap.size ≤ a.block) (hN : Num w1 (.agg #[.bool ng, .slice ao n c]) z)
  (hown' : w2.ownsRow B 31 2 (.slice (some ⟨g, 0, none⟩) (zs.length + 1) cap) (zs.length + 1) (us ++ [.bool ng, .slice ao n c])) (hgrow : (w1.alloc o).grownBy w2 v.ownBlock) (hat : v.ownBlock = some g ∨ g = H) (hH : (w1.alloc o).heap.size = H) :
  Ln w2 B (.slice (some ⟨g, 0, none⟩) (zs.length + 1) cap) (zs ++ [z]) ∧ Below B w w2 := by
 have hsz := hb.size
 have hH2 : w1.heap.size + 1 = H := by rw [← hH]; simp
 have hlt := hO.lt
 have hul := hO.1
 refine ⟨⟨us ++ [.bool ng, .slice ao n c], by simpa using hown', fun i y hi => ?_⟩, ?_⟩
 ·have hne : ∀ {a : Addr} {k : Nat} {m : Bool} {d : Nat} {x : Int}, Num w1 (.agg #[.bool m, .slice (some a) k d]) x → k ≠ 0 → some a.block ≠ v.ownBlock → a.block ≠ g := by
   intro a k m d x hx hk hr e
   have h1 := hx.blk hk
   rcases hat with h | h
   ·rw [h, e] at hr; exact hr rfl
   ·omega
  by_cases hil : i < zs.length
  ·rw [List.getElem?_append_left hil] at hi
   obtain ⟨p, r, k, d, g1, g2, g3, g4⟩ := hE i y hi
   refine ⟨p, r, k, d, ?_, ?_, fun a ha hk => ?_, ?_⟩
   ·rw [List.getElem?_append_left (by omega)]; exact g1
   ·rw [List.getElem?_append_left (by omega)]; exact g2
   ·subst ha
    intro e
    exact hne (g4.mono hb) hk (g3 _ rfl hk) (by simpa [Value.ownBlock] using e)
   ·exact ((g4.mono hb).mono (alloc_below w1 o)).grown hgrow g3
  ·have hi2 : i = zs.length := by
    rcases Nat.lt_or_ge i (zs ++ [z]).length with h | h
    ·simp at h; omega
    ·rw [List.getElem?_eq_none h] at hi; cases hi
   subst hi2
   rw [List.getElem?_append_right (Nat.le_refl _), Nat.sub_self] at hi
   simp only [List.getElem?_cons_zero, Option.some.injEq] at hi
   subst hi
   have hfar : ∀ a, ao = some a → some a.block ≠ v.ownBlock := fun a ha e => by
    have h1 := hnew a ha
    have h2 := (hlt a.block e.symm).2
    omega
   refine ⟨ng, ao, n, c, ?_, ?_, fun a ha hk => ?_, ?_⟩
   ·rw [List.getElem?_append_right (by omega), show zs.length * 2 - us.length = 0 by omega]; rfl
   ·rw [List.getElem?_append_right (by omega), show zs.length * 2 + 1 - us.length = 1 by omega]; rfl
   ·subst ha
    intro e
    exact hne hN hk (hfar _ rfl) (by simpa [Value.ownBlock] using e)
   ·exact (hN.mono (alloc_below w1 o)).grown hgrow fun a ha _ => hfar a ha
 ·exact ((hnx.trans (hb.mono hB)).alloc (by omega) o).grown hgrow (by simp; omega) (fun j hj => (hO.lt j hj).1)
end Go.Proofs.Ytdhkhedhnolcjaa

namespace Go.Proofs.Ytdhkhedhnolcjaa
open Go Go.RowKit

section
variable {os : List Oper} {Q : Exit → Act → World → Prop} {a : Act} {p : Pq} {B B0 : Nat} {w0 : World}
variable {i s : Nat} {d : Option Tmp} {ty : TypeId} {ps : String} {af : Array Edge} {gd : Option (Nat × Bool)}
end
end Go.Proofs.Ytdhkhedhnolcjaa

namespace Go.Proofs.Ytdhkhedhnolcjaa
open Go Go.RowKit

section
variable {n1 n2 n3 : Bool} {a1 a2 a3 : Option Addr} {k1 c1 k2 c2 k3 c3 : Nat} {xs1 xs2 xs3 : List Int}
end

section
variable {os : List Oper} {Q : Exit → Act → World → Prop} {a : Act} {p : Pq} {B B0 : Nat} {w0 : World}
variable {i s : Nat} {d : Option Tmp} {ty : TypeId} {ps : String} {af : Array Edge} {gd : Option (Nat × Bool)}
end
end Go.Proofs.Ytdhkhedhnolcjaa

namespace Go.Proofs.Ytdhkhedhnolcjaa
open Go Go.RowKit

section
variable {os : List Oper} {Q : Exit → Act → World → Prop} {a : Act} {p : Pq} {B B0 : Nat} {w0 : World}
variable {i s : Nat} {d : Option Tmp} {ty : TypeId} {ps : String} {af : Array Edge} {gd : Option (Nat × Bool)}
end
end Go.Proofs.Ytdhkhedhnolcjaa

namespace Go.Proofs.Ytdhkhedhnolcjaa
open Go Go.RowKit

section
variable {os : List Oper} {Q : Exit → Act → World → Prop} {a : Act} {p : Pq} {B B0 : Nat} {w0 : World}
variable {i s : Nat} {d : Option Tmp} {ty : TypeId} {ps : String} {af : Array Edge} {gd : Option (Nat × Bool)}
end
end Go.Proofs.Ytdhkhedhnolcjaa

namespace Go.Proofs.Ytdhkhedhnolcjaa
open Go Go.RowKit

end Go.Proofs.Ytdhkhedhnolcjaa

namespace Go.Proofs.Ytdhkhedhnolcjaa
open Go Go.RowKit

end Go.Proofs.Ytdhkhedhnolcjaa

namespace Go.Proofs.Ytdhkhedhnolcjaa
open Go Go.RowKit

section
variable {os : List Oper} {Q : Exit → Act → World → Prop} {a : Act} {p : Pq} {B B0 : Nat} {w0 : World}
variable {i s : Nat} {d : Option Tmp} {ty : TypeId} {ps : String} {af : Array Edge}
end
end Go.Proofs.Ytdhkhedhnolcjaa

namespace Go.Proofs.Ytdhkhedhnolcjaa
open Go Go.RowKit

theorem Fr.store {w0 W : World} {bs : List (Nat × Nat × Fq)} (E : Fr w0 bs W) (k : Nat) {b m : Nat} {F F' : Fq} (hk : bs[k]? = some (b, m, F)) {us : List Value} (hl : us.length = m) (ht : Tame us) (hF : F'.P (.agg us.toArray) W) : Fr w0 (bs.set k (b, m, F')) (putFrom W b 0 us) := by
 have hm := List.mem_of_getElem? hk
 have hkl : k < bs.length := (List.getElem?_eq_some_iff.1 hk).1
 have hap : ∀ i, i < bs.length → i ≠ k → ∀ y, bs[i]? = some y → y.1 ≠ b := by
  intro i hi hne y hy e
  have h1 := E.apart
  rw [List.nodup_iff_pairwise_ne, List.pairwise_map, List.pairwise_iff_getElem] at h1
  have hy' := (List.getElem?_eq_some_iff.1 hy).2
  have hk' := (List.getElem?_eq_some_iff.1 hk).2
  rcases Nat.lt_or_gt_of_ne hne with h | h
  ·have := h1 i k hi hkl h
   rw [hy', hk'] at this
   exact this e
  ·have := h1 k i hkl hi h
   rw [hy', hk'] at this
   exact this e.symm
 refine ⟨putFrom_below (E.boxes _ hm).1 us 0 _ _ E.below, fun x hx => ?_, ?_⟩
 ·obtain ⟨i, hi, e⟩ := List.mem_iff_getElem.1 hx
  rw [List.getElem_set] at e
  split at e
  ·subst e
   exact ⟨(E.boxes _ hm).1, (E.boxes _ hm).2.same hl ht hF⟩
  ·rename_i hne
   have hi' : i < bs.length := by simpa using hi
   have hx' : bs[i]? = some x := by rw [List.getElem?_eq_getElem hi', e]
   have hxm := List.mem_of_getElem? hx'
   exact ⟨(E.boxes _ hxm).1, (E.boxes _ hxm).2.other (E.boxes _ hm).2 (hap i hi' (fun h => hne h.symm) x hx') hl⟩
 ·have e : (bs.set k (b, m, F')).map (·.1) = bs.map (·.1) := by
   apply List.ext_getElem?
   intro i
   rw [List.getElem?_map, List.getElem?_map, List.getElem?_set]
   split
   ·rename_i h
    subst h
    simp [hkl]
    exact (congrArg (·.1) (List.getElem?_eq_some_iff.1 hk).2).symm
   ·rfl
  rw [e]
  exact E.apart
theorem oldOf_of {bs : List (Nat × Nat × Fq)} {ks : List (Option (Nat × Fq))} {d : Nat} (hl : ks.length = bs.length) : ∀ x ∈ bs, ∃ o ∈ oldOf bs ks d, o.b = x.1 ∧ o.m = x.2.1 ∧ o.F0 = x.2.2 := by
 induction bs generalizing ks d with
 | nil => intro x hx; simp at hx
 | cons y r ih =>
  obtain ⟨b, m, F⟩ := y
  cases ks with
  | nil => simp at hl
  | cons k ks =>
   have hl' : ks.length = r.length := by simpa using hl
   intro x hx
   rcases List.mem_cons.1 hx with rfl | hx
   ·cases k with
    | none => exact ⟨_, by simp only [oldOf]; exact List.mem_cons_self .., rfl, rfl, rfl⟩
    | some kk => obtain ⟨k, F1⟩ := kk; exact ⟨_, by simp only [oldOf]; exact List.mem_cons_self .., rfl, rfl, rfl⟩
   ·cases k with
    | none => obtain ⟨o, ho, h⟩ := ih (ks := ks) hl' x hx; exact ⟨o, by simp only [oldOf]; exact List.mem_cons_of_mem _ ho, h⟩
    | some kk => obtain ⟨k, F1⟩ := kk; obtain ⟨o, ho, h⟩ := ih (ks := ks) hl' x hx; exact ⟨o, by simp only [oldOf]; exact List.mem_cons_of_mem _ ho, h⟩
theorem fr_of_G {w0 W w : World} {C : List Fq} {bs : List (Nat × Nat × Fq)} {ks : List (Option (Nat × Fq))} {new : List Nb} {len : Nat} {L : Nat → Bool} {vs : Nat → Value} (E : Fr w0 bs W) (hG : (plq C bs ks new len).G w0.heap.size W.heap.size w0 L vs w) (hl : ks.length = bs.length) (hs : ∀ o ∈ (plq C bs ks new len).old, o.F1 = o.F0) : Fr w0 bs w := by
 refine ⟨hG.below, fun x hx => ?_, E.apart⟩
 obtain ⟨o, ho, h1, h2, h3⟩ := oldOf_of (d := len) hl x hx
 have hB := hG.old o ho
 rw [hs o ho, ite_self, h1, h2, h3] at hB
 exact ⟨(E.boxes x hx).1, hB⟩
end Go.Proofs.Ytdhkhedhnolcjaa

namespace Go.Proofs.Ytdhkhedhnolcjaa
open Go Go.RowKit

noncomputable def zeroB (T : Nat) (us : List Value) : Prop := (Try.prog.info? T).map (·.zero) = some (some (.agg us.toArray))
theorem run_alloc_zero {T : Nat} {us : List Value} (h : zeroB T us) {d : Option Tmp} {ty : TypeId} {ps : String} {af : Array Edge} {gd : Option (Nat × Bool)} (ρ : Operand → Value) (w : World) : (execOp ρ { dst := d, op := .alloc T, type := ty, pos := ps, after := af, guard := gd }).run Try.prog w = .ok (.value (.pointer (some ⟨w.heap.size, 0, none⟩))) (w.alloc (.cells us.toArray T)) := by
 unfold zeroB at h
 cases hi : Try.prog.info? T with
 | none => simp [hi] at h
 | some i =>
  simp [hi] at h
  have hz : (zeroValue T).run Try.prog w = .ok (.agg us.toArray) w := by
   simp [zeroValue, typeInfo, hi, h]
  simp only [execOp, Instr.alloc, Sem.run_bind, hz, Result.andThen_ok]
  simp [go_sem, newVar, newRow, Value.cells]
theorem region_alloc {Q : Exit → Act → World → Prop} {a : Act} {W : World} {id T : Nat} {us : List Value} (hz : zeroB T us) {d : Option Tmp} {ty : TypeId} {ps : String} (h : Q .normal (a.put d (.pointer (some ⟨W.heap.size, 0, none⟩))) (W.alloc (.cells us.toArray T))) : (Code.region id #[{ dst := d, op := .alloc T, type := ty, pos := ps, after := #[], guard := none }] false).wp Try.prog Q a W := by
 refine wp_region_list ?_
 refine wpList_plain rfl fun K hK => ?_
 unfold Oper.wp
 rw [run_alloc_zero hz]
 exact hK _ _ h
end Go.Proofs.Ytdhkhedhnolcjaa

namespace Go.Proofs.Ytdhkhedhnolcjaa
open Go Go.RowKit

def AllBut (R : Nat → Oper → Prop) : List Oper → Nat → Prop
 | [], _ => True
 | [_], _ => True
 | o :: o' :: os, k => R k o ∧ AllBut R (o' :: os) (k + 1)
theorem AllBut.at {R : Nat → Oper → Prop} : ∀ {os : List Oper} {k : Nat}, AllBut R os k → ∀ (i : Nat) (o : Oper), i + 1 < os.length → os[i]? = some o → R (k + i) o
 | [], _, _, i, o, h, _ => by simp at h
 | [_], _, _, i, o, h, _ => by simp at h
 | o' :: o'' :: os, k, hh, 0, o, _, h => by simp at h; subst h; exact hh.1
 | o' :: o'' :: os, k, hh, i + 1, o, hl, h => by
  have := AllBut.at (os := o'' :: os) hh.2 i o (by simpa using hl) (by simpa using h)
  rwa [show k + 1 + i = k + (i + 1) by omega] at this
theorem oldOf_none {bs : List (Nat × Nat × Fq)} {ks : List (Option (Nat × Fq))} {d : Nat} (hk : ks.all (·.isNone) = true) : ∀ o ∈ oldOf bs ks d, o.F1 = o.F0 := by
 induction bs generalizing ks d with
 | nil => intro o ho; simp [oldOf] at ho
 | cons y r ih =>
  obtain ⟨b, m, F⟩ := y
  cases ks with
  | nil => intro o ho; simp [oldOf] at ho
  | cons k ks =>
   cases k with
   | some kk => simp at hk
   | none =>
    simp only [List.all_cons, Bool.and_eq_true] at hk
    intro o ho
    simp only [oldOf, List.mem_cons] at ho
    rcases ho with rfl | ho
    ·rfl
    ·exact ih hk.2 o ho
section
variable {os : List Oper} {Q : Exit → Act → World → Prop} {a : Act} {p : Pq} {B B0 : Nat} {w0 : World}
def LastQ (os : List Oper) (Q : Exit → Act → World → Prop) (a : Act) (p : Pq) (B B0 : Nat) (w0 : World) (bs bs' : List (Nat × Nat × Fq)) (i : Nat) (o : Oper) : Prop :=
 os.toArray[i]? = some o → ∀ L vs w, Fr w0 bs w → p.G B B0 w0 L vs w → (∀ e ∈ o.after, Region.binds .any e = true → L e.on = true) →
  wpOp Try.prog os.toArray Q i (fun a' w' => ∃ v, a' = (lay os.toArray L vs os.toArray.size a).put o.dst v ∧ Fr w0 bs' w') (lay os.toArray L vs os.toArray.size a) w
theorem region_ref {id : Nat} {dr : Bool} {C : List Fq} {bs bs' : List (Nat × Nat × Fq)} {ks : List (Option (Nat × Fq))} {W : World} {o : Oper} (k : Nat) (hk : os.length = k + 1) (ho : os[k]? = some o) (E : Fr w0 bs W) (hok : okB os.length bs.length ks [] = true) (hn : ks.all (·.isNone) = true) (hm : Try.prog.follows .mixedOrders = true) (ha : apartB (os.map (·.dst)) = true) (hb : backB os 0 = true)
  (hdep : (List.range k).all (leadsB os 9 k) = true)
  (hs : (plq C bs ks [] os.length).Ok w0.heap.size W.heap.size → AllBut (StepQ os Q a (plq C bs ks [] os.length) w0.heap.size W.heap.size w0) os 0)
  (hl : (plq C bs ks [] os.length).Ok w0.heap.size W.heap.size → LastQ os Q a (plq C bs ks [] os.length) w0.heap.size W.heap.size w0 bs bs' k o)
  (hf : ∀ L vs W', (∀ j, j < os.length → L j = true) → Fr w0 bs' W' → Q .normal (lay os.toArray L vs os.length a) W') : (Code.region id os.toArray dr).wp Try.prog Q a W := by
 simp only [okB, Bool.and_eq_true, beq_iff_eq] at hok
 obtain ⟨⟨⟨⟨⟨k1, k2⟩, k3⟩, k4⟩, k5⟩, k6⟩ := hok
 have n2 := nodup_count k2
 have hp : (plq C bs ks [] os.length).Ok w0.heap.size W.heap.size := by
  refine ⟨fun o ho => ?_, oldOf_ne E.apart, oldOf_inj n2, fun n hn => by simp [plq] at hn, fun n hn => by simp [plq] at hn, E.below.size⟩
  have h := E.boxes _ (oldOf_mem ho)
  exact ⟨h.1, h.2.lt⟩
 have h0 : ∀ W', Below W.heap.size W W' → W'.heap.size = W.heap.size → (plq C bs ks [] os.length).G w0.heap.size W.heap.size w0 (fun _ => false) (fun _ => undef) W' := fun W' hW hsz =>
  ⟨E.below.trans (hW.mono E.below.size), by omega, fun _ h => (by cases h), fun o ho => by simpa using (E.boxes _ (oldOf_mem ho)).2.mono hW, fun _ _ h => (by cases h), fun _ _ _ _ _ h => (by cases h)⟩
 have hs' := hs hp
 have hl' := hl hp
 let I : (Nat → Bool) → (Nat → Value) → World → Prop := fun L vs w => (L k = true → Fr w0 bs' w) ∧ (L k = false → (plq C bs ks [] os.length).G w0.heap.size W.heap.size w0 L vs w)
 have hstep : ∀ i o', os.toArray[i]? = some o' → ∀ L vs w, I L vs w → L i = false → (∀ e ∈ o'.after, Region.binds .any e = true → L e.on = true) → ClosedL os.toArray L →
   wpOp Try.prog os.toArray Q i (fun a' w' => ∃ v, a' = (lay os.toArray L vs os.toArray.size a).put o'.dst v ∧ I (up L i true) (up vs i v) w') (lay os.toArray L vs os.toArray.size a) w := by
  intro i o' ho' L vs w hI hL hd hc
  have hio : os[i]? = some o' := by simpa using ho'
  have hlt : i < os.length := (List.getElem?_eq_some_iff.1 hio).1
  by_cases hik : i = k
  ·subst hik
   obtain rfl : o = o' := by rw [ho] at hio; exact Option.some.inj hio
   have hG := hI.2 hL
   refine wpOp_mono ?_ (hl' ho' L vs w (fr_of_G E hG k1 (oldOf_none hn)) hG hd)
   rintro a' w' ⟨v, e, h2⟩
   exact ⟨v, e, fun _ => h2, fun h3 => absurd h3 (by rw [up_same]; simp)⟩
  ·have hLk : L k = false := not_yet hc (List.all_eq_true.1 hdep i (List.mem_range.2 (by omega))) hL
   have hst := hs'.at i o' (by omega) hio
   rw [Nat.zero_add] at hst
   refine wpOp_mono ?_ (hst ho' L vs w (hI.2 hLk) hL hd hc)
   rintro a' w' ⟨v, e, h2⟩
   exact ⟨v, e, fun h3 => absurd h3 (by rw [up_ne _ _ (by omega), hLk]; simp), fun _ => h2⟩
 have hend : ∀ L vs w, (∀ j, j < os.toArray.size → L j = true) → I L vs w → Q .normal (lay os.toArray L vs os.toArray.size a) w := by
  intro L vs w hL hI
  have hL' : ∀ j, j < os.length → L j = true := by simpa using hL
  have := hf L vs w hL' (hI.1 (hL' k (by omega)))
  simpa using this
 cases dr with
 | true => exact wp_region_inv hm (apart_of ha) (back_of hb) I ⟨fun h => by simp at h, fun _ => h0 W.drew (Below.refl _ _).drew rfl⟩ hstep hend
 | false => exact wp_region_inv_plain (apart_of ha) (back_of hb) I ⟨fun h => by simp at h, fun _ => h0 W (Below.refl _ _) rfl⟩ hstep hend
variable {i s : Nat} {d : Option Tmp} {ty : TypeId} {ps : String} {af : Array Edge} {gd : Option (Nat × Bool)}
theorem q_lastRef {f : FuncId} {xs : Array Operand} {ts : Array TypeId} {bs bs' : List (Nat × Nat × Fq)} (hen : ∀ args w, (callFunc f args).run Try.prog w = .ok (.enter f args) w) (hg : GdQ os a p B B0 w0 af gd)
  (hr : ∀ L vs w, Fr w0 bs w → p.G B B0 w0 L vs w → (∀ e ∈ af, Region.binds .any e = true → L e.on = true) → ∃ args, xs.map (lay os.toArray L vs os.toArray.size a).eval = args ∧ Calls Try.prog f args w fun e w' => ∃ v', e = .returned v' ∧ Fr w0 bs' w') :
  LastQ os Q a p B B0 w0 bs bs' i { dst := d, op := .call { callee := .value (.func f), args := xs, argTypes := ts }, type := ty, pos := ps, after := af, guard := gd } := by
 intro hio L vs w hE hG hd
 refine wpOp_step hio fun K' hK => ?_
 obtain ⟨args, hx, hC⟩ := hr L vs w hE hG hd
 rw [if_pos (wanted_of (o := { dst := d, op := .call { callee := .value (.func f), args := xs, argTypes := ts }, type := ty, pos := ps, after := af, guard := gd }) hg hG hd)]
 have e : (execOp (lay os.toArray L vs os.toArray.size a).eval ({ dst := d, op := .call { callee := .value (.func f), args := xs, argTypes := ts }, type := ty, pos := ps, after := af, guard := gd } : Oper)).run Try.prog w = (.ok (.enter f args) w) := by
  have hf : (lay os.toArray L vs os.toArray.size a).eval (.func f) = .func (.func f) #[] #[] := rfl
  generalize (lay os.toArray L vs os.toArray.size a).eval = ρ at hx hf
  simp [execOp, go_sem, hx, hf, hen]
 unfold Oper.wp
 rw [e]
 refine hC.mono ?_
 rintro e' w' ⟨v', rfl, h⟩
 exact hK _ _ ⟨_, rfl, h⟩
theorem q_lastRef1 {x : Operand} {f : FuncId} {ts : Array TypeId} {bs bs' : List (Nat × Nat × Fq)} {b : Nat} (hen : ∀ args w, (callFunc f args).run Try.prog w = .ok (.enter f args) w)
  (hx : SrcQ os a p B B0 w0 af x fun v _ => v = .pointer (some ⟨b, 0, none⟩)) (hg : GdQ os a p B B0 w0 af gd) (hC : ∀ w, Fr w0 bs w → Calls Try.prog f #[.pointer (some ⟨b, 0, none⟩)] w fun e w' => ∃ v', e = .returned v' ∧ Fr w0 bs' w') :
  LastQ os Q a p B B0 w0 bs bs' i { dst := d, op := .call { callee := .value (.func f), args := #[x], argTypes := ts }, type := ty, pos := ps, after := af, guard := gd } :=
 q_lastRef hen hg fun L vs w hE hG hd => ⟨#[_], by
  have e : (lay os.toArray L vs os.toArray.size a).eval x = .pointer (some ⟨b, 0, none⟩) := hx L vs w hG hd
  simp only [List.map_toArray, List.map_cons, List.map_nil, e], hC w hE⟩
theorem q_lastRef2 {x y : Operand} {G : Value → World → Prop} {f : FuncId} {ts : Array TypeId} {bs bs' : List (Nat × Nat × Fq)} {b : Nat} (hen : ∀ args w, (callFunc f args).run Try.prog w = .ok (.enter f args) w)
  (hx : SrcQ os a p B B0 w0 af x fun v _ => v = .pointer (some ⟨b, 0, none⟩)) (hy : SrcQ os a p B B0 w0 af y G) (hg : GdQ os a p B B0 w0 af gd) (hC : ∀ v w, Fr w0 bs w → G v w → Calls Try.prog f #[.pointer (some ⟨b, 0, none⟩), v] w fun e w' => ∃ v', e = .returned v' ∧ Fr w0 bs' w') :
  LastQ os Q a p B B0 w0 bs bs' i { dst := d, op := .call { callee := .value (.func f), args := #[x, y], argTypes := ts }, type := ty, pos := ps, after := af, guard := gd } :=
 q_lastRef hen hg fun L vs w hE hG hd => ⟨#[_, _], by
  have e : (lay os.toArray L vs os.toArray.size a).eval x = .pointer (some ⟨b, 0, none⟩) := hx L vs w hG hd
  simp only [List.map_toArray, List.map_cons, List.map_nil, e], hC _ w hE (hy L vs w hG hd)⟩
end
theorem size__2__2_api_Int : sizeB 84 8 = true := by kernel_rfl
theorem fits0__2__2_api_Int (w : World) : Fits w [.n 0, .n 0, .n 0, .n 0] [.bool false, .slice none 0 0, .bool false, .slice none 0 0, .bool false, .slice none 0 0, .bool false, .slice none 0 0] := ⟨_, _, _, rfl, Num.zero w, _, _, _, rfl, Num.zero w, _, _, _, rfl, Num.zero w, _, _, _, rfl, Num.zero w, rfl⟩
theorem fits0P__2__2_api_Int (w : World) : (Fq.st [.n 0, .n 0, .n 0, .n 0]).P (.agg ([.bool false, .slice none 0 0, .bool false, .slice none 0 0, .bool false, .slice none 0 0, .bool false, .slice none 0 0] : List Value).toArray) w := ⟨_, rfl, fits0__2__2_api_Int w⟩
theorem ralloc__2__2_api_Int {d : Option Tmp} {ty : TypeId} {ps : String} {af : Array Edge} (ρ : Operand → Value) (w : World) : (execOp ρ { dst := d, op := .alloc 84, type := ty, pos := ps, after := af, guard := none }).run Try.prog w = .ok (.value (.pointer (some ⟨w.heap.size, 0, none⟩))) (w.alloc (.cells [.bool false, .slice none 0 0, .bool false, .slice none 0 0, .bool false, .slice none 0 0, .bool false, .slice none 0 0].toArray 84)) := by
 simp [execOp, go_sem]
theorem zero__2__2_api_Int : zeroB 84 [.bool false, .slice none 0 0, .bool false, .slice none 0 0, .bool false, .slice none 0 0, .bool false, .slice none 0 0] := by show (Try.prog.info? 84).map (·.zero) = some (some (.agg _)); kernel_rfl
section
variable {os : List Oper} {Q : Exit → Act → World → Prop} {a : Act} {p : Pq} {B B0 : Nat} {w0 : World}
variable {i s : Nat} {d : Option Tmp} {ty : TypeId} {ps : String} {af : Array Edge} {gd : Option (Nat × Bool)}
theorem q_build__2__2_api_Int_01 {x0 : Operand} {z0_0 : Int} {z0_1 : Int} {x1 : Operand} {z1_0 : Int} {z1_1 : Int} (hp : p.Ok B B0) (hF : p.Free i) (hg : GdQ os a p B B0 w0 af gd) (h0 : SrcQ os a p B B0 w0 af x0 (Fq.st [.n z0_0, .n z0_1]).P) (h1 : SrcQ os a p B B0 w0 af x1 (Fq.st [.n z1_0, .n z1_1]).P) (hC : ∀ v w, (Fq.st [.n z0_0, .n z0_1, .n z1_0, .n z1_1]).P v w → (p.c i).P v w) :
  StepQ os Q a p B B0 w0 i { dst := d, op := .build 84 #[(0, x0), (1, x1)], type := ty, pos := ps, after := af, guard := gd } := by
 refine stq_val hp hF hg fun L vs w hG hL hc hd => ?_
 have g0 := h0 L vs w hG hd
 obtain ⟨_, e0, _, _, _, rfl, a0_n0, _, _, _, rfl, a0_n1, rfl⟩ := g0
 obtain ⟨n0_0, ao0_0, k0_0, c0_0, e0_0⟩ := a0_n0.parts
 have m0_0 := a0_n0
 rw [e0_0] at m0_0
 obtain ⟨n0_1, ao0_1, k0_1, c0_1, e0_1⟩ := a0_n1.parts
 have m0_1 := a0_n1
 rw [e0_1] at m0_1
 injection e0_0 with f0_0
 have f0_0 := congrArg Array.toList f0_0
 simp at f0_0
 obtain ⟨rfl, rfl⟩ := f0_0
 injection e0_1 with f0_1
 have f0_1 := congrArg Array.toList f0_1
 simp at f0_1
 obtain ⟨rfl, rfl⟩ := f0_1
 have g1 := h1 L vs w hG hd
 obtain ⟨_, e1, _, _, _, rfl, a1_n0, _, _, _, rfl, a1_n1, rfl⟩ := g1
 obtain ⟨n1_0, ao1_0, k1_0, c1_0, e1_0⟩ := a1_n0.parts
 have m1_0 := a1_n0
 rw [e1_0] at m1_0
 obtain ⟨n1_1, ao1_1, k1_1, c1_1, e1_1⟩ := a1_n1.parts
 have m1_1 := a1_n1
 rw [e1_1] at m1_1
 injection e1_0 with f1_0
 have f1_0 := congrArg Array.toList f1_0
 simp at f1_0
 obtain ⟨rfl, rfl⟩ := f1_0
 injection e1_1 with f1_1
 have f1_1 := congrArg Array.toList f1_1
 simp at f1_1
 obtain ⟨rfl, rfl⟩ := f1_1
 refine ⟨.agg #[.bool n0_0, .slice ao0_0 k0_0 c0_0, .bool n0_1, .slice ao0_1 k0_1 c0_1, .bool n1_0, .slice ao1_0 k1_0 c1_0, .bool n1_1, .slice ao1_1 k1_1 c1_1], ?_, hC _ _ ⟨_, rfl, _, _, _, rfl, m0_0, _, _, _, rfl, m0_1, _, _, _, rfl, m1_0, _, _, _, rfl, m1_1, rfl⟩⟩
 generalize (lay os.toArray L vs os.toArray.size a).eval = ρ at e0 e1
 simp [execOp, go_sem, e0, e1]
theorem q_build__2_api_Int_01 {x0 : Operand} {z0 : Int} {x1 : Operand} {z1 : Int} (hp : p.Ok B B0) (hF : p.Free i) (hg : GdQ os a p B B0 w0 af gd) (h0 : SrcQ os a p B B0 w0 af x0 fun v w => Num w v z0) (h1 : SrcQ os a p B B0 w0 af x1 fun v w => Num w v z1) (hC : ∀ v w, (Fq.st [.n z0, .n z1]).P v w → (p.c i).P v w) :
  StepQ os Q a p B B0 w0 i { dst := d, op := .build 83 #[(0, x0), (1, x1)], type := ty, pos := ps, after := af, guard := gd } := by
 refine stq_val hp hF hg fun L vs w hG hL hc hd => ?_
 have g0 := h0 L vs w hG hd
 obtain ⟨n0, ao0, k0, c0, e0⟩ := g0.parts
 have m0 : Num w (.agg #[.bool n0, .slice ao0 k0 c0]) z0 := by rw [← e0]; exact g0
 have g1 := h1 L vs w hG hd
 obtain ⟨n1, ao1, k1, c1, e1⟩ := g1.parts
 have m1 : Num w (.agg #[.bool n1, .slice ao1 k1 c1]) z1 := by rw [← e1]; exact g1
 refine ⟨.agg #[.bool n0, .slice ao0 k0 c0, .bool n1, .slice ao1 k1 c1], ?_, hC _ _ ⟨_, rfl, _, _, _, rfl, m0, _, _, _, rfl, m1, rfl⟩⟩
 generalize (lay os.toArray L vs os.toArray.size a).eval = ρ at e0 e1
 simp [execOp, go_sem, e0, e1]
end
set_option maxRecDepth 100000 in
set_option maxHeartbeats 4000000 in
theorem exPRows {w : World} {v : Value} {x1 x2 x3 x4 : Int} (h : (Fq.st [.n x1, .n x2, .n x3, .n x4]).P v w) (hx1 : ab x1 < pw 60) (hx2 : ab x2 < pw 60) (hx3 : ab x3 < pw 60) (hx4 : ab x4 < pw 60) :
  Calls Try.prog 49 #[v] w fun e w' => ∃ v', e = .returned v' ∧ Below w.heap.size w w' ∧ (Fq.st [.n x1, .n x2, .n x3, .n x4]).P v' w' := by
 replace hx1 := hidd hx1
 replace hx2 := hidd hx2
 replace hx3 := hidd hx3
 replace hx4 := hidd hx4
 obtain ⟨_, rfl, hf0⟩ := h
 have hF0 := hf0
 obtain ⟨y0_p0, y0_q0, _, rfl, _y0_n0, y0_p1, y0_q1, _, rfl, _y0_n1, y0_p2, y0_q2, _, rfl, _y0_n2, y0_p3, y0_q3, _, rfl, _y0_n3, rfl⟩ := hf0
 obtain ⟨w1, b1, hw1, hb1, hs1, E⟩ := fr_start w (F := Fq.st [.n x1, .n x2, .n x3, .n x4]) (us := [y0_p0, y0_q0, y0_p1, y0_q1, y0_p2, y0_q2, y0_p3, y0_q3]) 36 rfl (by simp) (hF0.tame) (show (Fq.st [.n x1, .n x2, .n x3, .n x4]).P _ w from ⟨_, rfl, hF0⟩)
 obtain ⟨w2, b2, hw2, hb2, hs2, E⟩ := fr_more E hs1 (F := Fq.st [.n 0, .n 0, .n 0, .n 0]) (us := [.bool false, .slice none 0 0, .bool false, .slice none 0 0, .bool false, .slice none 0 0, .bool false, .slice none 0 0]) 84 rfl (by simp) ((Fits.tame (fits0__2__2_api_Int w))) (fits0P__2__2_api_Int _)
 go_enter Try.func49, Try.ntmps49
 go_upto_region 1 with (fail)
 rw [← hw1]
 rw [← hw2]
 rw [← hb2]
 rw [← hb1]
 clear hw1 hw2 hb1 hb2 hs2 hs1
 refine region_fr (C := [Fq.is (.pointer (some ⟨b1, 0, none⟩)), Fq.num x1, Fq.is (.pointer (some ⟨b1, 2, none⟩)), Fq.num x2, Fq.st [.n x1, .n x2], Fq.is (.pointer (some ⟨b1, 4, none⟩)), Fq.num x3, Fq.is (.pointer (some ⟨b1, 6, none⟩)), Fq.num x4, Fq.st [.n x3, .n x4], Fq.st [.n x1, .n x2, .n x3, .n x4], Fq.any]) (ks := [some (11, Fq.st [.n x1, .n x2, .n x3, .n x4]), none]) (new := []) E rfl (by kernel_rfl) rfl rfl (fun hp => ⟨?_, ?_, ?_, ?_, ?_, ?_, ?_, ?_, ?_, ?_, ?_, ?_, trivial⟩) ?_
 ·exact q_addr (b := b1) (off := 0) (off' := 0) hp (free_of rfl) trivial (sqo 1) (fun ρ w h => by simp [execOp, go_sem, h]) (fun _ => rfl)
 ·exact q_loadSt (off := 0) (l := 2) (fs := [.n x1, .n x2, .n x3, .n x4]) (gs := [.n x1]) hp (free_of rfl) trivial (mq 1 rfl) (.inl rfl) rfl row_api_Int rfl (sqi 0) (fun v w h => st_num h)
 ·exact q_addr (b := b1) (off := 0) (off' := 2) hp (free_of rfl) trivial (sqo 1) (fun ρ w h => by simp [execOp, go_sem, h]) (fun _ => rfl)
 ·exact q_loadSt (off := 2) (l := 2) (fs := [.n x1, .n x2, .n x3, .n x4]) (gs := [.n x2]) hp (free_of rfl) trivial (mq 1 rfl) (.inl rfl) rfl row_api_Int rfl (sqi 2) (fun v w h => st_num h)
 ·exact q_build__2_api_Int_01 (z0 := x1) (z1 := x2) hp (free_of rfl) trivial (sqi 1) (sqi 3) (fun v w h => h)
 ·exact q_addr (b := b1) (off := 0) (off' := 4) hp (free_of rfl) trivial (sqo 1) (fun ρ w h => by simp [execOp, go_sem, h]) (fun _ => rfl)
 ·exact q_loadSt (off := 4) (l := 2) (fs := [.n x1, .n x2, .n x3, .n x4]) (gs := [.n x3]) hp (free_of rfl) trivial (mq 1 rfl) (.inl rfl) rfl row_api_Int rfl (sqi 5) (fun v w h => st_num h)
 ·exact q_addr (b := b1) (off := 0) (off' := 6) hp (free_of rfl) trivial (sqo 1) (fun ρ w h => by simp [execOp, go_sem, h]) (fun _ => rfl)
 ·exact q_loadSt (off := 6) (l := 2) (fs := [.n x1, .n x2, .n x3, .n x4]) (gs := [.n x4]) hp (free_of rfl) trivial (mq 1 rfl) (.inl rfl) rfl row_api_Int rfl (sqi 7) (fun v w h => st_num h)
 ·exact q_build__2_api_Int_01 (z0 := x3) (z1 := x4) hp (free_of rfl) trivial (sqi 6) (sqi 8) (fun v w h => h)
 ·exact q_build__2__2_api_Int_01 (z0_0 := x1) (z0_1 := x2) (z1_0 := x3) (z1_1 := x4) hp (free_of rfl) trivial (sqi 4) (sqi 9) (fun v w h => h)
 ·exact q_storeOldSt (off := 0) (fs := [.n 0, .n 0, .n 0, .n 0]) (gs := [.n x1, .n x2, .n x3, .n x4]) (fs' := [.n x1, .n x2, .n x3, .n x4]) hp (mq 0 rfl) rfl rfl rfl size__2__2_api_Int rfl (sqo 2) (sq_in 10 rfl rfl (by simp) rfl (fun v w h => fitv_st h)) (fun _ _ => trivial) (newik_ne rfl)
 intro L vs w3 nb hL hC hn E3
 have e0 : vs 0 = .pointer (some ⟨b1, 0, none⟩) := hC 0 (by simp)
 have e2 : vs 2 = .pointer (some ⟨b1, 2, none⟩) := hC 2 (by simp)
 have e5 : vs 5 = .pointer (some ⟨b1, 4, none⟩) := hC 5 (by simp)
 have e7 : vs 7 = .pointer (some ⟨b1, 6, none⟩) := hC 7 (by simp)
 have E : Fr w [(b2, 8, Fq.st [.n x1, .n x2, .n x3, .n x4]), (b1, 8, Fq.st [.n x1, .n x2, .n x3, .n x4])] w3 := E3
 rw [lay_all hL]
 simp only [putAll, dstOf, List.length_cons, List.length_nil, Nat.zero_add, Nat.reduceAdd, List.getElem?_toArray, List.getElem?_cons_zero, List.getElem?_cons_succ, Option.bind_some, Act.put, List.setIfInBounds_toArray, List.set_cons_succ, List.set_cons_zero]
 rw [e0, e2, e5, e7]
 generalize vs 1 = u3_1
 generalize vs 3 = u3_3
 generalize vs 4 = u3_4
 generalize vs 6 = u3_6
 generalize vs 8 = u3_8
 generalize vs 9 = u3_9
 generalize vs 10 = u3_10
 clear e0 e2 e5 e7 hC hn E3 hL vs L nb
 obtain ⟨_, _, hc0, hf0⟩ := box_st (E.box 0 rfl)
 have hP0 := hf0
 obtain ⟨r0_p0, r0_q0, _, rfl, _r0_n0, r0_p1, r0_q1, _, rfl, _r0_n1, r0_p2, r0_q2, _, rfl, _r0_n2, r0_p3, r0_q3, _, rfl, _r0_n3, rfl⟩ := hf0
 have c0_0 := hc0 0 (by simp)
 have c0_1 := hc0 1 (by simp)
 have c0_2 := hc0 2 (by simp)
 have c0_3 := hc0 3 (by simp)
 have c0_4 := hc0 4 (by simp)
 have c0_5 := hc0 5 (by simp)
 have c0_6 := hc0 6 (by simp)
 have c0_7 := hc0 7 (by simp)
 simp only [List.getD_cons_zero, List.getD_cons_succ] at c0_0 c0_1 c0_2 c0_3 c0_4 c0_5 c0_6 c0_7
 clear hc0
 clear hx1 hx2 hx3 hx4
 go_wp2
 refine bodyPost_ret (v := .agg #[r0_p0, r0_q0, r0_p1, r0_q1, r0_p2, r0_q2, r0_p3, r0_q3]) ?_ rfl ⟨_, rfl, E.below, ⟨_, rfl, hP0⟩⟩
 simp [results, Try.results49, go_sem, c0_0, c0_1, c0_2, c0_3, c0_4, c0_5, c0_6, c0_7]

set_option maxRecDepth 100000 in
set_option maxHeartbeats 4000000 in
theorem exPTimes {w : World} {v v' : Value} {x1 x2 x3 x4 y1 y2 y3 y4 : Int} (h : (Fq.st [.n x1, .n x2, .n x3, .n x4]).P v w) (h' : (Fq.st [.n y1, .n y2, .n y3, .n y4]).P v' w) (hx1 : ab x1 < pw 60) (hx2 : ab x2 < pw 60) (hx3 : ab x3 < pw 60) (hx4 : ab x4 < pw 60) (hy1 : ab y1 < pw 60) (hy2 : ab y2 < pw 60) (hy3 : ab y3 < pw 60) (hy4 : ab y4 < pw 60) :
  Calls Try.prog 14 #[v, v'] w fun e w' => ∃ v', e = .returned v' ∧ Below w.heap.size w w' ∧ (Fq.st [.n ((x1 * y1) + (x2 * y3)), .n ((x1 * y2) + (x2 * y4)), .n ((x3 * y1) + (x4 * y3)), .n ((x3 * y2) + (x4 * y4))]).P v' w' := by
 replace hx1 := hidd hx1
 replace hx2 := hidd hx2
 replace hx3 := hidd hx3
 replace hx4 := hidd hx4
 replace hy1 := hidd hy1
 replace hy2 := hidd hy2
 replace hy3 := hidd hy3
 replace hy4 := hidd hy4
 obtain ⟨_, rfl, hf0⟩ := h
 have hF0 := hf0
 obtain ⟨y0_p0, y0_q0, _, rfl, _y0_n0, y0_p1, y0_q1, _, rfl, _y0_n1, y0_p2, y0_q2, _, rfl, _y0_n2, y0_p3, y0_q3, _, rfl, _y0_n3, rfl⟩ := hf0
 obtain ⟨_, rfl, hf1⟩ := h'
 have hF1 := hf1
 obtain ⟨y1_p0, y1_q0, _, rfl, _y1_n0, y1_p1, y1_q1, _, rfl, _y1_n1, y1_p2, y1_q2, _, rfl, _y1_n2, y1_p3, y1_q3, _, rfl, _y1_n3, rfl⟩ := hf1
 obtain ⟨w1, b1, hw1, hb1, hs1, E⟩ := fr_start w (F := Fq.st [.n x1, .n x2, .n x3, .n x4]) (us := [y0_p0, y0_q0, y0_p1, y0_q1, y0_p2, y0_q2, y0_p3, y0_q3]) 36 rfl (by simp) (hF0.tame) (show (Fq.st [.n x1, .n x2, .n x3, .n x4]).P _ w from ⟨_, rfl, hF0⟩)
 obtain ⟨w2, b2, hw2, hb2, hs2, E⟩ := fr_more E hs1 (F := Fq.st [.n y1, .n y2, .n y3, .n y4]) (us := [y1_p0, y1_q0, y1_p1, y1_q1, y1_p2, y1_q2, y1_p3, y1_q3]) 36 rfl (by simp) (hF1.tame) ((Fq.st [.n y1, .n y2, .n y3, .n y4]).mono (show (Fq.st [.n y1, .n y2, .n y3, .n y4]).P _ w from ⟨_, rfl, hF1⟩) E.below)
 obtain ⟨w3, b3, hw3, hb3, hs3, E⟩ := fr_more E hs2 (F := Fq.st [.n 0, .n 0, .n 0, .n 0]) (us := [.bool false, .slice none 0 0, .bool false, .slice none 0 0, .bool false, .slice none 0 0, .bool false, .slice none 0 0]) 36 rfl (by simp) ((Fits.tame (fits0_api_Mat w))) (fits0P_api_Mat _)
 go_enter Try.func14, Try.ntmps14
 go_upto_region 1 with (fail)
 rw [← hw1]
 rw [← hw2]
 rw [← hw3]
 rw [← hb3]
 rw [← hb2]
 rw [← hb1]
 clear hw1 hw2 hw3 hb1 hb2 hb3 hs3 hs1 hs2
 refine region_fr (C := [Fq.st [.n x1, .n x2, .n x3, .n x4], Fq.st [.n x1, .n x2, .n x3, .n x4], Fq.st [.n y1, .n y2, .n y3, .n y4], Fq.st [.n y1, .n y2, .n y3, .n y4], Fq.any, Fq.any, Fq.any, Fq.any]) (ks := [none, none, none]) (new := [⟨4, 6, 8, Fq.st [.n 0, .n 0, .n 0, .n 0], Fq.st [.n x1, .n x2, .n x3, .n x4], none⟩, ⟨5, 7, 8, Fq.st [.n 0, .n 0, .n 0, .n 0], Fq.st [.n y1, .n y2, .n y3, .n y4], none⟩]) E rfl (by kernel_rfl) rfl rfl (fun hp => ⟨?_, ?_, ?_, ?_, ?_, ?_, ?_, ?_, trivial⟩) ?_
 ·exact q_loadSt (off := 0) (l := 8) (fs := [.n x1, .n x2, .n x3, .n x4]) (gs := [.n x1, .n x2, .n x3, .n x4]) hp (free_of rfl) trivial (mq 2 rfl) (.inl rfl) rfl row_api_Mat rfl (sqo 2) (fun v w h => h)
 ·exact q_call1 (F := (Fq.st [.n x1, .n x2, .n x3, .n x4]).P) hp (free_of rfl) trivial (enq_f_algorist_quadratic_rows) (sqi 0) (fun v w h => exPRows h (Int.lt_of_lt_of_le hx1.out (pw_le (by omega))) (Int.lt_of_lt_of_le hx2.out (pw_le (by omega))) (Int.lt_of_lt_of_le hx3.out (pw_le (by omega))) (Int.lt_of_lt_of_le hx4.out (pw_le (by omega))))
 ·exact q_loadSt (off := 0) (l := 8) (fs := [.n y1, .n y2, .n y3, .n y4]) (gs := [.n y1, .n y2, .n y3, .n y4]) hp (free_of rfl) trivial (mq 1 rfl) (.inl rfl) rfl row_api_Mat rfl (sqo 3) (fun v w h => h)
 ·exact q_call1 (F := (Fq.st [.n y1, .n y2, .n y3, .n y4]).P) hp (free_of rfl) trivial (enq_f_algorist_quadratic_rows) (sqi 2) (fun v w h => exPRows h (Int.lt_of_lt_of_le hy1.out (pw_le (by omega))) (Int.lt_of_lt_of_le hy2.out (pw_le (by omega))) (Int.lt_of_lt_of_le hy3.out (pw_le (by omega))) (Int.lt_of_lt_of_le hy4.out (pw_le (by omega))))
 ·exact q_allocSt (us := [.bool false, .slice none 0 0, .bool false, .slice none 0 0, .bool false, .slice none 0 0, .bool false, .slice none 0 0]) (fs := [.n 0, .n 0, .n 0, .n 0]) hp (mq 0 rfl) rfl rfl rfl (Nat.lt_of_sub_eq_succ rfl) rfl fits0__2__2_api_Int (fun ρ w => ralloc__2__2_api_Int ρ w) rfl (Nat.ne_of_beq_eq_false rfl) (fun _ _ => trivial) (old_ne rfl) (newk_ne rfl)
 ·exact q_allocSt (us := [.bool false, .slice none 0 0, .bool false, .slice none 0 0, .bool false, .slice none 0 0, .bool false, .slice none 0 0]) (fs := [.n 0, .n 0, .n 0, .n 0]) hp (mq 1 rfl) rfl rfl rfl (Nat.lt_of_sub_eq_succ rfl) rfl fits0__2__2_api_Int (fun ρ w => ralloc__2__2_api_Int ρ w) rfl (Nat.ne_of_beq_eq_false rfl) (fun _ _ => trivial) (old_ne rfl) (newk_ne rfl)
 ·exact q_storeNewSt (fs := [.n 0, .n 0, .n 0, .n 0]) (gs := [.n x1, .n x2, .n x3, .n x4]) hp (mq 0 rfl) rfl rfl rfl rfl size__2__2_api_Int rfl (own_ptr rfl rfl (by simp) rfl) (sq_in 1 rfl rfl (by simp) rfl (fun v w h => fitv_st h)) (fun _ _ => trivial) (old_ne rfl) (newi_ne rfl)
 ·exact q_storeNewSt (fs := [.n 0, .n 0, .n 0, .n 0]) (gs := [.n y1, .n y2, .n y3, .n y4]) hp (mq 1 rfl) rfl rfl rfl rfl size__2__2_api_Int rfl (own_ptr rfl rfl (by simp) rfl) (sq_in 3 rfl rfl (by simp) rfl (fun v w h => fitv_st h)) (fun _ _ => trivial) (old_ne rfl) (newi_ne rfl)
 intro L vs w4 nb hL hC hn E4
 have e4 : vs 4 = .pointer (some ⟨nb 4, 0, none⟩) := hn _ (mq 0 rfl)
 have e5 : vs 5 = .pointer (some ⟨nb 5, 0, none⟩) := hn _ (mq 1 rfl)
 have E : Fr w [(nb 4, 8, Fq.st [.n x1, .n x2, .n x3, .n x4]), (nb 5, 8, Fq.st [.n y1, .n y2, .n y3, .n y4]), (b3, 8, Fq.st [.n 0, .n 0, .n 0, .n 0]), (b2, 8, Fq.st [.n y1, .n y2, .n y3, .n y4]), (b1, 8, Fq.st [.n x1, .n x2, .n x3, .n x4])] w4 := E4
 rw [lay_all hL]
 simp only [putAll, dstOf, List.length_cons, List.length_nil, Nat.zero_add, Nat.reduceAdd, List.getElem?_toArray, List.getElem?_cons_zero, List.getElem?_cons_succ, Option.bind_some, Act.put, List.setIfInBounds_toArray, List.set_cons_succ, List.set_cons_zero]
 rw [e4, e5]
 generalize nb 4 = b4_4 at E ⊢
 generalize nb 5 = b4_5 at E ⊢
 generalize vs 0 = u4_0
 generalize vs 1 = u4_1
 generalize vs 2 = u4_2
 generalize vs 3 = u4_3
 clear e4 e5 hC hn E4 hL vs L nb
 go_upto_region 2 with (fail)
 refine region_alloc zero__2__2_api_Int ?_
 obtain ⟨w5, b5, hw5, hb5, hs5, E5⟩ := fr_more E rfl (F := Fq.st [.n 0, .n 0, .n 0, .n 0]) (us := [.bool false, .slice none 0 0, .bool false, .slice none 0 0, .bool false, .slice none 0 0, .bool false, .slice none 0 0]) 84 rfl (by simp) (Fits.tame (fits0__2__2_api_Int w)) (fits0P__2__2_api_Int _)
 rw [← hw5, ← hb5]
 clear hw5 hb5 hs5 E
 have E : Fr w [(b5, 8, Fq.st [.n 0, .n 0, .n 0, .n 0]), (b4_4, 8, Fq.st [.n x1, .n x2, .n x3, .n x4]), (b4_5, 8, Fq.st [.n y1, .n y2, .n y3, .n y4]), (b3, 8, Fq.st [.n 0, .n 0, .n 0, .n 0]), (b2, 8, Fq.st [.n y1, .n y2, .n y3, .n y4]), (b1, 8, Fq.st [.n x1, .n x2, .n x3, .n x4])] w5 := E5
 clear E5
 simp only [Act.put, List.setIfInBounds_toArray, List.set_cons_succ, List.set_cons_zero]
 have B6 : Hid (ab ((x1 * y1)) < pw 120) := ab_mulM hx1.out hy1.out (by omega)
 have B7 : Hid (ab ((x2 * y3)) < pw 120) := ab_mulM hx2.out hy3.out (by omega)
 have B8 : Hid (ab (((x1 * y1) + (x2 * y3))) < pw 121) := ab_addB B6.out B7.out (by omega) (by omega)
 have B9 : Hid (ab ((x1 * y2)) < pw 120) := ab_mulM hx1.out hy2.out (by omega)
 have B10 : Hid (ab ((x2 * y4)) < pw 120) := ab_mulM hx2.out hy4.out (by omega)
 have B11 : Hid (ab (((x1 * y2) + (x2 * y4))) < pw 121) := ab_addB B9.out B10.out (by omega) (by omega)
 have B12 : Hid (ab ((x3 * y1)) < pw 120) := ab_mulM hx3.out hy1.out (by omega)
 have B13 : Hid (ab ((x4 * y3)) < pw 120) := ab_mulM hx4.out hy3.out (by omega)
 have B14 : Hid (ab (((x3 * y1) + (x4 * y3))) < pw 121) := ab_addB B12.out B13.out (by omega) (by omega)
 have B15 : Hid (ab ((x3 * y2)) < pw 120) := ab_mulM hx3.out hy2.out (by omega)
 have B16 : Hid (ab ((x4 * y4)) < pw 120) := ab_mulM hx4.out hy4.out (by omega)
 have B17 : Hid (ab (((x3 * y2) + (x4 * y4))) < pw 121) := ab_addB B15.out B16.out (by omega) (by omega)
 have HE := hidd E
 clear E
 obtain ⟨W0, rfl⟩ : ∃ W0, W0 = w5 := ⟨_, rfl⟩
 go_wp2_with (fail)
 go_loopw [14] (fun vi W => (vi = .int .i64 0 ∧ Fr w [(b5, 8, Fq.st [.n 0, .n 0, .n 0, .n 0]), (b4_4, 8, Fq.st [.n x1, .n x2, .n x3, .n x4]), (b4_5, 8, Fq.st [.n y1, .n y2, .n y3, .n y4]), (b3, 8, Fq.st [.n 0, .n 0, .n 0, .n 0]), (b2, 8, Fq.st [.n y1, .n y2, .n y3, .n y4]), (b1, 8, Fq.st [.n x1, .n x2, .n x3, .n x4])] W) ∨ (vi = .int .i64 1 ∧ Fr w [(b5, 8, Fq.st [.n ((x1 * y1) + (x2 * y3)), .n ((x1 * y2) + (x2 * y4)), .n 0, .n 0]), (b4_4, 8, Fq.st [.n x1, .n x2, .n x3, .n x4]), (b4_5, 8, Fq.st [.n y1, .n y2, .n y3, .n y4]), (b3, 8, Fq.st [.n 0, .n 0, .n 0, .n 0]), (b2, 8, Fq.st [.n y1, .n y2, .n y3, .n y4]), (b1, 8, Fq.st [.n x1, .n x2, .n x3, .n x4])] W) ∨ (vi = .int .i64 2 ∧ Fr w [(b5, 8, Fq.st [.n ((x1 * y1) + (x2 * y3)), .n ((x1 * y2) + (x2 * y4)), .n ((x3 * y1) + (x4 * y3)), .n ((x3 * y2) + (x4 * y4))]), (b4_4, 8, Fq.st [.n x1, .n x2, .n x3, .n x4]), (b4_5, 8, Fq.st [.n y1, .n y2, .n y3, .n y4]), (b3, 8, Fq.st [.n 0, .n 0, .n 0, .n 0]), (b2, 8, Fq.st [.n y1, .n y2, .n y3, .n y4]), (b1, 8, Fq.st [.n x1, .n x2, .n x3, .n x4])] W)) (fun vi _ => (2 - intOf vi).toNat)
 case atStart => exact .inl ⟨rfl, HE.out⟩
 case round =>
  clear HE
  obtain ⟨V2, rfl⟩ : ∃ V2, V2 = wr := ⟨_, rfl⟩
  rcases hrel with ⟨rfl, E⟩ | ⟨rfl, E⟩ | ⟨rfl, E⟩
  ·go_upto_region 4 with (fail)
   refine region_fr (C := [Fq.is (.bool true)]) (ks := [none, none, none, none, none, none]) (new := []) E rfl (by kernel_rfl) rfl rfl (fun hp => ⟨?_, trivial⟩) ?_
   ·exact q_one (F := fun v _ => v = .int .i64 0) hp (free_of rfl) trivial (sqo 14) (fun ρ w hc h => ⟨.bool true, by simp [execOp, go_sem, h, hc], rfl⟩)
   intro L vs w18 nb hL hC hn E18
   have e0 : vs 0 = .bool true := hC 0 (by simp)
   have E : Fr w [(b5, 8, Fq.st [.n 0, .n 0, .n 0, .n 0]), (b4_4, 8, Fq.st [.n x1, .n x2, .n x3, .n x4]), (b4_5, 8, Fq.st [.n y1, .n y2, .n y3, .n y4]), (b3, 8, Fq.st [.n 0, .n 0, .n 0, .n 0]), (b2, 8, Fq.st [.n y1, .n y2, .n y3, .n y4]), (b1, 8, Fq.st [.n x1, .n x2, .n x3, .n x4])] w18 := E18
   rw [lay_all hL]
   simp only [putAll, dstOf, List.length_cons, List.length_nil, Nat.zero_add, List.getElem?_toArray, List.getElem?_cons_zero, Option.bind_some, Act.put, List.setIfInBounds_toArray, List.set_cons_succ, List.set_cons_zero]
   rw [e0]
   clear e0 hC hn E18 hL vs L nb
   go_upto_region 5 with (fail)
   refine region_fr (C := [Fq.is (.int .i64 0), Fq.is (.int .i64 0)]) (ks := [none, none, none, none, none, none]) (new := []) E rfl (by kernel_rfl) rfl rfl (fun hp => ⟨?_, ?_, trivial⟩) ?_
   ·exact q_move hp (free_of rfl) trivial (sqo 14)
   ·exact q_assign hp (free_of rfl) trivial (sqi 0)
   intro L vs w19 nb hL hC hn E19
   have e0 : vs 0 = .int .i64 0 := hC 0 (by simp)
   have e1 : vs 1 = .int .i64 0 := hC 1 (by simp)
   have E : Fr w [(b5, 8, Fq.st [.n 0, .n 0, .n 0, .n 0]), (b4_4, 8, Fq.st [.n x1, .n x2, .n x3, .n x4]), (b4_5, 8, Fq.st [.n y1, .n y2, .n y3, .n y4]), (b3, 8, Fq.st [.n 0, .n 0, .n 0, .n 0]), (b2, 8, Fq.st [.n y1, .n y2, .n y3, .n y4]), (b1, 8, Fq.st [.n x1, .n x2, .n x3, .n x4])] w19 := E19
   rw [lay_all hL]
   simp only [putAll, dstOf, List.length_cons, List.length_nil, Nat.zero_add, Nat.reduceAdd, List.getElem?_toArray, List.getElem?_cons_zero, List.getElem?_cons_succ, Option.bind_some, Act.put, List.setIfInBounds_toArray, List.set_cons_succ, List.set_cons_zero]
   rw [e0, e1]
   clear e0 e1 hC hn E19 hL vs L nb
   have HE := hidd E
   clear E
   obtain ⟨W1, rfl⟩ : ∃ W1, W1 = w19 := ⟨_, rfl⟩
   go_wp2_with (fail)
   go_loopw [17] (fun vj W => (vj = .int .i64 0 ∧ Fr w [(b5, 8, Fq.st [.n 0, .n 0, .n 0, .n 0]), (b4_4, 8, Fq.st [.n x1, .n x2, .n x3, .n x4]), (b4_5, 8, Fq.st [.n y1, .n y2, .n y3, .n y4]), (b3, 8, Fq.st [.n 0, .n 0, .n 0, .n 0]), (b2, 8, Fq.st [.n y1, .n y2, .n y3, .n y4]), (b1, 8, Fq.st [.n x1, .n x2, .n x3, .n x4])] W) ∨ (vj = .int .i64 1 ∧ Fr w [(b5, 8, Fq.st [.n ((x1 * y1) + (x2 * y3)), .n 0, .n 0, .n 0]), (b4_4, 8, Fq.st [.n x1, .n x2, .n x3, .n x4]), (b4_5, 8, Fq.st [.n y1, .n y2, .n y3, .n y4]), (b3, 8, Fq.st [.n 0, .n 0, .n 0, .n 0]), (b2, 8, Fq.st [.n y1, .n y2, .n y3, .n y4]), (b1, 8, Fq.st [.n x1, .n x2, .n x3, .n x4])] W) ∨ (vj = .int .i64 2 ∧ Fr w [(b5, 8, Fq.st [.n ((x1 * y1) + (x2 * y3)), .n ((x1 * y2) + (x2 * y4)), .n 0, .n 0]), (b4_4, 8, Fq.st [.n x1, .n x2, .n x3, .n x4]), (b4_5, 8, Fq.st [.n y1, .n y2, .n y3, .n y4]), (b3, 8, Fq.st [.n 0, .n 0, .n 0, .n 0]), (b2, 8, Fq.st [.n y1, .n y2, .n y3, .n y4]), (b1, 8, Fq.st [.n x1, .n x2, .n x3, .n x4])] W)) (fun vj _ => (2 - intOf vj).toNat)
   case atStart => exact .inl ⟨rfl, HE.out⟩
   case round =>
    clear HE
    obtain ⟨V3, rfl⟩ : ∃ V3, V3 = wr := ⟨_, rfl⟩
    rcases hrel with ⟨rfl, E⟩ | ⟨rfl, E⟩ | ⟨rfl, E⟩
    ·go_upto_region 7 with (fail)
     refine region_fr (C := [Fq.is (.bool true)]) (ks := [none, none, none, none, none, none]) (new := []) E rfl (by kernel_rfl) rfl rfl (fun hp => ⟨?_, trivial⟩) ?_
     ·exact q_one (F := fun v _ => v = .int .i64 0) hp (free_of rfl) trivial (sqo 17) (fun ρ w hc h => ⟨.bool true, by simp [execOp, go_sem, h, hc], rfl⟩)
     intro L vs w20 nb hL hC hn E20
     have e0 : vs 0 = .bool true := hC 0 (by simp)
     have E : Fr w [(b5, 8, Fq.st [.n 0, .n 0, .n 0, .n 0]), (b4_4, 8, Fq.st [.n x1, .n x2, .n x3, .n x4]), (b4_5, 8, Fq.st [.n y1, .n y2, .n y3, .n y4]), (b3, 8, Fq.st [.n 0, .n 0, .n 0, .n 0]), (b2, 8, Fq.st [.n y1, .n y2, .n y3, .n y4]), (b1, 8, Fq.st [.n x1, .n x2, .n x3, .n x4])] w20 := E20
     rw [lay_all hL]
     simp only [putAll, dstOf, List.length_cons, List.length_nil, Nat.zero_add, List.getElem?_toArray, List.getElem?_cons_zero, Option.bind_some, Act.put, List.setIfInBounds_toArray, List.set_cons_succ, List.set_cons_zero]
     rw [e0]
     clear e0 hC hn E20 hL vs L nb
     go_upto_region 8 with (fail)
     refine region_fr (C := [Fq.is (.int .i64 0), Fq.is (.int .i64 0)]) (ks := [none, none, none, none, none, none]) (new := []) E rfl (by kernel_rfl) rfl rfl (fun hp => ⟨?_, ?_, trivial⟩) ?_
     ·exact q_move hp (free_of rfl) trivial (sqo 17)
     ·exact q_assign hp (free_of rfl) trivial (sqi 0)
     intro L vs w21 nb hL hC hn E21
     have e0 : vs 0 = .int .i64 0 := hC 0 (by simp)
     have e1 : vs 1 = .int .i64 0 := hC 1 (by simp)
     have E : Fr w [(b5, 8, Fq.st [.n 0, .n 0, .n 0, .n 0]), (b4_4, 8, Fq.st [.n x1, .n x2, .n x3, .n x4]), (b4_5, 8, Fq.st [.n y1, .n y2, .n y3, .n y4]), (b3, 8, Fq.st [.n 0, .n 0, .n 0, .n 0]), (b2, 8, Fq.st [.n y1, .n y2, .n y3, .n y4]), (b1, 8, Fq.st [.n x1, .n x2, .n x3, .n x4])] w21 := E21
     rw [lay_all hL]
     simp only [putAll, dstOf, List.length_cons, List.length_nil, Nat.zero_add, Nat.reduceAdd, List.getElem?_toArray, List.getElem?_cons_zero, List.getElem?_cons_succ, Option.bind_some, Act.put, List.setIfInBounds_toArray, List.set_cons_succ, List.set_cons_zero]
     rw [e0, e1]
     clear e0 e1 hC hn E21 hL vs L nb
     go_upto_region 9 with (fail)
     refine region_fr (C := [Fq.is (.int .i64 0), Fq.is (.int .i64 0), Fq.is (.int .i64 0), Fq.is (.pointer (some ⟨b4_4, 0, none⟩)), Fq.is (.pointer (some ⟨b4_4, 0, none⟩)), Fq.num x1, Fq.is (.int .i64 0), Fq.is (.pointer (some ⟨b4_5, 0, none⟩)), Fq.is (.pointer (some ⟨b4_5, 0, none⟩)), Fq.num y1, Fq.num (x1 * y1), Fq.is (.int .i64 0), Fq.is (.pointer (some ⟨b4_4, 0, none⟩)), Fq.is (.pointer (some ⟨b4_4, 2, none⟩)), Fq.num x2, Fq.is (.int .i64 0), Fq.is (.pointer (some ⟨b4_5, 4, none⟩)), Fq.is (.pointer (some ⟨b4_5, 4, none⟩)), Fq.num y3, Fq.num (x2 * y3), Fq.num ((x1 * y1) + (x2 * y3)), Fq.is (.pointer (some ⟨b5, 0, none⟩)), Fq.is (.pointer (some ⟨b5, 0, none⟩)), Fq.any]) (ks := [some (23, Fq.st [.n ((x1 * y1) + (x2 * y3)), .n 0, .n 0, .n 0]), none, none, none, none, none]) (new := []) E rfl (by kernel_rfl) rfl rfl (fun hp => ⟨?_, ?_, ?_, ?_, ?_, ?_, ?_, ?_, ?_, ?_, ?_, ?_, ?_, ?_, ?_, ?_, ?_, ?_, ?_, ?_, ?_, ?_, ?_, ?_, trivial⟩) ?_
     ·exact q_move hp (free_of rfl) trivial (sqo 8)
     ·exact q_move hp (free_of rfl) trivial (sqo 9)
     ·exact q_move hp (free_of rfl) trivial (sqo 8)
     ·exact q_two (F := fun v _ => v = .pointer (some ⟨b4_4, 0, none⟩)) (G := fun v _ => v = .int .i64 0) hp (free_of rfl) trivial (sqo 5) (sqi 2) (fun ρ w hc h h' => ⟨.pointer (some ⟨b4_4, 0, none⟩), by simp [execOp, go_sem, h, h'], rfl⟩)
     ·exact q_one (F := fun v _ => v = .pointer (some ⟨b4_4, 0, none⟩)) hp (free_of rfl) trivial (sqi 3) (fun ρ w hc h => ⟨.pointer (some ⟨b4_4, 0, none⟩), by simp [execOp, go_sem, h, hc], rfl⟩)
     ·exact q_loadSt (off := 0) (l := 2) (fs := [.n x1, .n x2, .n x3, .n x4]) (gs := [.n x1]) hp (free_of rfl) trivial (mq 1 rfl) (.inl rfl) rfl row_api_Int rfl (sqi 4) (fun v w h => st_num h)
     ·exact q_move hp (free_of rfl) trivial (sqo 9)
     ·exact q_one (F := fun v _ => v = .pointer (some ⟨b4_5, 0, none⟩)) hp (free_of rfl) trivial (sqo 6) (fun ρ w hc h => ⟨.pointer (some ⟨b4_5, 0, none⟩), by simp [execOp, go_sem, h, hc], rfl⟩)
     ·exact q_two (F := fun v _ => v = .pointer (some ⟨b4_5, 0, none⟩)) (G := fun v _ => v = .int .i64 0) hp (free_of rfl) trivial (sqi 7) (sqi 6) (fun ρ w hc h h' => ⟨.pointer (some ⟨b4_5, 0, none⟩), by simp [execOp, go_sem, h, h'], rfl⟩)
     ·exact q_loadSt (off := 0) (l := 2) (fs := [.n y1, .n y2, .n y3, .n y4]) (gs := [.n y1]) hp (free_of rfl) trivial (mq 2 rfl) (.inl rfl) rfl row_api_Int rfl (sqi 8) (fun v w h => st_num h)
     ·exact q_call2 (F := (Fq.num x1).P) (G := (Fq.num y1).P) hp (free_of rfl) trivial (enq_Mul) (sqi 5) (sqi 9) (fun v v' w h h' => exK (MulV h h') B6.out (by omega))
     ·exact q_move hp (free_of rfl) trivial (sqo 8)
     ·exact q_two (F := fun v _ => v = .pointer (some ⟨b4_4, 0, none⟩)) (G := fun v _ => v = .int .i64 0) hp (free_of rfl) trivial (sqo 5) (sqi 11) (fun ρ w hc h h' => ⟨.pointer (some ⟨b4_4, 0, none⟩), by simp [execOp, go_sem, h, h'], rfl⟩)
     ·exact q_one (F := fun v _ => v = .pointer (some ⟨b4_4, 0, none⟩)) hp (free_of rfl) trivial (sqi 12) (fun ρ w hc h => ⟨.pointer (some ⟨b4_4, 2, none⟩), by simp [execOp, go_sem, h, hc], rfl⟩)
     ·exact q_loadSt (off := 2) (l := 2) (fs := [.n x1, .n x2, .n x3, .n x4]) (gs := [.n x2]) hp (free_of rfl) trivial (mq 1 rfl) (.inl rfl) rfl row_api_Int rfl (sqi 13) (fun v w h => st_num h)
     ·exact q_move hp (free_of rfl) trivial (sqo 9)
     ·exact q_one (F := fun v _ => v = .pointer (some ⟨b4_5, 0, none⟩)) hp (free_of rfl) trivial (sqo 6) (fun ρ w hc h => ⟨.pointer (some ⟨b4_5, 4, none⟩), by simp [execOp, go_sem, h, hc], rfl⟩)
     ·exact q_two (F := fun v _ => v = .pointer (some ⟨b4_5, 4, none⟩)) (G := fun v _ => v = .int .i64 0) hp (free_of rfl) trivial (sqi 16) (sqi 15) (fun ρ w hc h h' => ⟨.pointer (some ⟨b4_5, 4, none⟩), by simp [execOp, go_sem, h, h'], rfl⟩)
     ·exact q_loadSt (off := 4) (l := 2) (fs := [.n y1, .n y2, .n y3, .n y4]) (gs := [.n y3]) hp (free_of rfl) trivial (mq 2 rfl) (.inl rfl) rfl row_api_Int rfl (sqi 17) (fun v w h => st_num h)
     ·exact q_call2 (F := (Fq.num x2).P) (G := (Fq.num y3).P) hp (free_of rfl) trivial (enq_Mul) (sqi 14) (sqi 18) (fun v v' w h h' => exK (MulV h h') B7.out (by omega))
     ·exact q_call2 (F := (Fq.num (x1 * y1)).P) (G := (Fq.num (x2 * y3)).P) hp (free_of rfl) trivial (enq_Add) (sqi 10) (sqi 19) (fun v v' w h h' => exK (AddV h h') B8.out (by omega))
     ·exact q_two (F := fun v _ => v = .pointer (some ⟨b5, 0, none⟩)) (G := fun v _ => v = .int .i64 0) hp (free_of rfl) trivial (sqo 7) (sqi 0) (fun ρ w hc h h' => ⟨.pointer (some ⟨b5, 0, none⟩), by simp [execOp, go_sem, h, h'], rfl⟩)
     ·exact q_two (F := fun v _ => v = .pointer (some ⟨b5, 0, none⟩)) (G := fun v _ => v = .int .i64 0) hp (free_of rfl) trivial (sqi 21) (sqi 1) (fun ρ w hc h h' => ⟨.pointer (some ⟨b5, 0, none⟩), by simp [execOp, go_sem, h, h'], rfl⟩)
     ·exact q_storeOldSt (off := 0) (fs := [.n 0, .n 0, .n 0, .n 0]) (gs := [.n ((x1 * y1) + (x2 * y3))]) (fs' := [.n ((x1 * y1) + (x2 * y3)), .n 0, .n 0, .n 0]) hp (mq 0 rfl) rfl rfl rfl size_api_Int rfl (sqi 22) (sq_in 20 rfl rfl (by simp) rfl (fun v w h => fitv_num h)) (fun _ _ => trivial) (newik_ne rfl)
     intro L vs w22 nb hL hC hn E22
     have e0 : vs 0 = .int .i64 0 := hC 0 (by simp)
     have e1 : vs 1 = .int .i64 0 := hC 1 (by simp)
     have e2 : vs 2 = .int .i64 0 := hC 2 (by simp)
     have e3 : vs 3 = .pointer (some ⟨b4_4, 0, none⟩) := hC 3 (by simp)
     have e4 : vs 4 = .pointer (some ⟨b4_4, 0, none⟩) := hC 4 (by simp)
     have e6 : vs 6 = .int .i64 0 := hC 6 (by simp)
     have e7 : vs 7 = .pointer (some ⟨b4_5, 0, none⟩) := hC 7 (by simp)
     have e8 : vs 8 = .pointer (some ⟨b4_5, 0, none⟩) := hC 8 (by simp)
     have e11 : vs 11 = .int .i64 0 := hC 11 (by simp)
     have e12 : vs 12 = .pointer (some ⟨b4_4, 0, none⟩) := hC 12 (by simp)
     have e13 : vs 13 = .pointer (some ⟨b4_4, 2, none⟩) := hC 13 (by simp)
     have e15 : vs 15 = .int .i64 0 := hC 15 (by simp)
     have e16 : vs 16 = .pointer (some ⟨b4_5, 4, none⟩) := hC 16 (by simp)
     have e17 : vs 17 = .pointer (some ⟨b4_5, 4, none⟩) := hC 17 (by simp)
     have e21 : vs 21 = .pointer (some ⟨b5, 0, none⟩) := hC 21 (by simp)
     have e22 : vs 22 = .pointer (some ⟨b5, 0, none⟩) := hC 22 (by simp)
     have E : Fr w [(b5, 8, Fq.st [.n ((x1 * y1) + (x2 * y3)), .n 0, .n 0, .n 0]), (b4_4, 8, Fq.st [.n x1, .n x2, .n x3, .n x4]), (b4_5, 8, Fq.st [.n y1, .n y2, .n y3, .n y4]), (b3, 8, Fq.st [.n 0, .n 0, .n 0, .n 0]), (b2, 8, Fq.st [.n y1, .n y2, .n y3, .n y4]), (b1, 8, Fq.st [.n x1, .n x2, .n x3, .n x4])] w22 := E22
     rw [lay_all hL]
     simp only [putAll, dstOf, List.length_cons, List.length_nil, Nat.zero_add, Nat.reduceAdd, List.getElem?_toArray, List.getElem?_cons_zero, List.getElem?_cons_succ, Option.bind_some, Act.put, List.setIfInBounds_toArray, List.set_cons_succ, List.set_cons_zero]
     rw [e0, e1, e2, e3, e4, e6, e7, e8, e11, e12, e13, e15, e16, e17, e21, e22]
     generalize vs 5 = u22_5
     generalize vs 9 = u22_9
     generalize vs 10 = u22_10
     generalize vs 14 = u22_14
     generalize vs 18 = u22_18
     generalize vs 19 = u22_19
     generalize vs 20 = u22_20
     clear e0 e1 e2 e3 e4 e6 e7 e8 e11 e12 e13 e15 e16 e17 e21 e22 hC hn E22 hL vs L nb
     clear B6 B7 B8 B9 B10 B11 B12 B13 B14 B15 B16 B17 hx1 hx2 hx3 hx4 hy1 hy2 hy3 hy4
     go_wp2
     go_roundw
     case rel => exact .inr (.inl ⟨by first | rfl | go_num, E⟩)
     case measure => first | (simp [intOf]; omega) | simp [intOf] | decide
    ·go_upto_region 7 with (fail)
     refine region_fr (C := [Fq.is (.bool true)]) (ks := [none, none, none, none, none, none]) (new := []) E rfl (by kernel_rfl) rfl rfl (fun hp => ⟨?_, trivial⟩) ?_
     ·exact q_one (F := fun v _ => v = .int .i64 1) hp (free_of rfl) trivial (sqo 17) (fun ρ w hc h => ⟨.bool true, by simp [execOp, go_sem, h, hc], rfl⟩)
     intro L vs w23 nb hL hC hn E23
     have e0 : vs 0 = .bool true := hC 0 (by simp)
     have E : Fr w [(b5, 8, Fq.st [.n ((x1 * y1) + (x2 * y3)), .n 0, .n 0, .n 0]), (b4_4, 8, Fq.st [.n x1, .n x2, .n x3, .n x4]), (b4_5, 8, Fq.st [.n y1, .n y2, .n y3, .n y4]), (b3, 8, Fq.st [.n 0, .n 0, .n 0, .n 0]), (b2, 8, Fq.st [.n y1, .n y2, .n y3, .n y4]), (b1, 8, Fq.st [.n x1, .n x2, .n x3, .n x4])] w23 := E23
     rw [lay_all hL]
     simp only [putAll, dstOf, List.length_cons, List.length_nil, Nat.zero_add, List.getElem?_toArray, List.getElem?_cons_zero, Option.bind_some, Act.put, List.setIfInBounds_toArray, List.set_cons_succ, List.set_cons_zero]
     rw [e0]
     clear e0 hC hn E23 hL vs L nb
     go_upto_region 8 with (fail)
     refine region_fr (C := [Fq.is (.int .i64 1), Fq.is (.int .i64 1)]) (ks := [none, none, none, none, none, none]) (new := []) E rfl (by kernel_rfl) rfl rfl (fun hp => ⟨?_, ?_, trivial⟩) ?_
     ·exact q_move hp (free_of rfl) trivial (sqo 17)
     ·exact q_assign hp (free_of rfl) trivial (sqi 0)
     intro L vs w24 nb hL hC hn E24
     have e0 : vs 0 = .int .i64 1 := hC 0 (by simp)
     have e1 : vs 1 = .int .i64 1 := hC 1 (by simp)
     have E : Fr w [(b5, 8, Fq.st [.n ((x1 * y1) + (x2 * y3)), .n 0, .n 0, .n 0]), (b4_4, 8, Fq.st [.n x1, .n x2, .n x3, .n x4]), (b4_5, 8, Fq.st [.n y1, .n y2, .n y3, .n y4]), (b3, 8, Fq.st [.n 0, .n 0, .n 0, .n 0]), (b2, 8, Fq.st [.n y1, .n y2, .n y3, .n y4]), (b1, 8, Fq.st [.n x1, .n x2, .n x3, .n x4])] w24 := E24
     rw [lay_all hL]
     simp only [putAll, dstOf, List.length_cons, List.length_nil, Nat.zero_add, Nat.reduceAdd, List.getElem?_toArray, List.getElem?_cons_zero, List.getElem?_cons_succ, Option.bind_some, Act.put, List.setIfInBounds_toArray, List.set_cons_succ, List.set_cons_zero]
     rw [e0, e1]
     clear e0 e1 hC hn E24 hL vs L nb
     go_upto_region 9 with (fail)
     refine region_fr (C := [Fq.is (.int .i64 0), Fq.is (.int .i64 1), Fq.is (.int .i64 0), Fq.is (.pointer (some ⟨b4_4, 0, none⟩)), Fq.is (.pointer (some ⟨b4_4, 0, none⟩)), Fq.num x1, Fq.is (.int .i64 1), Fq.is (.pointer (some ⟨b4_5, 0, none⟩)), Fq.is (.pointer (some ⟨b4_5, 2, none⟩)), Fq.num y2, Fq.num (x1 * y2), Fq.is (.int .i64 0), Fq.is (.pointer (some ⟨b4_4, 0, none⟩)), Fq.is (.pointer (some ⟨b4_4, 2, none⟩)), Fq.num x2, Fq.is (.int .i64 1), Fq.is (.pointer (some ⟨b4_5, 4, none⟩)), Fq.is (.pointer (some ⟨b4_5, 6, none⟩)), Fq.num y4, Fq.num (x2 * y4), Fq.num ((x1 * y2) + (x2 * y4)), Fq.is (.pointer (some ⟨b5, 0, none⟩)), Fq.is (.pointer (some ⟨b5, 2, none⟩)), Fq.any]) (ks := [some (23, Fq.st [.n ((x1 * y1) + (x2 * y3)), .n ((x1 * y2) + (x2 * y4)), .n 0, .n 0]), none, none, none, none, none]) (new := []) E rfl (by kernel_rfl) rfl rfl (fun hp => ⟨?_, ?_, ?_, ?_, ?_, ?_, ?_, ?_, ?_, ?_, ?_, ?_, ?_, ?_, ?_, ?_, ?_, ?_, ?_, ?_, ?_, ?_, ?_, ?_, trivial⟩) ?_
     ·exact q_move hp (free_of rfl) trivial (sqo 8)
     ·exact q_move hp (free_of rfl) trivial (sqo 9)
     ·exact q_move hp (free_of rfl) trivial (sqo 8)
     ·exact q_two (F := fun v _ => v = .pointer (some ⟨b4_4, 0, none⟩)) (G := fun v _ => v = .int .i64 0) hp (free_of rfl) trivial (sqo 5) (sqi 2) (fun ρ w hc h h' => ⟨.pointer (some ⟨b4_4, 0, none⟩), by simp [execOp, go_sem, h, h'], rfl⟩)
     ·exact q_one (F := fun v _ => v = .pointer (some ⟨b4_4, 0, none⟩)) hp (free_of rfl) trivial (sqi 3) (fun ρ w hc h => ⟨.pointer (some ⟨b4_4, 0, none⟩), by simp [execOp, go_sem, h, hc], rfl⟩)
     ·exact q_loadSt (off := 0) (l := 2) (fs := [.n x1, .n x2, .n x3, .n x4]) (gs := [.n x1]) hp (free_of rfl) trivial (mq 1 rfl) (.inl rfl) rfl row_api_Int rfl (sqi 4) (fun v w h => st_num h)
     ·exact q_move hp (free_of rfl) trivial (sqo 9)
     ·exact q_one (F := fun v _ => v = .pointer (some ⟨b4_5, 0, none⟩)) hp (free_of rfl) trivial (sqo 6) (fun ρ w hc h => ⟨.pointer (some ⟨b4_5, 0, none⟩), by simp [execOp, go_sem, h, hc], rfl⟩)
     ·exact q_two (F := fun v _ => v = .pointer (some ⟨b4_5, 0, none⟩)) (G := fun v _ => v = .int .i64 1) hp (free_of rfl) trivial (sqi 7) (sqi 6) (fun ρ w hc h h' => ⟨.pointer (some ⟨b4_5, 2, none⟩), by simp [execOp, go_sem, h, h'], rfl⟩)
     ·exact q_loadSt (off := 2) (l := 2) (fs := [.n y1, .n y2, .n y3, .n y4]) (gs := [.n y2]) hp (free_of rfl) trivial (mq 2 rfl) (.inl rfl) rfl row_api_Int rfl (sqi 8) (fun v w h => st_num h)
     ·exact q_call2 (F := (Fq.num x1).P) (G := (Fq.num y2).P) hp (free_of rfl) trivial (enq_Mul) (sqi 5) (sqi 9) (fun v v' w h h' => exK (MulV h h') B9.out (by omega))
     ·exact q_move hp (free_of rfl) trivial (sqo 8)
     ·exact q_two (F := fun v _ => v = .pointer (some ⟨b4_4, 0, none⟩)) (G := fun v _ => v = .int .i64 0) hp (free_of rfl) trivial (sqo 5) (sqi 11) (fun ρ w hc h h' => ⟨.pointer (some ⟨b4_4, 0, none⟩), by simp [execOp, go_sem, h, h'], rfl⟩)
     ·exact q_one (F := fun v _ => v = .pointer (some ⟨b4_4, 0, none⟩)) hp (free_of rfl) trivial (sqi 12) (fun ρ w hc h => ⟨.pointer (some ⟨b4_4, 2, none⟩), by simp [execOp, go_sem, h, hc], rfl⟩)
     ·exact q_loadSt (off := 2) (l := 2) (fs := [.n x1, .n x2, .n x3, .n x4]) (gs := [.n x2]) hp (free_of rfl) trivial (mq 1 rfl) (.inl rfl) rfl row_api_Int rfl (sqi 13) (fun v w h => st_num h)
     ·exact q_move hp (free_of rfl) trivial (sqo 9)
     ·exact q_one (F := fun v _ => v = .pointer (some ⟨b4_5, 0, none⟩)) hp (free_of rfl) trivial (sqo 6) (fun ρ w hc h => ⟨.pointer (some ⟨b4_5, 4, none⟩), by simp [execOp, go_sem, h, hc], rfl⟩)
     ·exact q_two (F := fun v _ => v = .pointer (some ⟨b4_5, 4, none⟩)) (G := fun v _ => v = .int .i64 1) hp (free_of rfl) trivial (sqi 16) (sqi 15) (fun ρ w hc h h' => ⟨.pointer (some ⟨b4_5, 6, none⟩), by simp [execOp, go_sem, h, h'], rfl⟩)
     ·exact q_loadSt (off := 6) (l := 2) (fs := [.n y1, .n y2, .n y3, .n y4]) (gs := [.n y4]) hp (free_of rfl) trivial (mq 2 rfl) (.inl rfl) rfl row_api_Int rfl (sqi 17) (fun v w h => st_num h)
     ·exact q_call2 (F := (Fq.num x2).P) (G := (Fq.num y4).P) hp (free_of rfl) trivial (enq_Mul) (sqi 14) (sqi 18) (fun v v' w h h' => exK (MulV h h') B10.out (by omega))
     ·exact q_call2 (F := (Fq.num (x1 * y2)).P) (G := (Fq.num (x2 * y4)).P) hp (free_of rfl) trivial (enq_Add) (sqi 10) (sqi 19) (fun v v' w h h' => exK (AddV h h') B11.out (by omega))
     ·exact q_two (F := fun v _ => v = .pointer (some ⟨b5, 0, none⟩)) (G := fun v _ => v = .int .i64 0) hp (free_of rfl) trivial (sqo 7) (sqi 0) (fun ρ w hc h h' => ⟨.pointer (some ⟨b5, 0, none⟩), by simp [execOp, go_sem, h, h'], rfl⟩)
     ·exact q_two (F := fun v _ => v = .pointer (some ⟨b5, 0, none⟩)) (G := fun v _ => v = .int .i64 1) hp (free_of rfl) trivial (sqi 21) (sqi 1) (fun ρ w hc h h' => ⟨.pointer (some ⟨b5, 2, none⟩), by simp [execOp, go_sem, h, h'], rfl⟩)
     ·exact q_storeOldSt (off := 2) (fs := [.n ((x1 * y1) + (x2 * y3)), .n 0, .n 0, .n 0]) (gs := [.n ((x1 * y2) + (x2 * y4))]) (fs' := [.n ((x1 * y1) + (x2 * y3)), .n ((x1 * y2) + (x2 * y4)), .n 0, .n 0]) hp (mq 0 rfl) rfl rfl rfl size_api_Int rfl (sqi 22) (sq_in 20 rfl rfl (by simp) rfl (fun v w h => fitv_num h)) (fun _ _ => trivial) (newik_ne rfl)
     intro L vs w25 nb hL hC hn E25
     have e0 : vs 0 = .int .i64 0 := hC 0 (by simp)
     have e1 : vs 1 = .int .i64 1 := hC 1 (by simp)
     have e2 : vs 2 = .int .i64 0 := hC 2 (by simp)
     have e3 : vs 3 = .pointer (some ⟨b4_4, 0, none⟩) := hC 3 (by simp)
     have e4 : vs 4 = .pointer (some ⟨b4_4, 0, none⟩) := hC 4 (by simp)
     have e6 : vs 6 = .int .i64 1 := hC 6 (by simp)
     have e7 : vs 7 = .pointer (some ⟨b4_5, 0, none⟩) := hC 7 (by simp)
     have e8 : vs 8 = .pointer (some ⟨b4_5, 2, none⟩) := hC 8 (by simp)
     have e11 : vs 11 = .int .i64 0 := hC 11 (by simp)
     have e12 : vs 12 = .pointer (some ⟨b4_4, 0, none⟩) := hC 12 (by simp)
     have e13 : vs 13 = .pointer (some ⟨b4_4, 2, none⟩) := hC 13 (by simp)
     have e15 : vs 15 = .int .i64 1 := hC 15 (by simp)
     have e16 : vs 16 = .pointer (some ⟨b4_5, 4, none⟩) := hC 16 (by simp)
     have e17 : vs 17 = .pointer (some ⟨b4_5, 6, none⟩) := hC 17 (by simp)
     have e21 : vs 21 = .pointer (some ⟨b5, 0, none⟩) := hC 21 (by simp)
     have e22 : vs 22 = .pointer (some ⟨b5, 2, none⟩) := hC 22 (by simp)
     have E : Fr w [(b5, 8, Fq.st [.n ((x1 * y1) + (x2 * y3)), .n ((x1 * y2) + (x2 * y4)), .n 0, .n 0]), (b4_4, 8, Fq.st [.n x1, .n x2, .n x3, .n x4]), (b4_5, 8, Fq.st [.n y1, .n y2, .n y3, .n y4]), (b3, 8, Fq.st [.n 0, .n 0, .n 0, .n 0]), (b2, 8, Fq.st [.n y1, .n y2, .n y3, .n y4]), (b1, 8, Fq.st [.n x1, .n x2, .n x3, .n x4])] w25 := E25
     rw [lay_all hL]
     simp only [putAll, dstOf, List.length_cons, List.length_nil, Nat.zero_add, Nat.reduceAdd, List.getElem?_toArray, List.getElem?_cons_zero, List.getElem?_cons_succ, Option.bind_some, Act.put, List.setIfInBounds_toArray, List.set_cons_succ, List.set_cons_zero]
     rw [e0, e1, e2, e3, e4, e6, e7, e8, e11, e12, e13, e15, e16, e17, e21, e22]
     generalize vs 5 = u25_5
     generalize vs 9 = u25_9
     generalize vs 10 = u25_10
     generalize vs 14 = u25_14
     generalize vs 18 = u25_18
     generalize vs 19 = u25_19
     generalize vs 20 = u25_20
     clear e0 e1 e2 e3 e4 e6 e7 e8 e11 e12 e13 e15 e16 e17 e21 e22 hC hn E25 hL vs L nb
     clear B6 B7 B8 B9 B10 B11 B12 B13 B14 B15 B16 B17 hx1 hx2 hx3 hx4 hy1 hy2 hy3 hy4
     go_wp2
     go_roundw
     case rel => exact .inr (.inr ⟨by first | rfl | go_num, E⟩)
     case measure => first | (simp [intOf]; omega) | simp [intOf] | decide
    ·clear B6 B7 B8 B9 B10 B11 B12 B13 B14 B15 B16 B17 hx1 hx2 hx3 hx4 hy1 hy2 hy3 hy4
     go_wp2
     go_roundw
     case rel => exact .inr (.inl ⟨by first | rfl | go_num, E⟩)
     case measure => first | (simp [intOf]; omega) | simp [intOf] | decide
  ·go_upto_region 4 with (fail)
   refine region_fr (C := [Fq.is (.bool true)]) (ks := [none, none, none, none, none, none]) (new := []) E rfl (by kernel_rfl) rfl rfl (fun hp => ⟨?_, trivial⟩) ?_
   ·exact q_one (F := fun v _ => v = .int .i64 1) hp (free_of rfl) trivial (sqo 14) (fun ρ w hc h => ⟨.bool true, by simp [execOp, go_sem, h, hc], rfl⟩)
   intro L vs w26 nb hL hC hn E26
   have e0 : vs 0 = .bool true := hC 0 (by simp)
   have E : Fr w [(b5, 8, Fq.st [.n ((x1 * y1) + (x2 * y3)), .n ((x1 * y2) + (x2 * y4)), .n 0, .n 0]), (b4_4, 8, Fq.st [.n x1, .n x2, .n x3, .n x4]), (b4_5, 8, Fq.st [.n y1, .n y2, .n y3, .n y4]), (b3, 8, Fq.st [.n 0, .n 0, .n 0, .n 0]), (b2, 8, Fq.st [.n y1, .n y2, .n y3, .n y4]), (b1, 8, Fq.st [.n x1, .n x2, .n x3, .n x4])] w26 := E26
   rw [lay_all hL]
   simp only [putAll, dstOf, List.length_cons, List.length_nil, Nat.zero_add, List.getElem?_toArray, List.getElem?_cons_zero, Option.bind_some, Act.put, List.setIfInBounds_toArray, List.set_cons_succ, List.set_cons_zero]
   rw [e0]
   clear e0 hC hn E26 hL vs L nb
   go_upto_region 5 with (fail)
   refine region_fr (C := [Fq.is (.int .i64 1), Fq.is (.int .i64 1)]) (ks := [none, none, none, none, none, none]) (new := []) E rfl (by kernel_rfl) rfl rfl (fun hp => ⟨?_, ?_, trivial⟩) ?_
   ·exact q_move hp (free_of rfl) trivial (sqo 14)
   ·exact q_assign hp (free_of rfl) trivial (sqi 0)
   intro L vs w27 nb hL hC hn E27
   have e0 : vs 0 = .int .i64 1 := hC 0 (by simp)
   have e1 : vs 1 = .int .i64 1 := hC 1 (by simp)
   have E : Fr w [(b5, 8, Fq.st [.n ((x1 * y1) + (x2 * y3)), .n ((x1 * y2) + (x2 * y4)), .n 0, .n 0]), (b4_4, 8, Fq.st [.n x1, .n x2, .n x3, .n x4]), (b4_5, 8, Fq.st [.n y1, .n y2, .n y3, .n y4]), (b3, 8, Fq.st [.n 0, .n 0, .n 0, .n 0]), (b2, 8, Fq.st [.n y1, .n y2, .n y3, .n y4]), (b1, 8, Fq.st [.n x1, .n x2, .n x3, .n x4])] w27 := E27
   rw [lay_all hL]
   simp only [putAll, dstOf, List.length_cons, List.length_nil, Nat.zero_add, Nat.reduceAdd, List.getElem?_toArray, List.getElem?_cons_zero, List.getElem?_cons_succ, Option.bind_some, Act.put, List.setIfInBounds_toArray, List.set_cons_succ, List.set_cons_zero]
   rw [e0, e1]
   clear e0 e1 hC hn E27 hL vs L nb
   have HE := hidd E
   clear E
   obtain ⟨W1, rfl⟩ : ∃ W1, W1 = w27 := ⟨_, rfl⟩
   go_wp2_with (fail)
   go_loopw [17] (fun vj W => (vj = .int .i64 0 ∧ Fr w [(b5, 8, Fq.st [.n ((x1 * y1) + (x2 * y3)), .n ((x1 * y2) + (x2 * y4)), .n 0, .n 0]), (b4_4, 8, Fq.st [.n x1, .n x2, .n x3, .n x4]), (b4_5, 8, Fq.st [.n y1, .n y2, .n y3, .n y4]), (b3, 8, Fq.st [.n 0, .n 0, .n 0, .n 0]), (b2, 8, Fq.st [.n y1, .n y2, .n y3, .n y4]), (b1, 8, Fq.st [.n x1, .n x2, .n x3, .n x4])] W) ∨ (vj = .int .i64 1 ∧ Fr w [(b5, 8, Fq.st [.n ((x1 * y1) + (x2 * y3)), .n ((x1 * y2) + (x2 * y4)), .n ((x3 * y1) + (x4 * y3)), .n 0]), (b4_4, 8, Fq.st [.n x1, .n x2, .n x3, .n x4]), (b4_5, 8, Fq.st [.n y1, .n y2, .n y3, .n y4]), (b3, 8, Fq.st [.n 0, .n 0, .n 0, .n 0]), (b2, 8, Fq.st [.n y1, .n y2, .n y3, .n y4]), (b1, 8, Fq.st [.n x1, .n x2, .n x3, .n x4])] W) ∨ (vj = .int .i64 2 ∧ Fr w [(b5, 8, Fq.st [.n ((x1 * y1) + (x2 * y3)), .n ((x1 * y2) + (x2 * y4)), .n ((x3 * y1) + (x4 * y3)), .n ((x3 * y2) + (x4 * y4))]), (b4_4, 8, Fq.st [.n x1, .n x2, .n x3, .n x4]), (b4_5, 8, Fq.st [.n y1, .n y2, .n y3, .n y4]), (b3, 8, Fq.st [.n 0, .n 0, .n 0, .n 0]), (b2, 8, Fq.st [.n y1, .n y2, .n y3, .n y4]), (b1, 8, Fq.st [.n x1, .n x2, .n x3, .n x4])] W)) (fun vj _ => (2 - intOf vj).toNat)
   case atStart => exact .inl ⟨rfl, HE.out⟩
   case round =>
    clear HE
    obtain ⟨V3, rfl⟩ : ∃ V3, V3 = wr := ⟨_, rfl⟩
    rcases hrel with ⟨rfl, E⟩ | ⟨rfl, E⟩ | ⟨rfl, E⟩
    ·go_upto_region 7 with (fail)
     refine region_fr (C := [Fq.is (.bool true)]) (ks := [none, none, none, none, none, none]) (new := []) E rfl (by kernel_rfl) rfl rfl (fun hp => ⟨?_, trivial⟩) ?_
     ·exact q_one (F := fun v _ => v = .int .i64 0) hp (free_of rfl) trivial (sqo 17) (fun ρ w hc h => ⟨.bool true, by simp [execOp, go_sem, h, hc], rfl⟩)
     intro L vs w28 nb hL hC hn E28
     have e0 : vs 0 = .bool true := hC 0 (by simp)
     have E : Fr w [(b5, 8, Fq.st [.n ((x1 * y1) + (x2 * y3)), .n ((x1 * y2) + (x2 * y4)), .n 0, .n 0]), (b4_4, 8, Fq.st [.n x1, .n x2, .n x3, .n x4]), (b4_5, 8, Fq.st [.n y1, .n y2, .n y3, .n y4]), (b3, 8, Fq.st [.n 0, .n 0, .n 0, .n 0]), (b2, 8, Fq.st [.n y1, .n y2, .n y3, .n y4]), (b1, 8, Fq.st [.n x1, .n x2, .n x3, .n x4])] w28 := E28
     rw [lay_all hL]
     simp only [putAll, dstOf, List.length_cons, List.length_nil, Nat.zero_add, List.getElem?_toArray, List.getElem?_cons_zero, Option.bind_some, Act.put, List.setIfInBounds_toArray, List.set_cons_succ, List.set_cons_zero]
     rw [e0]
     clear e0 hC hn E28 hL vs L nb
     go_upto_region 8 with (fail)
     refine region_fr (C := [Fq.is (.int .i64 0), Fq.is (.int .i64 0)]) (ks := [none, none, none, none, none, none]) (new := []) E rfl (by kernel_rfl) rfl rfl (fun hp => ⟨?_, ?_, trivial⟩) ?_
     ·exact q_move hp (free_of rfl) trivial (sqo 17)
     ·exact q_assign hp (free_of rfl) trivial (sqi 0)
     intro L vs w29 nb hL hC hn E29
     have e0 : vs 0 = .int .i64 0 := hC 0 (by simp)
     have e1 : vs 1 = .int .i64 0 := hC 1 (by simp)
     have E : Fr w [(b5, 8, Fq.st [.n ((x1 * y1) + (x2 * y3)), .n ((x1 * y2) + (x2 * y4)), .n 0, .n 0]), (b4_4, 8, Fq.st [.n x1, .n x2, .n x3, .n x4]), (b4_5, 8, Fq.st [.n y1, .n y2, .n y3, .n y4]), (b3, 8, Fq.st [.n 0, .n 0, .n 0, .n 0]), (b2, 8, Fq.st [.n y1, .n y2, .n y3, .n y4]), (b1, 8, Fq.st [.n x1, .n x2, .n x3, .n x4])] w29 := E29
     rw [lay_all hL]
     simp only [putAll, dstOf, List.length_cons, List.length_nil, Nat.zero_add, Nat.reduceAdd, List.getElem?_toArray, List.getElem?_cons_zero, List.getElem?_cons_succ, Option.bind_some, Act.put, List.setIfInBounds_toArray, List.set_cons_succ, List.set_cons_zero]
     rw [e0, e1]
     clear e0 e1 hC hn E29 hL vs L nb
     go_upto_region 9 with (fail)
     refine region_fr (C := [Fq.is (.int .i64 1), Fq.is (.int .i64 0), Fq.is (.int .i64 1), Fq.is (.pointer (some ⟨b4_4, 4, none⟩)), Fq.is (.pointer (some ⟨b4_4, 4, none⟩)), Fq.num x3, Fq.is (.int .i64 0), Fq.is (.pointer (some ⟨b4_5, 0, none⟩)), Fq.is (.pointer (some ⟨b4_5, 0, none⟩)), Fq.num y1, Fq.num (x3 * y1), Fq.is (.int .i64 1), Fq.is (.pointer (some ⟨b4_4, 4, none⟩)), Fq.is (.pointer (some ⟨b4_4, 6, none⟩)), Fq.num x4, Fq.is (.int .i64 0), Fq.is (.pointer (some ⟨b4_5, 4, none⟩)), Fq.is (.pointer (some ⟨b4_5, 4, none⟩)), Fq.num y3, Fq.num (x4 * y3), Fq.num ((x3 * y1) + (x4 * y3)), Fq.is (.pointer (some ⟨b5, 4, none⟩)), Fq.is (.pointer (some ⟨b5, 4, none⟩)), Fq.any]) (ks := [some (23, Fq.st [.n ((x1 * y1) + (x2 * y3)), .n ((x1 * y2) + (x2 * y4)), .n ((x3 * y1) + (x4 * y3)), .n 0]), none, none, none, none, none]) (new := []) E rfl (by kernel_rfl) rfl rfl (fun hp => ⟨?_, ?_, ?_, ?_, ?_, ?_, ?_, ?_, ?_, ?_, ?_, ?_, ?_, ?_, ?_, ?_, ?_, ?_, ?_, ?_, ?_, ?_, ?_, ?_, trivial⟩) ?_
     ·exact q_move hp (free_of rfl) trivial (sqo 8)
     ·exact q_move hp (free_of rfl) trivial (sqo 9)
     ·exact q_move hp (free_of rfl) trivial (sqo 8)
     ·exact q_two (F := fun v _ => v = .pointer (some ⟨b4_4, 0, none⟩)) (G := fun v _ => v = .int .i64 1) hp (free_of rfl) trivial (sqo 5) (sqi 2) (fun ρ w hc h h' => ⟨.pointer (some ⟨b4_4, 4, none⟩), by simp [execOp, go_sem, h, h'], rfl⟩)
     ·exact q_one (F := fun v _ => v = .pointer (some ⟨b4_4, 4, none⟩)) hp (free_of rfl) trivial (sqi 3) (fun ρ w hc h => ⟨.pointer (some ⟨b4_4, 4, none⟩), by simp [execOp, go_sem, h, hc], rfl⟩)
     ·exact q_loadSt (off := 4) (l := 2) (fs := [.n x1, .n x2, .n x3, .n x4]) (gs := [.n x3]) hp (free_of rfl) trivial (mq 1 rfl) (.inl rfl) rfl row_api_Int rfl (sqi 4) (fun v w h => st_num h)
     ·exact q_move hp (free_of rfl) trivial (sqo 9)
     ·exact q_one (F := fun v _ => v = .pointer (some ⟨b4_5, 0, none⟩)) hp (free_of rfl) trivial (sqo 6) (fun ρ w hc h => ⟨.pointer (some ⟨b4_5, 0, none⟩), by simp [execOp, go_sem, h, hc], rfl⟩)
     ·exact q_two (F := fun v _ => v = .pointer (some ⟨b4_5, 0, none⟩)) (G := fun v _ => v = .int .i64 0) hp (free_of rfl) trivial (sqi 7) (sqi 6) (fun ρ w hc h h' => ⟨.pointer (some ⟨b4_5, 0, none⟩), by simp [execOp, go_sem, h, h'], rfl⟩)
     ·exact q_loadSt (off := 0) (l := 2) (fs := [.n y1, .n y2, .n y3, .n y4]) (gs := [.n y1]) hp (free_of rfl) trivial (mq 2 rfl) (.inl rfl) rfl row_api_Int rfl (sqi 8) (fun v w h => st_num h)
     ·exact q_call2 (F := (Fq.num x3).P) (G := (Fq.num y1).P) hp (free_of rfl) trivial (enq_Mul) (sqi 5) (sqi 9) (fun v v' w h h' => exK (MulV h h') B12.out (by omega))
     ·exact q_move hp (free_of rfl) trivial (sqo 8)
     ·exact q_two (F := fun v _ => v = .pointer (some ⟨b4_4, 0, none⟩)) (G := fun v _ => v = .int .i64 1) hp (free_of rfl) trivial (sqo 5) (sqi 11) (fun ρ w hc h h' => ⟨.pointer (some ⟨b4_4, 4, none⟩), by simp [execOp, go_sem, h, h'], rfl⟩)
     ·exact q_one (F := fun v _ => v = .pointer (some ⟨b4_4, 4, none⟩)) hp (free_of rfl) trivial (sqi 12) (fun ρ w hc h => ⟨.pointer (some ⟨b4_4, 6, none⟩), by simp [execOp, go_sem, h, hc], rfl⟩)
     ·exact q_loadSt (off := 6) (l := 2) (fs := [.n x1, .n x2, .n x3, .n x4]) (gs := [.n x4]) hp (free_of rfl) trivial (mq 1 rfl) (.inl rfl) rfl row_api_Int rfl (sqi 13) (fun v w h => st_num h)
     ·exact q_move hp (free_of rfl) trivial (sqo 9)
     ·exact q_one (F := fun v _ => v = .pointer (some ⟨b4_5, 0, none⟩)) hp (free_of rfl) trivial (sqo 6) (fun ρ w hc h => ⟨.pointer (some ⟨b4_5, 4, none⟩), by simp [execOp, go_sem, h, hc], rfl⟩)
     ·exact q_two (F := fun v _ => v = .pointer (some ⟨b4_5, 4, none⟩)) (G := fun v _ => v = .int .i64 0) hp (free_of rfl) trivial (sqi 16) (sqi 15) (fun ρ w hc h h' => ⟨.pointer (some ⟨b4_5, 4, none⟩), by simp [execOp, go_sem, h, h'], rfl⟩)
     ·exact q_loadSt (off := 4) (l := 2) (fs := [.n y1, .n y2, .n y3, .n y4]) (gs := [.n y3]) hp (free_of rfl) trivial (mq 2 rfl) (.inl rfl) rfl row_api_Int rfl (sqi 17) (fun v w h => st_num h)
     ·exact q_call2 (F := (Fq.num x4).P) (G := (Fq.num y3).P) hp (free_of rfl) trivial (enq_Mul) (sqi 14) (sqi 18) (fun v v' w h h' => exK (MulV h h') B13.out (by omega))
     ·exact q_call2 (F := (Fq.num (x3 * y1)).P) (G := (Fq.num (x4 * y3)).P) hp (free_of rfl) trivial (enq_Add) (sqi 10) (sqi 19) (fun v v' w h h' => exK (AddV h h') B14.out (by omega))
     ·exact q_two (F := fun v _ => v = .pointer (some ⟨b5, 0, none⟩)) (G := fun v _ => v = .int .i64 1) hp (free_of rfl) trivial (sqo 7) (sqi 0) (fun ρ w hc h h' => ⟨.pointer (some ⟨b5, 4, none⟩), by simp [execOp, go_sem, h, h'], rfl⟩)
     ·exact q_two (F := fun v _ => v = .pointer (some ⟨b5, 4, none⟩)) (G := fun v _ => v = .int .i64 0) hp (free_of rfl) trivial (sqi 21) (sqi 1) (fun ρ w hc h h' => ⟨.pointer (some ⟨b5, 4, none⟩), by simp [execOp, go_sem, h, h'], rfl⟩)
     ·exact q_storeOldSt (off := 4) (fs := [.n ((x1 * y1) + (x2 * y3)), .n ((x1 * y2) + (x2 * y4)), .n 0, .n 0]) (gs := [.n ((x3 * y1) + (x4 * y3))]) (fs' := [.n ((x1 * y1) + (x2 * y3)), .n ((x1 * y2) + (x2 * y4)), .n ((x3 * y1) + (x4 * y3)), .n 0]) hp (mq 0 rfl) rfl rfl rfl size_api_Int rfl (sqi 22) (sq_in 20 rfl rfl (by simp) rfl (fun v w h => fitv_num h)) (fun _ _ => trivial) (newik_ne rfl)
     intro L vs w30 nb hL hC hn E30
     have e0 : vs 0 = .int .i64 1 := hC 0 (by simp)
     have e1 : vs 1 = .int .i64 0 := hC 1 (by simp)
     have e2 : vs 2 = .int .i64 1 := hC 2 (by simp)
     have e3 : vs 3 = .pointer (some ⟨b4_4, 4, none⟩) := hC 3 (by simp)
     have e4 : vs 4 = .pointer (some ⟨b4_4, 4, none⟩) := hC 4 (by simp)
     have e6 : vs 6 = .int .i64 0 := hC 6 (by simp)
     have e7 : vs 7 = .pointer (some ⟨b4_5, 0, none⟩) := hC 7 (by simp)
     have e8 : vs 8 = .pointer (some ⟨b4_5, 0, none⟩) := hC 8 (by simp)
     have e11 : vs 11 = .int .i64 1 := hC 11 (by simp)
     have e12 : vs 12 = .pointer (some ⟨b4_4, 4, none⟩) := hC 12 (by simp)
     have e13 : vs 13 = .pointer (some ⟨b4_4, 6, none⟩) := hC 13 (by simp)
     have e15 : vs 15 = .int .i64 0 := hC 15 (by simp)
     have e16 : vs 16 = .pointer (some ⟨b4_5, 4, none⟩) := hC 16 (by simp)
     have e17 : vs 17 = .pointer (some ⟨b4_5, 4, none⟩) := hC 17 (by simp)
     have e21 : vs 21 = .pointer (some ⟨b5, 4, none⟩) := hC 21 (by simp)
     have e22 : vs 22 = .pointer (some ⟨b5, 4, none⟩) := hC 22 (by simp)
     have E : Fr w [(b5, 8, Fq.st [.n ((x1 * y1) + (x2 * y3)), .n ((x1 * y2) + (x2 * y4)), .n ((x3 * y1) + (x4 * y3)), .n 0]), (b4_4, 8, Fq.st [.n x1, .n x2, .n x3, .n x4]), (b4_5, 8, Fq.st [.n y1, .n y2, .n y3, .n y4]), (b3, 8, Fq.st [.n 0, .n 0, .n 0, .n 0]), (b2, 8, Fq.st [.n y1, .n y2, .n y3, .n y4]), (b1, 8, Fq.st [.n x1, .n x2, .n x3, .n x4])] w30 := E30
     rw [lay_all hL]
     simp only [putAll, dstOf, List.length_cons, List.length_nil, Nat.zero_add, Nat.reduceAdd, List.getElem?_toArray, List.getElem?_cons_zero, List.getElem?_cons_succ, Option.bind_some, Act.put, List.setIfInBounds_toArray, List.set_cons_succ, List.set_cons_zero]
     rw [e0, e1, e2, e3, e4, e6, e7, e8, e11, e12, e13, e15, e16, e17, e21, e22]
     generalize vs 5 = u30_5
     generalize vs 9 = u30_9
     generalize vs 10 = u30_10
     generalize vs 14 = u30_14
     generalize vs 18 = u30_18
     generalize vs 19 = u30_19
     generalize vs 20 = u30_20
     clear e0 e1 e2 e3 e4 e6 e7 e8 e11 e12 e13 e15 e16 e17 e21 e22 hC hn E30 hL vs L nb
     clear B6 B7 B8 B9 B10 B11 B12 B13 B14 B15 B16 B17 hx1 hx2 hx3 hx4 hy1 hy2 hy3 hy4
     go_wp2
     go_roundw
     case rel => exact .inr (.inl ⟨by first | rfl | go_num, E⟩)
     case measure => first | (simp [intOf]; omega) | simp [intOf] | decide
    ·go_upto_region 7 with (fail)
     refine region_fr (C := [Fq.is (.bool true)]) (ks := [none, none, none, none, none, none]) (new := []) E rfl (by kernel_rfl) rfl rfl (fun hp => ⟨?_, trivial⟩) ?_
     ·exact q_one (F := fun v _ => v = .int .i64 1) hp (free_of rfl) trivial (sqo 17) (fun ρ w hc h => ⟨.bool true, by simp [execOp, go_sem, h, hc], rfl⟩)
     intro L vs w31 nb hL hC hn E31
     have e0 : vs 0 = .bool true := hC 0 (by simp)
     have E : Fr w [(b5, 8, Fq.st [.n ((x1 * y1) + (x2 * y3)), .n ((x1 * y2) + (x2 * y4)), .n ((x3 * y1) + (x4 * y3)), .n 0]), (b4_4, 8, Fq.st [.n x1, .n x2, .n x3, .n x4]), (b4_5, 8, Fq.st [.n y1, .n y2, .n y3, .n y4]), (b3, 8, Fq.st [.n 0, .n 0, .n 0, .n 0]), (b2, 8, Fq.st [.n y1, .n y2, .n y3, .n y4]), (b1, 8, Fq.st [.n x1, .n x2, .n x3, .n x4])] w31 := E31
     rw [lay_all hL]
     simp only [putAll, dstOf, List.length_cons, List.length_nil, Nat.zero_add, List.getElem?_toArray, List.getElem?_cons_zero, Option.bind_some, Act.put, List.setIfInBounds_toArray, List.set_cons_succ, List.set_cons_zero]
     rw [e0]
     clear e0 hC hn E31 hL vs L nb
     go_upto_region 8 with (fail)
     refine region_fr (C := [Fq.is (.int .i64 1), Fq.is (.int .i64 1)]) (ks := [none, none, none, none, none, none]) (new := []) E rfl (by kernel_rfl) rfl rfl (fun hp => ⟨?_, ?_, trivial⟩) ?_
     ·exact q_move hp (free_of rfl) trivial (sqo 17)
     ·exact q_assign hp (free_of rfl) trivial (sqi 0)
     intro L vs w32 nb hL hC hn E32
     have e0 : vs 0 = .int .i64 1 := hC 0 (by simp)
     have e1 : vs 1 = .int .i64 1 := hC 1 (by simp)
     have E : Fr w [(b5, 8, Fq.st [.n ((x1 * y1) + (x2 * y3)), .n ((x1 * y2) + (x2 * y4)), .n ((x3 * y1) + (x4 * y3)), .n 0]), (b4_4, 8, Fq.st [.n x1, .n x2, .n x3, .n x4]), (b4_5, 8, Fq.st [.n y1, .n y2, .n y3, .n y4]), (b3, 8, Fq.st [.n 0, .n 0, .n 0, .n 0]), (b2, 8, Fq.st [.n y1, .n y2, .n y3, .n y4]), (b1, 8, Fq.st [.n x1, .n x2, .n x3, .n x4])] w32 := E32
     rw [lay_all hL]
     simp only [putAll, dstOf, List.length_cons, List.length_nil, Nat.zero_add, Nat.reduceAdd, List.getElem?_toArray, List.getElem?_cons_zero, List.getElem?_cons_succ, Option.bind_some, Act.put, List.setIfInBounds_toArray, List.set_cons_succ, List.set_cons_zero]
     rw [e0, e1]
     clear e0 e1 hC hn E32 hL vs L nb
     go_upto_region 9 with (fail)
     refine region_fr (C := [Fq.is (.int .i64 1), Fq.is (.int .i64 1), Fq.is (.int .i64 1), Fq.is (.pointer (some ⟨b4_4, 4, none⟩)), Fq.is (.pointer (some ⟨b4_4, 4, none⟩)), Fq.num x3, Fq.is (.int .i64 1), Fq.is (.pointer (some ⟨b4_5, 0, none⟩)), Fq.is (.pointer (some ⟨b4_5, 2, none⟩)), Fq.num y2, Fq.num (x3 * y2), Fq.is (.int .i64 1), Fq.is (.pointer (some ⟨b4_4, 4, none⟩)), Fq.is (.pointer (some ⟨b4_4, 6, none⟩)), Fq.num x4, Fq.is (.int .i64 1), Fq.is (.pointer (some ⟨b4_5, 4, none⟩)), Fq.is (.pointer (some ⟨b4_5, 6, none⟩)), Fq.num y4, Fq.num (x4 * y4), Fq.num ((x3 * y2) + (x4 * y4)), Fq.is (.pointer (some ⟨b5, 4, none⟩)), Fq.is (.pointer (some ⟨b5, 6, none⟩)), Fq.any]) (ks := [some (23, Fq.st [.n ((x1 * y1) + (x2 * y3)), .n ((x1 * y2) + (x2 * y4)), .n ((x3 * y1) + (x4 * y3)), .n ((x3 * y2) + (x4 * y4))]), none, none, none, none, none]) (new := []) E rfl (by kernel_rfl) rfl rfl (fun hp => ⟨?_, ?_, ?_, ?_, ?_, ?_, ?_, ?_, ?_, ?_, ?_, ?_, ?_, ?_, ?_, ?_, ?_, ?_, ?_, ?_, ?_, ?_, ?_, ?_, trivial⟩) ?_
     ·exact q_move hp (free_of rfl) trivial (sqo 8)
     ·exact q_move hp (free_of rfl) trivial (sqo 9)
     ·exact q_move hp (free_of rfl) trivial (sqo 8)
     ·exact q_two (F := fun v _ => v = .pointer (some ⟨b4_4, 0, none⟩)) (G := fun v _ => v = .int .i64 1) hp (free_of rfl) trivial (sqo 5) (sqi 2) (fun ρ w hc h h' => ⟨.pointer (some ⟨b4_4, 4, none⟩), by simp [execOp, go_sem, h, h'], rfl⟩)
     ·exact q_one (F := fun v _ => v = .pointer (some ⟨b4_4, 4, none⟩)) hp (free_of rfl) trivial (sqi 3) (fun ρ w hc h => ⟨.pointer (some ⟨b4_4, 4, none⟩), by simp [execOp, go_sem, h, hc], rfl⟩)
     ·exact q_loadSt (off := 4) (l := 2) (fs := [.n x1, .n x2, .n x3, .n x4]) (gs := [.n x3]) hp (free_of rfl) trivial (mq 1 rfl) (.inl rfl) rfl row_api_Int rfl (sqi 4) (fun v w h => st_num h)
     ·exact q_move hp (free_of rfl) trivial (sqo 9)
     ·exact q_one (F := fun v _ => v = .pointer (some ⟨b4_5, 0, none⟩)) hp (free_of rfl) trivial (sqo 6) (fun ρ w hc h => ⟨.pointer (some ⟨b4_5, 0, none⟩), by simp [execOp, go_sem, h, hc], rfl⟩)
     ·exact q_two (F := fun v _ => v = .pointer (some ⟨b4_5, 0, none⟩)) (G := fun v _ => v = .int .i64 1) hp (free_of rfl) trivial (sqi 7) (sqi 6) (fun ρ w hc h h' => ⟨.pointer (some ⟨b4_5, 2, none⟩), by simp [execOp, go_sem, h, h'], rfl⟩)
     ·exact q_loadSt (off := 2) (l := 2) (fs := [.n y1, .n y2, .n y3, .n y4]) (gs := [.n y2]) hp (free_of rfl) trivial (mq 2 rfl) (.inl rfl) rfl row_api_Int rfl (sqi 8) (fun v w h => st_num h)
     ·exact q_call2 (F := (Fq.num x3).P) (G := (Fq.num y2).P) hp (free_of rfl) trivial (enq_Mul) (sqi 5) (sqi 9) (fun v v' w h h' => exK (MulV h h') B15.out (by omega))
     ·exact q_move hp (free_of rfl) trivial (sqo 8)
     ·exact q_two (F := fun v _ => v = .pointer (some ⟨b4_4, 0, none⟩)) (G := fun v _ => v = .int .i64 1) hp (free_of rfl) trivial (sqo 5) (sqi 11) (fun ρ w hc h h' => ⟨.pointer (some ⟨b4_4, 4, none⟩), by simp [execOp, go_sem, h, h'], rfl⟩)
     ·exact q_one (F := fun v _ => v = .pointer (some ⟨b4_4, 4, none⟩)) hp (free_of rfl) trivial (sqi 12) (fun ρ w hc h => ⟨.pointer (some ⟨b4_4, 6, none⟩), by simp [execOp, go_sem, h, hc], rfl⟩)
     ·exact q_loadSt (off := 6) (l := 2) (fs := [.n x1, .n x2, .n x3, .n x4]) (gs := [.n x4]) hp (free_of rfl) trivial (mq 1 rfl) (.inl rfl) rfl row_api_Int rfl (sqi 13) (fun v w h => st_num h)
     ·exact q_move hp (free_of rfl) trivial (sqo 9)
     ·exact q_one (F := fun v _ => v = .pointer (some ⟨b4_5, 0, none⟩)) hp (free_of rfl) trivial (sqo 6) (fun ρ w hc h => ⟨.pointer (some ⟨b4_5, 4, none⟩), by simp [execOp, go_sem, h, hc], rfl⟩)
     ·exact q_two (F := fun v _ => v = .pointer (some ⟨b4_5, 4, none⟩)) (G := fun v _ => v = .int .i64 1) hp (free_of rfl) trivial (sqi 16) (sqi 15) (fun ρ w hc h h' => ⟨.pointer (some ⟨b4_5, 6, none⟩), by simp [execOp, go_sem, h, h'], rfl⟩)
     ·exact q_loadSt (off := 6) (l := 2) (fs := [.n y1, .n y2, .n y3, .n y4]) (gs := [.n y4]) hp (free_of rfl) trivial (mq 2 rfl) (.inl rfl) rfl row_api_Int rfl (sqi 17) (fun v w h => st_num h)
     ·exact q_call2 (F := (Fq.num x4).P) (G := (Fq.num y4).P) hp (free_of rfl) trivial (enq_Mul) (sqi 14) (sqi 18) (fun v v' w h h' => exK (MulV h h') B16.out (by omega))
     ·exact q_call2 (F := (Fq.num (x3 * y2)).P) (G := (Fq.num (x4 * y4)).P) hp (free_of rfl) trivial (enq_Add) (sqi 10) (sqi 19) (fun v v' w h h' => exK (AddV h h') B17.out (by omega))
     ·exact q_two (F := fun v _ => v = .pointer (some ⟨b5, 0, none⟩)) (G := fun v _ => v = .int .i64 1) hp (free_of rfl) trivial (sqo 7) (sqi 0) (fun ρ w hc h h' => ⟨.pointer (some ⟨b5, 4, none⟩), by simp [execOp, go_sem, h, h'], rfl⟩)
     ·exact q_two (F := fun v _ => v = .pointer (some ⟨b5, 4, none⟩)) (G := fun v _ => v = .int .i64 1) hp (free_of rfl) trivial (sqi 21) (sqi 1) (fun ρ w hc h h' => ⟨.pointer (some ⟨b5, 6, none⟩), by simp [execOp, go_sem, h, h'], rfl⟩)
     ·exact q_storeOldSt (off := 6) (fs := [.n ((x1 * y1) + (x2 * y3)), .n ((x1 * y2) + (x2 * y4)), .n ((x3 * y1) + (x4 * y3)), .n 0]) (gs := [.n ((x3 * y2) + (x4 * y4))]) (fs' := [.n ((x1 * y1) + (x2 * y3)), .n ((x1 * y2) + (x2 * y4)), .n ((x3 * y1) + (x4 * y3)), .n ((x3 * y2) + (x4 * y4))]) hp (mq 0 rfl) rfl rfl rfl size_api_Int rfl (sqi 22) (sq_in 20 rfl rfl (by simp) rfl (fun v w h => fitv_num h)) (fun _ _ => trivial) (newik_ne rfl)
     intro L vs w33 nb hL hC hn E33
     have e0 : vs 0 = .int .i64 1 := hC 0 (by simp)
     have e1 : vs 1 = .int .i64 1 := hC 1 (by simp)
     have e2 : vs 2 = .int .i64 1 := hC 2 (by simp)
     have e3 : vs 3 = .pointer (some ⟨b4_4, 4, none⟩) := hC 3 (by simp)
     have e4 : vs 4 = .pointer (some ⟨b4_4, 4, none⟩) := hC 4 (by simp)
     have e6 : vs 6 = .int .i64 1 := hC 6 (by simp)
     have e7 : vs 7 = .pointer (some ⟨b4_5, 0, none⟩) := hC 7 (by simp)
     have e8 : vs 8 = .pointer (some ⟨b4_5, 2, none⟩) := hC 8 (by simp)
     have e11 : vs 11 = .int .i64 1 := hC 11 (by simp)
     have e12 : vs 12 = .pointer (some ⟨b4_4, 4, none⟩) := hC 12 (by simp)
     have e13 : vs 13 = .pointer (some ⟨b4_4, 6, none⟩) := hC 13 (by simp)
     have e15 : vs 15 = .int .i64 1 := hC 15 (by simp)
     have e16 : vs 16 = .pointer (some ⟨b4_5, 4, none⟩) := hC 16 (by simp)
     have e17 : vs 17 = .pointer (some ⟨b4_5, 6, none⟩) := hC 17 (by simp)
     have e21 : vs 21 = .pointer (some ⟨b5, 4, none⟩) := hC 21 (by simp)
     have e22 : vs 22 = .pointer (some ⟨b5, 6, none⟩) := hC 22 (by simp)
     have E : Fr w [(b5, 8, Fq.st [.n ((x1 * y1) + (x2 * y3)), .n ((x1 * y2) + (x2 * y4)), .n ((x3 * y1) + (x4 * y3)), .n ((x3 * y2) + (x4 * y4))]), (b4_4, 8, Fq.st [.n x1, .n x2, .n x3, .n x4]), (b4_5, 8, Fq.st [.n y1, .n y2, .n y3, .n y4]), (b3, 8, Fq.st [.n 0, .n 0, .n 0, .n 0]), (b2, 8, Fq.st [.n y1, .n y2, .n y3, .n y4]), (b1, 8, Fq.st [.n x1, .n x2, .n x3, .n x4])] w33 := E33
     rw [lay_all hL]
     simp only [putAll, dstOf, List.length_cons, List.length_nil, Nat.zero_add, Nat.reduceAdd, List.getElem?_toArray, List.getElem?_cons_zero, List.getElem?_cons_succ, Option.bind_some, Act.put, List.setIfInBounds_toArray, List.set_cons_succ, List.set_cons_zero]
     rw [e0, e1, e2, e3, e4, e6, e7, e8, e11, e12, e13, e15, e16, e17, e21, e22]
     generalize vs 5 = u33_5
     generalize vs 9 = u33_9
     generalize vs 10 = u33_10
     generalize vs 14 = u33_14
     generalize vs 18 = u33_18
     generalize vs 19 = u33_19
     generalize vs 20 = u33_20
     clear e0 e1 e2 e3 e4 e6 e7 e8 e11 e12 e13 e15 e16 e17 e21 e22 hC hn E33 hL vs L nb
     clear B6 B7 B8 B9 B10 B11 B12 B13 B14 B15 B16 B17 hx1 hx2 hx3 hx4 hy1 hy2 hy3 hy4
     go_wp2
     go_roundw
     case rel => exact .inr (.inr ⟨by first | rfl | go_num, E⟩)
     case measure => first | (simp [intOf]; omega) | simp [intOf] | decide
    ·clear B6 B7 B8 B9 B10 B11 B12 B13 B14 B15 B16 B17 hx1 hx2 hx3 hx4 hy1 hy2 hy3 hy4
     go_wp2
     go_roundw
     case rel => exact .inr (.inr ⟨by first | rfl | go_num, E⟩)
     case measure => first | (simp [intOf]; omega) | simp [intOf] | decide
  ·go_upto_region 4 with (fail)
   refine region_fr (C := [Fq.is (.bool false)]) (ks := [none, none, none, none, none, none]) (new := []) E rfl (by kernel_rfl) rfl rfl (fun hp => ⟨?_, trivial⟩) ?_
   ·exact q_one (F := fun v _ => v = .int .i64 2) hp (free_of rfl) trivial (sqo 14) (fun ρ w hc h => ⟨.bool false, by simp [execOp, go_sem, h, hc], rfl⟩)
   intro L vs w34 nb hL hC hn E34
   have e0 : vs 0 = .bool false := hC 0 (by simp)
   have E : Fr w [(b5, 8, Fq.st [.n ((x1 * y1) + (x2 * y3)), .n ((x1 * y2) + (x2 * y4)), .n ((x3 * y1) + (x4 * y3)), .n ((x3 * y2) + (x4 * y4))]), (b4_4, 8, Fq.st [.n x1, .n x2, .n x3, .n x4]), (b4_5, 8, Fq.st [.n y1, .n y2, .n y3, .n y4]), (b3, 8, Fq.st [.n 0, .n 0, .n 0, .n 0]), (b2, 8, Fq.st [.n y1, .n y2, .n y3, .n y4]), (b1, 8, Fq.st [.n x1, .n x2, .n x3, .n x4])] w34 := E34
   rw [lay_all hL]
   simp only [putAll, dstOf, List.length_cons, List.length_nil, Nat.zero_add, List.getElem?_toArray, List.getElem?_cons_zero, Option.bind_some, Act.put, List.setIfInBounds_toArray, List.set_cons_succ, List.set_cons_zero]
   rw [e0]
   clear e0 hC hn E34 hL vs L nb
   go_upto_region 12 with (fail)
   refine region_fr (C := [Fq.is (.pointer (some ⟨b5, 0, none⟩)), Fq.is (.pointer (some ⟨b5, 0, none⟩)), Fq.num ((x1 * y1) + (x2 * y3)), Fq.is (.pointer (some ⟨b5, 0, none⟩)), Fq.is (.pointer (some ⟨b5, 2, none⟩)), Fq.num ((x1 * y2) + (x2 * y4)), Fq.is (.pointer (some ⟨b5, 4, none⟩)), Fq.is (.pointer (some ⟨b5, 4, none⟩)), Fq.num ((x3 * y1) + (x4 * y3)), Fq.is (.pointer (some ⟨b5, 4, none⟩)), Fq.is (.pointer (some ⟨b5, 6, none⟩)), Fq.num ((x3 * y2) + (x4 * y4)), Fq.st [.n ((x1 * y1) + (x2 * y3)), .n ((x1 * y2) + (x2 * y4)), .n ((x3 * y1) + (x4 * y3)), .n ((x3 * y2) + (x4 * y4))], Fq.any]) (ks := [none, none, none, some (13, Fq.st [.n ((x1 * y1) + (x2 * y3)), .n ((x1 * y2) + (x2 * y4)), .n ((x3 * y1) + (x4 * y3)), .n ((x3 * y2) + (x4 * y4))]), none, none]) (new := []) E rfl (by kernel_rfl) rfl rfl (fun hp => ⟨?_, ?_, ?_, ?_, ?_, ?_, ?_, ?_, ?_, ?_, ?_, ?_, ?_, ?_, trivial⟩) ?_
   ·exact q_one (F := fun v _ => v = .pointer (some ⟨b5, 0, none⟩)) hp (free_of rfl) trivial (sqo 7) (fun ρ w hc h => ⟨.pointer (some ⟨b5, 0, none⟩), by simp [execOp, go_sem, h, hc], rfl⟩)
   ·exact q_one (F := fun v _ => v = .pointer (some ⟨b5, 0, none⟩)) hp (free_of rfl) trivial (sqi 0) (fun ρ w hc h => ⟨.pointer (some ⟨b5, 0, none⟩), by simp [execOp, go_sem, h, hc], rfl⟩)
   ·exact q_loadSt (off := 0) (l := 2) (fs := [.n ((x1 * y1) + (x2 * y3)), .n ((x1 * y2) + (x2 * y4)), .n ((x3 * y1) + (x4 * y3)), .n ((x3 * y2) + (x4 * y4))]) (gs := [.n ((x1 * y1) + (x2 * y3))]) hp (free_of rfl) trivial (mq 0 rfl) (.inl rfl) rfl row_api_Int rfl (sqi 1) (fun v w h => st_num h)
   ·exact q_one (F := fun v _ => v = .pointer (some ⟨b5, 0, none⟩)) hp (free_of rfl) trivial (sqo 7) (fun ρ w hc h => ⟨.pointer (some ⟨b5, 0, none⟩), by simp [execOp, go_sem, h, hc], rfl⟩)
   ·exact q_one (F := fun v _ => v = .pointer (some ⟨b5, 0, none⟩)) hp (free_of rfl) trivial (sqi 3) (fun ρ w hc h => ⟨.pointer (some ⟨b5, 2, none⟩), by simp [execOp, go_sem, h, hc], rfl⟩)
   ·exact q_loadSt (off := 2) (l := 2) (fs := [.n ((x1 * y1) + (x2 * y3)), .n ((x1 * y2) + (x2 * y4)), .n ((x3 * y1) + (x4 * y3)), .n ((x3 * y2) + (x4 * y4))]) (gs := [.n ((x1 * y2) + (x2 * y4))]) hp (free_of rfl) trivial (mq 0 rfl) (.inl rfl) rfl row_api_Int rfl (sqi 4) (fun v w h => st_num h)
   ·exact q_one (F := fun v _ => v = .pointer (some ⟨b5, 0, none⟩)) hp (free_of rfl) trivial (sqo 7) (fun ρ w hc h => ⟨.pointer (some ⟨b5, 4, none⟩), by simp [execOp, go_sem, h, hc], rfl⟩)
   ·exact q_one (F := fun v _ => v = .pointer (some ⟨b5, 4, none⟩)) hp (free_of rfl) trivial (sqi 6) (fun ρ w hc h => ⟨.pointer (some ⟨b5, 4, none⟩), by simp [execOp, go_sem, h, hc], rfl⟩)
   ·exact q_loadSt (off := 4) (l := 2) (fs := [.n ((x1 * y1) + (x2 * y3)), .n ((x1 * y2) + (x2 * y4)), .n ((x3 * y1) + (x4 * y3)), .n ((x3 * y2) + (x4 * y4))]) (gs := [.n ((x3 * y1) + (x4 * y3))]) hp (free_of rfl) trivial (mq 0 rfl) (.inl rfl) rfl row_api_Int rfl (sqi 7) (fun v w h => st_num h)
   ·exact q_one (F := fun v _ => v = .pointer (some ⟨b5, 0, none⟩)) hp (free_of rfl) trivial (sqo 7) (fun ρ w hc h => ⟨.pointer (some ⟨b5, 4, none⟩), by simp [execOp, go_sem, h, hc], rfl⟩)
   ·exact q_one (F := fun v _ => v = .pointer (some ⟨b5, 4, none⟩)) hp (free_of rfl) trivial (sqi 9) (fun ρ w hc h => ⟨.pointer (some ⟨b5, 6, none⟩), by simp [execOp, go_sem, h, hc], rfl⟩)
   ·exact q_loadSt (off := 6) (l := 2) (fs := [.n ((x1 * y1) + (x2 * y3)), .n ((x1 * y2) + (x2 * y4)), .n ((x3 * y1) + (x4 * y3)), .n ((x3 * y2) + (x4 * y4))]) (gs := [.n ((x3 * y2) + (x4 * y4))]) hp (free_of rfl) trivial (mq 0 rfl) (.inl rfl) rfl row_api_Int rfl (sqi 10) (fun v w h => st_num h)
   ·exact q_build_api_Mat_0123 (z0 := ((x1 * y1) + (x2 * y3))) (z1 := ((x1 * y2) + (x2 * y4))) (z2 := ((x3 * y1) + (x4 * y3))) (z3 := ((x3 * y2) + (x4 * y4))) hp (free_of rfl) trivial (sqi 2) (sqi 5) (sqi 8) (sqi 11) (fun v w h => h)
   ·exact q_storeOldSt (off := 0) (fs := [.n 0, .n 0, .n 0, .n 0]) (gs := [.n ((x1 * y1) + (x2 * y3)), .n ((x1 * y2) + (x2 * y4)), .n ((x3 * y1) + (x4 * y3)), .n ((x3 * y2) + (x4 * y4))]) (fs' := [.n ((x1 * y1) + (x2 * y3)), .n ((x1 * y2) + (x2 * y4)), .n ((x3 * y1) + (x4 * y3)), .n ((x3 * y2) + (x4 * y4))]) hp (mq 3 rfl) rfl rfl rfl size_api_Mat rfl (sqo 4) (sq_in 12 rfl rfl (by simp) rfl (fun v w h => fitv_st h)) (fun _ _ => trivial) (newik_ne rfl)
   intro L vs w35 nb hL hC hn E35
   have e0 : vs 0 = .pointer (some ⟨b5, 0, none⟩) := hC 0 (by simp)
   have e1 : vs 1 = .pointer (some ⟨b5, 0, none⟩) := hC 1 (by simp)
   have e3 : vs 3 = .pointer (some ⟨b5, 0, none⟩) := hC 3 (by simp)
   have e4 : vs 4 = .pointer (some ⟨b5, 2, none⟩) := hC 4 (by simp)
   have e6 : vs 6 = .pointer (some ⟨b5, 4, none⟩) := hC 6 (by simp)
   have e7 : vs 7 = .pointer (some ⟨b5, 4, none⟩) := hC 7 (by simp)
   have e9 : vs 9 = .pointer (some ⟨b5, 4, none⟩) := hC 9 (by simp)
   have e10 : vs 10 = .pointer (some ⟨b5, 6, none⟩) := hC 10 (by simp)
   have E : Fr w [(b5, 8, Fq.st [.n ((x1 * y1) + (x2 * y3)), .n ((x1 * y2) + (x2 * y4)), .n ((x3 * y1) + (x4 * y3)), .n ((x3 * y2) + (x4 * y4))]), (b4_4, 8, Fq.st [.n x1, .n x2, .n x3, .n x4]), (b4_5, 8, Fq.st [.n y1, .n y2, .n y3, .n y4]), (b3, 8, Fq.st [.n ((x1 * y1) + (x2 * y3)), .n ((x1 * y2) + (x2 * y4)), .n ((x3 * y1) + (x4 * y3)), .n ((x3 * y2) + (x4 * y4))]), (b2, 8, Fq.st [.n y1, .n y2, .n y3, .n y4]), (b1, 8, Fq.st [.n x1, .n x2, .n x3, .n x4])] w35 := E35
   rw [lay_all hL]
   simp only [putAll, dstOf, List.length_cons, List.length_nil, Nat.zero_add, Nat.reduceAdd, List.getElem?_toArray, List.getElem?_cons_zero, List.getElem?_cons_succ, Option.bind_some, Act.put, List.setIfInBounds_toArray, List.set_cons_succ, List.set_cons_zero]
   rw [e0, e1, e3, e4, e6, e7, e9, e10]
   generalize vs 2 = u35_2
   generalize vs 5 = u35_5
   generalize vs 8 = u35_8
   generalize vs 11 = u35_11
   generalize vs 12 = u35_12
   clear e0 e1 e3 e4 e6 e7 e9 e10 hC hn E35 hL vs L nb
   obtain ⟨_, _, hc0, hf0⟩ := box_st (E.box 3 rfl)
   have hP0 := hf0
   obtain ⟨r0_p0, r0_q0, _, rfl, _r0_n0, r0_p1, r0_q1, _, rfl, _r0_n1, r0_p2, r0_q2, _, rfl, _r0_n2, r0_p3, r0_q3, _, rfl, _r0_n3, rfl⟩ := hf0
   have c0_0 := hc0 0 (by simp)
   have c0_1 := hc0 1 (by simp)
   have c0_2 := hc0 2 (by simp)
   have c0_3 := hc0 3 (by simp)
   have c0_4 := hc0 4 (by simp)
   have c0_5 := hc0 5 (by simp)
   have c0_6 := hc0 6 (by simp)
   have c0_7 := hc0 7 (by simp)
   simp only [List.getD_cons_zero, List.getD_cons_succ] at c0_0 c0_1 c0_2 c0_3 c0_4 c0_5 c0_6 c0_7
   clear hc0
   clear B6 B7 B8 B9 B10 B11 B12 B13 B14 B15 B16 B17 hx1 hx2 hx3 hx4 hy1 hy2 hy3 hy4
   go_wp2
   refine bodyPost_ret (v := .agg #[r0_p0, r0_q0, r0_p1, r0_q1, r0_p2, r0_q2, r0_p3, r0_q3]) ?_ rfl ⟨_, rfl, E.below, ⟨_, rfl, hP0⟩⟩
   simp [results, Try.results14, go_sem, c0_0, c0_1, c0_2, c0_3, c0_4, c0_5, c0_6, c0_7]

end Go.Proofs.Ytdhkhedhnolcjaa

namespace Go.Proofs.Ytdhkhedhnolcjaa
open Go Go.RowKit

theorem enq_ref_apply (args : Array Value) (w : World) : (callFunc 89 args).run Try.prog w = .ok (.enter 89 args) w := enter_of Try.func89 (by kernel_rfl) rfl args w
theorem enq_ref_narrow (args : Array Value) (w : World) : (callFunc 57 args).run Try.prog w = .ok (.enter 57 args) w := enter_of Try.func57 (by kernel_rfl) rfl args w
theorem enq_ref_swap (args : Array Value) (w : World) : (callFunc 59 args).run Try.prog w = .ok (.enter 59 args) w := enter_of Try.func59 (by kernel_rfl) rfl args w
theorem size_quadratic_reduction : sizeB 93 14 = true := by kernel_rfl
theorem fits0_quadratic_reduction (w : World) : Fits w [.n 0, .n 0, .n 0, .n 0, .n 0, .n 0, .n 0] [.bool false, .slice none 0 0, .bool false, .slice none 0 0, .bool false, .slice none 0 0, .bool false, .slice none 0 0, .bool false, .slice none 0 0, .bool false, .slice none 0 0, .bool false, .slice none 0 0] := ⟨_, _, _, rfl, Num.zero w, _, _, _, rfl, Num.zero w, _, _, _, rfl, Num.zero w, _, _, _, rfl, Num.zero w, _, _, _, rfl, Num.zero w, _, _, _, rfl, Num.zero w, _, _, _, rfl, Num.zero w, rfl⟩
theorem ralloc_quadratic_reduction {d : Option Tmp} {ty : TypeId} {ps : String} {af : Array Edge} (ρ : Operand → Value) (w : World) : (execOp ρ { dst := d, op := .alloc 93, type := ty, pos := ps, after := af, guard := none }).run Try.prog w = .ok (.value (.pointer (some ⟨w.heap.size, 0, none⟩))) (w.alloc (.cells [.bool false, .slice none 0 0, .bool false, .slice none 0 0, .bool false, .slice none 0 0, .bool false, .slice none 0 0, .bool false, .slice none 0 0, .bool false, .slice none 0 0, .bool false, .slice none 0 0].toArray 93)) := by
 simp [execOp, go_sem]
theorem bq_pre {w : World} {b : Nat} {x y z p q r s : Int} (h : Bq w b 14 (Fq.st [.n x, .n y, .n z, .n p, .n q, .n r, .n s])) : Bq w b 6 (Fq.st [.n x, .n y, .n z]) := by
 obtain ⟨us, hl, _, hat, ht, us', e, hfit⟩ := h
 obtain rfl : us = us' := agg_inj e
 have hf := hfit.first (k := 6) (gs := [.n x, .n y, .n z]) rfl
 refine ⟨us.take 6, by rw [List.length_take]; omega, by decide, fun j hj => ?_, fun u hu => ht u (List.mem_of_mem_take hu), us.take 6, rfl, hf⟩
 rw [List.length_take] at hj
 have := hat j (by omega)
 rw [List.getD_eq_getElem?_getD, List.getElem?_take_of_lt (by omega), ← List.getD_eq_getElem?_getD]
 exact this
def RB (S : RS) : Prop := (ab S.fa < pw 5 ∧ ab S.fb < pw 5 ∧ ab S.fc < pw 15) ∧ ab S.x1 < pw 30 ∧ ab S.x2 < pw 30 ∧ ab S.x3 < pw 30 ∧ ab S.x4 < pw 30
theorem rsh_a (S : RS) : qv S.fa S.fb S.fc 1 0 = (rsh S).fa := (Und.shift S.fa S.fb S.fc S.kk).ea.symm
theorem rsh_b (S : RS) : qm S.fa S.fb S.fc 1 ((S.fa - S.fb) / (2 * S.fa)) 0 1 = (rsh S).fb := (Und.shift S.fa S.fb S.fc S.kk).eb.symm
theorem rsh_c (S : RS) : qv S.fa S.fb S.fc ((S.fa - S.fb) / (2 * S.fa)) 1 = (rsh S).fc := (Und.shift S.fa S.fb S.fc S.kk).ec.symm
theorem rsw_a (S : RS) : qv S.fa S.fb S.fc 0 1 = (rsw S).fa := (Und.swap S.fa S.fb S.fc).ea.symm
theorem rsw_b (S : RS) : qm S.fa S.fb S.fc 0 (-1) 1 0 = (rsw S).fb := (Und.swap S.fa S.fb S.fc).eb.symm
theorem rsw_c (S : RS) : qv S.fa S.fb S.fc (-1) 0 = (rsw S).fc := (Und.swap S.fa S.fb S.fc).ec.symm
def PIn (a b c : Int) (P : RS) : Prop := ∃ S, RAt a b c S ∧ P = rsh S ∧ RIn a b c S.x1 S.x2 S.x3 S.x4 S.fa S.fb S.fc
theorem rsh_red {S : RS} (h0 : 0 < S.fa) (hr : S.red = true) : rsh S = S := by
 have h := (redB_iff h0).1 hr
 have hk : S.kk = 0 := by
  unfold RS.kk
  refine Int.ediv_eq_zero_of_lt ?_ ?_
  ·have := h.hi; omega
  ·have := h.lo; omega
 unfold rsh
 rw [hk]
 simp
theorem PIn.start {a b c : Int} (h0 : 0 < a) (hb : ab b < pw 5) (hc : ab c < pw 5) : PIn a b c (rsh ⟨1, 0, 0, 1, a, b, c⟩) := ⟨_, RAt.zero a b c, rfl, RIn.one h0 hb hc⟩
theorem PIn.red {a b c : Int} {P : RS} (h : PIn a b c P) (hr : P.red = true) : redEnd a b c = P := by
 obtain ⟨S, hA, rfl, hI⟩ := h
 cases hs : S.red with
 | true => rw [rsh_red hI.p hs]; exact redEnd_eq hA hs
 | false =>
  have h2 := hA.next hs
  unfold rstep at h2
  rw [if_pos hr] at h2
  exact redEnd_eq h2 hr
theorem PIn.at {a b c : Int} {P : RS} (h : PIn a b c P) (ha : ab a < pw 5) (hb : ab b < pw 5) (hc : ab c < pw 5) (hd : b * b - 4 * (a * c) < 0) : RB P ∧ 0 < P.fa ∧ RIn a b c P.x1 P.x2 P.x3 P.x4 P.fa P.fb P.fc ∧ -P.fa < P.fb ∧ P.fb ≤ P.fa := by
 obtain ⟨S, _, rfl, hI⟩ := h
 obtain ⟨h1, h2, h3⟩ := hI.shift ha hb hc hd (kk := S.kk) rfl rfl rfl
 exact ⟨h1.bds ha hc hd, h1.p, h1, h2, h3⟩
theorem PIn.next {a b c : Int} {P : RS} (h : PIn a b c P) (ha : ab a < pw 5) (hb : ab b < pw 5) (hc : ab c < pw 5) (hd : b * b - 4 * (a * c) < 0) (hr : P.red = false) : PIn a b c (rsh (rsw P)) ∧ RB (rsw P) ∧ 0 < (rsw P).fa ∧ 2 * (rsh (rsw P)).fa.natAbs + (if redB (rsh (rsw P)).fa (rsh (rsw P)).fb (rsh (rsw P)).fc = true then 0 else 1) < 2 * P.fa.natAbs + 1 := by
 obtain ⟨_, hp, hI, hm1, hm2⟩ := h.at ha hb hc hd
 obtain ⟨S, hA, rfl, hIS⟩ := h
 have hs : S.red = false := by
  cases hs : S.red with
  | false => rfl
  | true => rw [rsh_red hIS.p hs, hs] at hr; cases hr
 have h2 := hA.next hs
 unfold rstep at h2
 rw [if_neg (by rw [hr]; decide)] at h2
 have hsw := swap_less hp hm1 hm2 (fun e => by rw [show (rsh S).red = true from (redB_iff hp).2 e] at hr; cases hr)
 have hle : (rsh S).fc ≤ (rsh S).fa := by rcases hsw with h | h <;> omega
 have hI2 := RIn.swap (fa := (rsh S).fa) (fb := (rsh S).fb) (fc := (rsh S).fc) hI ha hc hd hle
 have hp2 : 0 < (rsw (rsh S)).fa := hI2.p
 refine ⟨⟨_, h2, rfl, hI2⟩, hI2.bds ha hc hd, hp2, ?_⟩
 have e : (rsh (rsw (rsh S))).fa = (rsh S).fc := rfl
 rcases hsw with hl | ⟨he, _, hrd⟩
 ·rw [e]
  have : (rsw (rsh S)).fa = (rsh S).fc := rfl
  split <;> omega
 ·have hr2 : (rsw (rsh S)).red = true := (redB_iff hp2).2 hrd
  have e2 : rsh (rsw (rsh S)) = rsw (rsh S) := rsh_red hp2 hr2
  rw [show redB (rsh (rsw (rsh S))).fa (rsh (rsw (rsh S))).fb (rsh (rsw (rsh S))).fc = true by rw [e2]; exact hr2, if_pos rfl, e, he]
  omega
theorem redE_zero {a b c : Int} (hd : b * b - 4 * (a * c) < 0) (h0 : 0 < a) : redE a b c = 0 := by
 unfold redE
 rw [if_neg (fun x => by omega), chkF_def hd (by omega)]
theorem redE_def {a b c : Int} (h : redE a b c = 0) : b * b - 4 * (a * c) < 0 ∧ 0 < a := by
 have h1 := redE_dfB a b c
 rw [h] at h1
 have h2 := of_decide_eq_true (h1.trans (decide_eq_true rfl))
 have h3 := first_ne h2.1
 omega
section
variable {os : List Oper} {Q : Exit → Act → World → Prop} {a : Act} {p : Pq} {B B0 : Nat} {w0 : World}
variable {i s : Nat} {d : Option Tmp} {ty : TypeId} {ps : String} {af : Array Edge} {gd : Option (Nat × Bool)}
theorem q_build_api_Mat_013 {x0 : Operand} {z0 : Int} {x1 : Operand} {z1 : Int} {x3 : Operand} {z3 : Int} (hp : p.Ok B B0) (hF : p.Free i) (hg : GdQ os a p B B0 w0 af gd) (h0 : SrcQ os a p B B0 w0 af x0 fun v w => Num w v z0) (h1 : SrcQ os a p B B0 w0 af x1 fun v w => Num w v z1) (h3 : SrcQ os a p B B0 w0 af x3 fun v w => Num w v z3) (hC : ∀ v w, (Fq.st [.n z0, .n z1, .n 0, .n z3]).P v w → (p.c i).P v w) :
  StepQ os Q a p B B0 w0 i { dst := d, op := .build 36 #[(0, x0), (1, x1), (3, x3)], type := ty, pos := ps, after := af, guard := gd } := by
 refine stq_val hp hF hg fun L vs w hG hL hc hd => ?_
 have g0 := h0 L vs w hG hd
 obtain ⟨n0, ao0, k0, c0, e0⟩ := g0.parts
 have m0 : Num w (.agg #[.bool n0, .slice ao0 k0 c0]) z0 := by rw [← e0]; exact g0
 have g1 := h1 L vs w hG hd
 obtain ⟨n1, ao1, k1, c1, e1⟩ := g1.parts
 have m1 : Num w (.agg #[.bool n1, .slice ao1 k1 c1]) z1 := by rw [← e1]; exact g1
 have g3 := h3 L vs w hG hd
 obtain ⟨n3, ao3, k3, c3, e3⟩ := g3.parts
 have m3 : Num w (.agg #[.bool n3, .slice ao3 k3 c3]) z3 := by rw [← e3]; exact g3
 refine ⟨.agg #[.bool n0, .slice ao0 k0 c0, .bool n1, .slice ao1 k1 c1, .bool false, .slice none 0 0, .bool n3, .slice ao3 k3 c3], ?_, hC _ _ ⟨_, rfl, _, _, _, rfl, m0, _, _, _, rfl, m1, _, _, _, rfl, Num.zero w, _, _, _, rfl, m3, rfl⟩⟩
 generalize (lay os.toArray L vs os.toArray.size a).eval = ρ at e0 e1 e3
 simp [execOp, go_sem, e0, e1, e3]
theorem q_build_api_Mat_03 {x0 : Operand} {z0 : Int} {x3 : Operand} {z3 : Int} (hp : p.Ok B B0) (hF : p.Free i) (hg : GdQ os a p B B0 w0 af gd) (h0 : SrcQ os a p B B0 w0 af x0 fun v w => Num w v z0) (h3 : SrcQ os a p B B0 w0 af x3 fun v w => Num w v z3) (hC : ∀ v w, (Fq.st [.n z0, .n 0, .n 0, .n z3]).P v w → (p.c i).P v w) :
  StepQ os Q a p B B0 w0 i { dst := d, op := .build 36 #[(0, x0), (3, x3)], type := ty, pos := ps, after := af, guard := gd } := by
 refine stq_val hp hF hg fun L vs w hG hL hc hd => ?_
 have g0 := h0 L vs w hG hd
 obtain ⟨n0, ao0, k0, c0, e0⟩ := g0.parts
 have m0 : Num w (.agg #[.bool n0, .slice ao0 k0 c0]) z0 := by rw [← e0]; exact g0
 have g3 := h3 L vs w hG hd
 obtain ⟨n3, ao3, k3, c3, e3⟩ := g3.parts
 have m3 : Num w (.agg #[.bool n3, .slice ao3 k3 c3]) z3 := by rw [← e3]; exact g3
 refine ⟨.agg #[.bool n0, .slice ao0 k0 c0, .bool false, .slice none 0 0, .bool false, .slice none 0 0, .bool n3, .slice ao3 k3 c3], ?_, hC _ _ ⟨_, rfl, _, _, _, rfl, m0, _, _, _, rfl, Num.zero w, _, _, _, rfl, Num.zero w, _, _, _, rfl, m3, rfl⟩⟩
 generalize (lay os.toArray L vs os.toArray.size a).eval = ρ at e0 e3
 simp [execOp, go_sem, e0, e3]
theorem q_build_api_Mat_12 {x1 : Operand} {z1 : Int} {x2 : Operand} {z2 : Int} (hp : p.Ok B B0) (hF : p.Free i) (hg : GdQ os a p B B0 w0 af gd) (h1 : SrcQ os a p B B0 w0 af x1 fun v w => Num w v z1) (h2 : SrcQ os a p B B0 w0 af x2 fun v w => Num w v z2) (hC : ∀ v w, (Fq.st [.n 0, .n z1, .n z2, .n 0]).P v w → (p.c i).P v w) :
  StepQ os Q a p B B0 w0 i { dst := d, op := .build 36 #[(1, x1), (2, x2)], type := ty, pos := ps, after := af, guard := gd } := by
 refine stq_val hp hF hg fun L vs w hG hL hc hd => ?_
 have g1 := h1 L vs w hG hd
 obtain ⟨n1, ao1, k1, c1, e1⟩ := g1.parts
 have m1 : Num w (.agg #[.bool n1, .slice ao1 k1 c1]) z1 := by rw [← e1]; exact g1
 have g2 := h2 L vs w hG hd
 obtain ⟨n2, ao2, k2, c2, e2⟩ := g2.parts
 have m2 : Num w (.agg #[.bool n2, .slice ao2 k2 c2]) z2 := by rw [← e2]; exact g2
 refine ⟨.agg #[.bool false, .slice none 0 0, .bool n1, .slice ao1 k1 c1, .bool n2, .slice ao2 k2 c2, .bool false, .slice none 0 0], ?_, hC _ _ ⟨_, rfl, _, _, _, rfl, Num.zero w, _, _, _, rfl, m1, _, _, _, rfl, m2, _, _, _, rfl, Num.zero w, rfl⟩⟩
 generalize (lay os.toArray L vs os.toArray.size a).eval = ρ at e1 e2
 simp [execOp, go_sem, e1, e2]
theorem q_build_quadratic_reduction_01 {x0 : Operand} {z0_0 : Int} {z0_1 : Int} {z0_2 : Int} {x1 : Operand} {z1_0 : Int} {z1_1 : Int} {z1_2 : Int} {z1_3 : Int} (hp : p.Ok B B0) (hF : p.Free i) (hg : GdQ os a p B B0 w0 af gd) (h0 : SrcQ os a p B B0 w0 af x0 (Fq.st [.n z0_0, .n z0_1, .n z0_2]).P) (h1 : SrcQ os a p B B0 w0 af x1 (Fq.st [.n z1_0, .n z1_1, .n z1_2, .n z1_3]).P) (hC : ∀ v w, (Fq.st [.n z0_0, .n z0_1, .n z0_2, .n z1_0, .n z1_1, .n z1_2, .n z1_3]).P v w → (p.c i).P v w) :
  StepQ os Q a p B B0 w0 i { dst := d, op := .build 93 #[(0, x0), (1, x1)], type := ty, pos := ps, after := af, guard := gd } := by
 refine stq_val hp hF hg fun L vs w hG hL hc hd => ?_
 have g0 := h0 L vs w hG hd
 obtain ⟨_, e0, _, _, _, rfl, a0_n0, _, _, _, rfl, a0_n1, _, _, _, rfl, a0_n2, rfl⟩ := g0
 obtain ⟨n0_0, ao0_0, k0_0, c0_0, e0_0⟩ := a0_n0.parts
 have m0_0 := a0_n0
 rw [e0_0] at m0_0
 obtain ⟨n0_1, ao0_1, k0_1, c0_1, e0_1⟩ := a0_n1.parts
 have m0_1 := a0_n1
 rw [e0_1] at m0_1
 obtain ⟨n0_2, ao0_2, k0_2, c0_2, e0_2⟩ := a0_n2.parts
 have m0_2 := a0_n2
 rw [e0_2] at m0_2
 injection e0_0 with f0_0
 have f0_0 := congrArg Array.toList f0_0
 simp at f0_0
 obtain ⟨rfl, rfl⟩ := f0_0
 injection e0_1 with f0_1
 have f0_1 := congrArg Array.toList f0_1
 simp at f0_1
 obtain ⟨rfl, rfl⟩ := f0_1
 injection e0_2 with f0_2
 have f0_2 := congrArg Array.toList f0_2
 simp at f0_2
 obtain ⟨rfl, rfl⟩ := f0_2
 have g1 := h1 L vs w hG hd
 obtain ⟨_, e1, _, _, _, rfl, a1_n0, _, _, _, rfl, a1_n1, _, _, _, rfl, a1_n2, _, _, _, rfl, a1_n3, rfl⟩ := g1
 obtain ⟨n1_0, ao1_0, k1_0, c1_0, e1_0⟩ := a1_n0.parts
 have m1_0 := a1_n0
 rw [e1_0] at m1_0
 obtain ⟨n1_1, ao1_1, k1_1, c1_1, e1_1⟩ := a1_n1.parts
 have m1_1 := a1_n1
 rw [e1_1] at m1_1
 obtain ⟨n1_2, ao1_2, k1_2, c1_2, e1_2⟩ := a1_n2.parts
 have m1_2 := a1_n2
 rw [e1_2] at m1_2
 obtain ⟨n1_3, ao1_3, k1_3, c1_3, e1_3⟩ := a1_n3.parts
 have m1_3 := a1_n3
 rw [e1_3] at m1_3
 injection e1_0 with f1_0
 have f1_0 := congrArg Array.toList f1_0
 simp at f1_0
 obtain ⟨rfl, rfl⟩ := f1_0
 injection e1_1 with f1_1
 have f1_1 := congrArg Array.toList f1_1
 simp at f1_1
 obtain ⟨rfl, rfl⟩ := f1_1
 injection e1_2 with f1_2
 have f1_2 := congrArg Array.toList f1_2
 simp at f1_2
 obtain ⟨rfl, rfl⟩ := f1_2
 injection e1_3 with f1_3
 have f1_3 := congrArg Array.toList f1_3
 simp at f1_3
 obtain ⟨rfl, rfl⟩ := f1_3
 refine ⟨.agg #[.bool n0_0, .slice ao0_0 k0_0 c0_0, .bool n0_1, .slice ao0_1 k0_1 c0_1, .bool n0_2, .slice ao0_2 k0_2 c0_2, .bool n1_0, .slice ao1_0 k1_0 c1_0, .bool n1_1, .slice ao1_1 k1_1 c1_1, .bool n1_2, .slice ao1_2 k1_2 c1_2, .bool n1_3, .slice ao1_3 k1_3 c1_3], ?_, hC _ _ ⟨_, rfl, _, _, _, rfl, m0_0, _, _, _, rfl, m0_1, _, _, _, rfl, m0_2, _, _, _, rfl, m1_0, _, _, _, rfl, m1_1, _, _, _, rfl, m1_2, _, _, _, rfl, m1_3, rfl⟩⟩
 generalize (lay os.toArray L vs os.toArray.size a).eval = ρ at e0 e1
 simp [execOp, go_sem, e0, e1]
end
set_option maxRecDepth 100000 in
set_option maxHeartbeats 4000000 in
theorem exPApplyR0 {wb w : World} {v : Value} {b : Nat} {bo1 mo1 bo2 mo2 bo3 mo3 : Nat} {Fo1 Fo2 Fo3 : Fq} {fa fb fc x1 x2 x3 x4 y1 y2 y3 y4 : Int} (E : Fr wb [(b, 14, Fq.st [.n fa, .n fb, .n fc, .n x1, .n x2, .n x3, .n x4]), (bo1, mo1, Fo1), (bo2, mo2, Fo2), (bo3, mo3, Fo3)] w) (h : (Fq.st [.n y1, .n y2, .n y3, .n y4]).P v w) (hS : ab fa < pw 60 ∧ ab fb < pw 60 ∧ ab fc < pw 60 ∧ ab x1 < pw 60 ∧ ab x2 < pw 60 ∧ ab x3 < pw 60 ∧ ab x4 < pw 60) (hY : ab y1 < pw 60 ∧ ab y2 < pw 60 ∧ ab y3 < pw 60 ∧ ab y4 < pw 60) :
  Calls Try.prog 89 #[.pointer (some ⟨b, 0, none⟩), v] w fun e w' => ∃ v', e = .returned v' ∧ Fr wb [(b, 14, Fq.st [.n (qv fa fb fc y1 y3), .n (qm fa fb fc y1 y2 y3 y4), .n (qv fa fb fc y2 y4), .n ((x1 * y1) + (x2 * y3)), .n ((x1 * y2) + (x2 * y4)), .n ((x3 * y1) + (x4 * y3)), .n ((x3 * y2) + (x4 * y4))]), (bo1, mo1, Fo1), (bo2, mo2, Fo2), (bo3, mo3, Fo3)] w' := by
 replace hS := hidd hS
 replace hY := hidd hY
 obtain ⟨k0, hs0⟩ : ∃ k, w.heap.size = k := ⟨_, rfl⟩
 obtain ⟨_, rfl, hf1⟩ := h
 have hF1 := hf1
 obtain ⟨y1_p0, y1_q0, _, rfl, _y1_n0, y1_p1, y1_q1, _, rfl, _y1_n1, y1_p2, y1_q2, _, rfl, _y1_n2, y1_p3, y1_q3, _, rfl, _y1_n3, rfl⟩ := hf1
 obtain ⟨w1, b1, hw1, hb1, hs1, E⟩ := fr_more E hs0 (F := Fq.st [.n y1, .n y2, .n y3, .n y4]) (us := [y1_p0, y1_q0, y1_p1, y1_q1, y1_p2, y1_q2, y1_p3, y1_q3]) 36 rfl (by simp) hF1.tame (show (Fq.st [.n y1, .n y2, .n y3, .n y4]).P _ w from ⟨_, rfl, hF1⟩)
 go_enter Try.func89, Try.ntmps89
 go_upto_region 1 with (fail)
 rw [← hw1]
 rw [← hb1]
 clear hw1 hb1 hs1 hs0
 refine region_fr (C := [Fq.is (.pointer (some ⟨b, 0, none⟩)), Fq.is (.pointer (some ⟨b, 0, none⟩)), Fq.is (.pointer (some ⟨b, 0, none⟩)), Fq.is (.pointer (some ⟨b, 0, none⟩)), Fq.st [.n fa, .n fb, .n fc], Fq.st [.n y1, .n y2, .n y3, .n y4], Fq.st [.n (qv fa fb fc y1 y3), .n (qm fa fb fc y1 y2 y3 y4), .n (qv fa fb fc y2 y4)], Fq.is (.pointer (some ⟨b, 0, none⟩)), Fq.is (.pointer (some ⟨b, 0, none⟩)), Fq.any]) (ks := [none, some (9, Fq.st [.n (qv fa fb fc y1 y3), .n (qm fa fb fc y1 y2 y3 y4), .n (qv fa fb fc y2 y4), .n x1, .n x2, .n x3, .n x4]), none, none, none]) (new := []) E rfl (by kernel_rfl) rfl rfl (fun hp => ⟨?_, ?_, ?_, ?_, ?_, ?_, ?_, ?_, ?_, ?_, trivial⟩) ?_
 ·exact q_move hp (free_of rfl) trivial (sqo 0)
 ·exact q_move hp (free_of rfl) trivial (sqo 0)
 ·exact q_one (F := fun v _ => v = .pointer (some ⟨b, 0, none⟩)) hp (free_of rfl) trivial (sqi 1) (fun ρ w hc h => ⟨.pointer (some ⟨b, 0, none⟩), by simp [execOp, go_sem, h], rfl⟩)
 ·exact q_addr (b := b) (off := 0) (off' := 0) hp (free_of rfl) trivial (sqi 2) (fun ρ w h => by simp [execOp, go_sem, h]) (fun _ => rfl)
 ·exact q_loadSt (off := 0) (l := 6) (fs := [.n fa, .n fb, .n fc, .n x1, .n x2, .n x3, .n x4]) (gs := [.n fa, .n fb, .n fc]) hp (free_of rfl) trivial (mq 1 rfl) (.inr rfl) rfl row_api_Form rfl (sqi 3) (fun v w h => h)
 ·exact q_loadSt (off := 0) (l := 8) (fs := [.n y1, .n y2, .n y3, .n y4]) (gs := [.n y1, .n y2, .n y3, .n y4]) hp (free_of rfl) trivial (mq 0 rfl) (.inl rfl) rfl row_api_Mat rfl (sqo 3) (fun v w h => h)
 ·exact q_call2 (F := (Fq.st [.n fa, .n fb, .n fc]).P) (G := (Fq.st [.n y1, .n y2, .n y3, .n y4]).P) hp (free_of rfl) trivial (enq_f_algorist_quadratic_Apply) (sqi 4) (sqi 5) (fun v v' w h h' => exPApply h h' (Int.lt_of_lt_of_le hS.out.1 (pw_le (by omega))) (Int.lt_of_lt_of_le hS.out.2.1 (pw_le (by omega))) (Int.lt_of_lt_of_le hS.out.2.2.1 (pw_le (by omega))) (Int.lt_of_lt_of_le hY.out.1 (pw_le (by omega))) (Int.lt_of_lt_of_le hY.out.2.1 (pw_le (by omega))) (Int.lt_of_lt_of_le hY.out.2.2.1 (pw_le (by omega))) (Int.lt_of_lt_of_le hY.out.2.2.2 (pw_le (by omega))))
 ·exact q_one (F := fun v _ => v = .pointer (some ⟨b, 0, none⟩)) hp (free_of rfl) trivial (sqi 0) (fun ρ w hc h => ⟨.pointer (some ⟨b, 0, none⟩), by simp [execOp, go_sem, h], rfl⟩)
 ·exact q_addr (b := b) (off := 0) (off' := 0) hp (free_of rfl) trivial (sqi 7) (fun ρ w h => by simp [execOp, go_sem, h]) (fun _ => rfl)
 ·exact q_storeOldSt (off := 0) (fs := [.n fa, .n fb, .n fc, .n x1, .n x2, .n x3, .n x4]) (gs := [.n (qv fa fb fc y1 y3), .n (qm fa fb fc y1 y2 y3 y4), .n (qv fa fb fc y2 y4)]) (fs' := [.n (qv fa fb fc y1 y3), .n (qm fa fb fc y1 y2 y3 y4), .n (qv fa fb fc y2 y4), .n x1, .n x2, .n x3, .n x4]) hp (mq 1 rfl) rfl rfl rfl size_api_Form rfl (sqi 8) (sq_in 6 rfl rfl (by simp) rfl (fun v w h => fitv_st h)) (fun _ _ => trivial) (newik_ne rfl)
 intro L vs w2 nb hL hC hn E2
 have e0 : vs 0 = .pointer (some ⟨b, 0, none⟩) := hC 0 (by simp)
 have e1 : vs 1 = .pointer (some ⟨b, 0, none⟩) := hC 1 (by simp)
 have e2 : vs 2 = .pointer (some ⟨b, 0, none⟩) := hC 2 (by simp)
 have e3 : vs 3 = .pointer (some ⟨b, 0, none⟩) := hC 3 (by simp)
 have e7 : vs 7 = .pointer (some ⟨b, 0, none⟩) := hC 7 (by simp)
 have e8 : vs 8 = .pointer (some ⟨b, 0, none⟩) := hC 8 (by simp)
 have E : Fr wb [(b1, 8, Fq.st [.n y1, .n y2, .n y3, .n y4]), (b, 14, Fq.st [.n (qv fa fb fc y1 y3), .n (qm fa fb fc y1 y2 y3 y4), .n (qv fa fb fc y2 y4), .n x1, .n x2, .n x3, .n x4]), (bo1, mo1, Fo1), (bo2, mo2, Fo2), (bo3, mo3, Fo3)] w2 := E2
 rw [lay_all hL]
 simp only [putAll, dstOf, List.length_cons, List.length_nil, Nat.zero_add, Nat.reduceAdd, List.getElem?_toArray, List.getElem?_cons_zero, List.getElem?_cons_succ, Option.bind_some, Act.put, List.setIfInBounds_toArray, List.set_cons_succ, List.set_cons_zero]
 rw [e0, e1, e2, e3, e7, e8]
 generalize vs 4 = u2_4
 generalize vs 5 = u2_5
 generalize vs 6 = u2_6
 clear e0 e1 e2 e3 e7 e8 hC hn E2 hL vs L nb
 go_upto_region 2 with (fail)
 refine region_fr (C := [Fq.is (.pointer (some ⟨b, 0, none⟩)), Fq.is (.pointer (some ⟨b, 0, none⟩)), Fq.is (.pointer (some ⟨b, 0, none⟩)), Fq.is (.pointer (some ⟨b, 6, none⟩)), Fq.st [.n x1, .n x2, .n x3, .n x4], Fq.st [.n y1, .n y2, .n y3, .n y4], Fq.st [.n ((x1 * y1) + (x2 * y3)), .n ((x1 * y2) + (x2 * y4)), .n ((x3 * y1) + (x4 * y3)), .n ((x3 * y2) + (x4 * y4))], Fq.is (.pointer (some ⟨b, 0, none⟩)), Fq.is (.pointer (some ⟨b, 6, none⟩)), Fq.any]) (ks := [none, some (9, Fq.st [.n (qv fa fb fc y1 y3), .n (qm fa fb fc y1 y2 y3 y4), .n (qv fa fb fc y2 y4), .n ((x1 * y1) + (x2 * y3)), .n ((x1 * y2) + (x2 * y4)), .n ((x3 * y1) + (x4 * y3)), .n ((x3 * y2) + (x4 * y4))]), none, none, none]) (new := []) E rfl (by kernel_rfl) rfl rfl (fun hp => ⟨?_, ?_, ?_, ?_, ?_, ?_, ?_, ?_, ?_, ?_, trivial⟩) ?_
 ·exact q_move hp (free_of rfl) trivial (sqo 0)
 ·exact q_move hp (free_of rfl) trivial (sqo 0)
 ·exact q_one (F := fun v _ => v = .pointer (some ⟨b, 0, none⟩)) hp (free_of rfl) trivial (sqi 1) (fun ρ w hc h => ⟨.pointer (some ⟨b, 0, none⟩), by simp [execOp, go_sem, h], rfl⟩)
 ·exact q_addr (b := b) (off := 0) (off' := 6) hp (free_of rfl) trivial (sqi 2) (fun ρ w h => by simp [execOp, go_sem, h]) (fun _ => rfl)
 ·exact q_loadSt (off := 6) (l := 8) (fs := [.n (qv fa fb fc y1 y3), .n (qm fa fb fc y1 y2 y3 y4), .n (qv fa fb fc y2 y4), .n x1, .n x2, .n x3, .n x4]) (gs := [.n x1, .n x2, .n x3, .n x4]) hp (free_of rfl) trivial (mq 1 rfl) (.inr rfl) rfl row_api_Mat rfl (sqi 3) (fun v w h => h)
 ·exact q_loadSt (off := 0) (l := 8) (fs := [.n y1, .n y2, .n y3, .n y4]) (gs := [.n y1, .n y2, .n y3, .n y4]) hp (free_of rfl) trivial (mq 0 rfl) (.inl rfl) rfl row_api_Mat rfl (sqo 3) (fun v w h => h)
 ·exact q_call2 (F := (Fq.st [.n x1, .n x2, .n x3, .n x4]).P) (G := (Fq.st [.n y1, .n y2, .n y3, .n y4]).P) hp (free_of rfl) trivial (enq_f_algorist_quadratic_Times) (sqi 4) (sqi 5) (fun v v' w h h' => exPTimes h h' (Int.lt_of_lt_of_le hS.out.2.2.2.1 (pw_le (by omega))) (Int.lt_of_lt_of_le hS.out.2.2.2.2.1 (pw_le (by omega))) (Int.lt_of_lt_of_le hS.out.2.2.2.2.2.1 (pw_le (by omega))) (Int.lt_of_lt_of_le hS.out.2.2.2.2.2.2 (pw_le (by omega))) (Int.lt_of_lt_of_le hY.out.1 (pw_le (by omega))) (Int.lt_of_lt_of_le hY.out.2.1 (pw_le (by omega))) (Int.lt_of_lt_of_le hY.out.2.2.1 (pw_le (by omega))) (Int.lt_of_lt_of_le hY.out.2.2.2 (pw_le (by omega))))
 ·exact q_one (F := fun v _ => v = .pointer (some ⟨b, 0, none⟩)) hp (free_of rfl) trivial (sqi 0) (fun ρ w hc h => ⟨.pointer (some ⟨b, 0, none⟩), by simp [execOp, go_sem, h], rfl⟩)
 ·exact q_addr (b := b) (off := 0) (off' := 6) hp (free_of rfl) trivial (sqi 7) (fun ρ w h => by simp [execOp, go_sem, h]) (fun _ => rfl)
 ·exact q_storeOldSt (off := 6) (fs := [.n (qv fa fb fc y1 y3), .n (qm fa fb fc y1 y2 y3 y4), .n (qv fa fb fc y2 y4), .n x1, .n x2, .n x3, .n x4]) (gs := [.n ((x1 * y1) + (x2 * y3)), .n ((x1 * y2) + (x2 * y4)), .n ((x3 * y1) + (x4 * y3)), .n ((x3 * y2) + (x4 * y4))]) (fs' := [.n (qv fa fb fc y1 y3), .n (qm fa fb fc y1 y2 y3 y4), .n (qv fa fb fc y2 y4), .n ((x1 * y1) + (x2 * y3)), .n ((x1 * y2) + (x2 * y4)), .n ((x3 * y1) + (x4 * y3)), .n ((x3 * y2) + (x4 * y4))]) hp (mq 1 rfl) rfl rfl rfl size_api_Mat rfl (sqi 8) (sq_in 6 rfl rfl (by simp) rfl (fun v w h => fitv_st h)) (fun _ _ => trivial) (newik_ne rfl)
 intro L vs w3 nb hL hC hn E3
 have e0 : vs 0 = .pointer (some ⟨b, 0, none⟩) := hC 0 (by simp)
 have e1 : vs 1 = .pointer (some ⟨b, 0, none⟩) := hC 1 (by simp)
 have e2 : vs 2 = .pointer (some ⟨b, 0, none⟩) := hC 2 (by simp)
 have e3 : vs 3 = .pointer (some ⟨b, 6, none⟩) := hC 3 (by simp)
 have e7 : vs 7 = .pointer (some ⟨b, 0, none⟩) := hC 7 (by simp)
 have e8 : vs 8 = .pointer (some ⟨b, 6, none⟩) := hC 8 (by simp)
 have E : Fr wb [(b1, 8, Fq.st [.n y1, .n y2, .n y3, .n y4]), (b, 14, Fq.st [.n (qv fa fb fc y1 y3), .n (qm fa fb fc y1 y2 y3 y4), .n (qv fa fb fc y2 y4), .n ((x1 * y1) + (x2 * y3)), .n ((x1 * y2) + (x2 * y4)), .n ((x3 * y1) + (x4 * y3)), .n ((x3 * y2) + (x4 * y4))]), (bo1, mo1, Fo1), (bo2, mo2, Fo2), (bo3, mo3, Fo3)] w3 := E3
 rw [lay_all hL]
 simp only [putAll, dstOf, List.length_cons, List.length_nil, Nat.zero_add, Nat.reduceAdd, List.getElem?_toArray, List.getElem?_cons_zero, List.getElem?_cons_succ, Option.bind_some, Act.put, List.setIfInBounds_toArray, List.set_cons_succ, List.set_cons_zero]
 rw [e0, e1, e2, e3, e7, e8]
 generalize vs 4 = u3_4
 generalize vs 5 = u3_5
 generalize vs 6 = u3_6
 clear e0 e1 e2 e3 e7 e8 hC hn E3 hL vs L nb
 clear hS hY
 exact bodyPost_end (results_none rfl _ _ _) rfl ⟨_, rfl, E.drop⟩

set_option maxRecDepth 100000 in
set_option maxHeartbeats 4000000 in
theorem exPApplyR2 {wb w : World} {v : Value} {b : Nat} {p1 q1 : Nat} {P1 : Fq} {p2 q2 : Nat} {P2 : Fq} {bo1 mo1 bo2 mo2 bo3 mo3 : Nat} {Fo1 Fo2 Fo3 : Fq} {fa fb fc x1 x2 x3 x4 y1 y2 y3 y4 : Int} (E : Fr wb [(p1, q1, P1), (p2, q2, P2), (b, 14, Fq.st [.n fa, .n fb, .n fc, .n x1, .n x2, .n x3, .n x4]), (bo1, mo1, Fo1), (bo2, mo2, Fo2), (bo3, mo3, Fo3)] w) (h : (Fq.st [.n y1, .n y2, .n y3, .n y4]).P v w) (hS : ab fa < pw 60 ∧ ab fb < pw 60 ∧ ab fc < pw 60 ∧ ab x1 < pw 60 ∧ ab x2 < pw 60 ∧ ab x3 < pw 60 ∧ ab x4 < pw 60) (hY : ab y1 < pw 60 ∧ ab y2 < pw 60 ∧ ab y3 < pw 60 ∧ ab y4 < pw 60) :
  Calls Try.prog 89 #[.pointer (some ⟨b, 0, none⟩), v] w fun e w' => ∃ v', e = .returned v' ∧ Fr wb [(p1, q1, P1), (p2, q2, P2), (b, 14, Fq.st [.n (qv fa fb fc y1 y3), .n (qm fa fb fc y1 y2 y3 y4), .n (qv fa fb fc y2 y4), .n ((x1 * y1) + (x2 * y3)), .n ((x1 * y2) + (x2 * y4)), .n ((x3 * y1) + (x4 * y3)), .n ((x3 * y2) + (x4 * y4))]), (bo1, mo1, Fo1), (bo2, mo2, Fo2), (bo3, mo3, Fo3)] w' := by
 replace hS := hidd hS
 replace hY := hidd hY
 obtain ⟨k0, hs0⟩ : ∃ k, w.heap.size = k := ⟨_, rfl⟩
 obtain ⟨_, rfl, hf1⟩ := h
 have hF1 := hf1
 obtain ⟨y1_p0, y1_q0, _, rfl, _y1_n0, y1_p1, y1_q1, _, rfl, _y1_n1, y1_p2, y1_q2, _, rfl, _y1_n2, y1_p3, y1_q3, _, rfl, _y1_n3, rfl⟩ := hf1
 obtain ⟨w1, b1, hw1, hb1, hs1, E⟩ := fr_more E hs0 (F := Fq.st [.n y1, .n y2, .n y3, .n y4]) (us := [y1_p0, y1_q0, y1_p1, y1_q1, y1_p2, y1_q2, y1_p3, y1_q3]) 36 rfl (by simp) hF1.tame (show (Fq.st [.n y1, .n y2, .n y3, .n y4]).P _ w from ⟨_, rfl, hF1⟩)
 go_enter Try.func89, Try.ntmps89
 go_upto_region 1 with (fail)
 rw [← hw1]
 rw [← hb1]
 clear hw1 hb1 hs1 hs0
 refine region_fr (C := [Fq.is (.pointer (some ⟨b, 0, none⟩)), Fq.is (.pointer (some ⟨b, 0, none⟩)), Fq.is (.pointer (some ⟨b, 0, none⟩)), Fq.is (.pointer (some ⟨b, 0, none⟩)), Fq.st [.n fa, .n fb, .n fc], Fq.st [.n y1, .n y2, .n y3, .n y4], Fq.st [.n (qv fa fb fc y1 y3), .n (qm fa fb fc y1 y2 y3 y4), .n (qv fa fb fc y2 y4)], Fq.is (.pointer (some ⟨b, 0, none⟩)), Fq.is (.pointer (some ⟨b, 0, none⟩)), Fq.any]) (ks := [none, none, none, some (9, Fq.st [.n (qv fa fb fc y1 y3), .n (qm fa fb fc y1 y2 y3 y4), .n (qv fa fb fc y2 y4), .n x1, .n x2, .n x3, .n x4]), none, none, none]) (new := []) E rfl (by kernel_rfl) rfl rfl (fun hp => ⟨?_, ?_, ?_, ?_, ?_, ?_, ?_, ?_, ?_, ?_, trivial⟩) ?_
 ·exact q_move hp (free_of rfl) trivial (sqo 0)
 ·exact q_move hp (free_of rfl) trivial (sqo 0)
 ·exact q_one (F := fun v _ => v = .pointer (some ⟨b, 0, none⟩)) hp (free_of rfl) trivial (sqi 1) (fun ρ w hc h => ⟨.pointer (some ⟨b, 0, none⟩), by simp [execOp, go_sem, h], rfl⟩)
 ·exact q_addr (b := b) (off := 0) (off' := 0) hp (free_of rfl) trivial (sqi 2) (fun ρ w h => by simp [execOp, go_sem, h]) (fun _ => rfl)
 ·exact q_loadSt (off := 0) (l := 6) (fs := [.n fa, .n fb, .n fc, .n x1, .n x2, .n x3, .n x4]) (gs := [.n fa, .n fb, .n fc]) hp (free_of rfl) trivial (mq 3 rfl) (.inr rfl) rfl row_api_Form rfl (sqi 3) (fun v w h => h)
 ·exact q_loadSt (off := 0) (l := 8) (fs := [.n y1, .n y2, .n y3, .n y4]) (gs := [.n y1, .n y2, .n y3, .n y4]) hp (free_of rfl) trivial (mq 0 rfl) (.inl rfl) rfl row_api_Mat rfl (sqo 3) (fun v w h => h)
 ·exact q_call2 (F := (Fq.st [.n fa, .n fb, .n fc]).P) (G := (Fq.st [.n y1, .n y2, .n y3, .n y4]).P) hp (free_of rfl) trivial (enq_f_algorist_quadratic_Apply) (sqi 4) (sqi 5) (fun v v' w h h' => exPApply h h' (Int.lt_of_lt_of_le hS.out.1 (pw_le (by omega))) (Int.lt_of_lt_of_le hS.out.2.1 (pw_le (by omega))) (Int.lt_of_lt_of_le hS.out.2.2.1 (pw_le (by omega))) (Int.lt_of_lt_of_le hY.out.1 (pw_le (by omega))) (Int.lt_of_lt_of_le hY.out.2.1 (pw_le (by omega))) (Int.lt_of_lt_of_le hY.out.2.2.1 (pw_le (by omega))) (Int.lt_of_lt_of_le hY.out.2.2.2 (pw_le (by omega))))
 ·exact q_one (F := fun v _ => v = .pointer (some ⟨b, 0, none⟩)) hp (free_of rfl) trivial (sqi 0) (fun ρ w hc h => ⟨.pointer (some ⟨b, 0, none⟩), by simp [execOp, go_sem, h], rfl⟩)
 ·exact q_addr (b := b) (off := 0) (off' := 0) hp (free_of rfl) trivial (sqi 7) (fun ρ w h => by simp [execOp, go_sem, h]) (fun _ => rfl)
 ·exact q_storeOldSt (off := 0) (fs := [.n fa, .n fb, .n fc, .n x1, .n x2, .n x3, .n x4]) (gs := [.n (qv fa fb fc y1 y3), .n (qm fa fb fc y1 y2 y3 y4), .n (qv fa fb fc y2 y4)]) (fs' := [.n (qv fa fb fc y1 y3), .n (qm fa fb fc y1 y2 y3 y4), .n (qv fa fb fc y2 y4), .n x1, .n x2, .n x3, .n x4]) hp (mq 3 rfl) rfl rfl rfl size_api_Form rfl (sqi 8) (sq_in 6 rfl rfl (by simp) rfl (fun v w h => fitv_st h)) (fun _ _ => trivial) (newik_ne rfl)
 intro L vs w2 nb hL hC hn E2
 have e0 : vs 0 = .pointer (some ⟨b, 0, none⟩) := hC 0 (by simp)
 have e1 : vs 1 = .pointer (some ⟨b, 0, none⟩) := hC 1 (by simp)
 have e2 : vs 2 = .pointer (some ⟨b, 0, none⟩) := hC 2 (by simp)
 have e3 : vs 3 = .pointer (some ⟨b, 0, none⟩) := hC 3 (by simp)
 have e7 : vs 7 = .pointer (some ⟨b, 0, none⟩) := hC 7 (by simp)
 have e8 : vs 8 = .pointer (some ⟨b, 0, none⟩) := hC 8 (by simp)
 have E : Fr wb [(b1, 8, Fq.st [.n y1, .n y2, .n y3, .n y4]), (p1, q1, P1), (p2, q2, P2), (b, 14, Fq.st [.n (qv fa fb fc y1 y3), .n (qm fa fb fc y1 y2 y3 y4), .n (qv fa fb fc y2 y4), .n x1, .n x2, .n x3, .n x4]), (bo1, mo1, Fo1), (bo2, mo2, Fo2), (bo3, mo3, Fo3)] w2 := E2
 rw [lay_all hL]
 simp only [putAll, dstOf, List.length_cons, List.length_nil, Nat.zero_add, Nat.reduceAdd, List.getElem?_toArray, List.getElem?_cons_zero, List.getElem?_cons_succ, Option.bind_some, Act.put, List.setIfInBounds_toArray, List.set_cons_succ, List.set_cons_zero]
 rw [e0, e1, e2, e3, e7, e8]
 generalize vs 4 = u2_4
 generalize vs 5 = u2_5
 generalize vs 6 = u2_6
 clear e0 e1 e2 e3 e7 e8 hC hn E2 hL vs L nb
 go_upto_region 2 with (fail)
 refine region_fr (C := [Fq.is (.pointer (some ⟨b, 0, none⟩)), Fq.is (.pointer (some ⟨b, 0, none⟩)), Fq.is (.pointer (some ⟨b, 0, none⟩)), Fq.is (.pointer (some ⟨b, 6, none⟩)), Fq.st [.n x1, .n x2, .n x3, .n x4], Fq.st [.n y1, .n y2, .n y3, .n y4], Fq.st [.n ((x1 * y1) + (x2 * y3)), .n ((x1 * y2) + (x2 * y4)), .n ((x3 * y1) + (x4 * y3)), .n ((x3 * y2) + (x4 * y4))], Fq.is (.pointer (some ⟨b, 0, none⟩)), Fq.is (.pointer (some ⟨b, 6, none⟩)), Fq.any]) (ks := [none, none, none, some (9, Fq.st [.n (qv fa fb fc y1 y3), .n (qm fa fb fc y1 y2 y3 y4), .n (qv fa fb fc y2 y4), .n ((x1 * y1) + (x2 * y3)), .n ((x1 * y2) + (x2 * y4)), .n ((x3 * y1) + (x4 * y3)), .n ((x3 * y2) + (x4 * y4))]), none, none, none]) (new := []) E rfl (by kernel_rfl) rfl rfl (fun hp => ⟨?_, ?_, ?_, ?_, ?_, ?_, ?_, ?_, ?_, ?_, trivial⟩) ?_
 ·exact q_move hp (free_of rfl) trivial (sqo 0)
 ·exact q_move hp (free_of rfl) trivial (sqo 0)
 ·exact q_one (F := fun v _ => v = .pointer (some ⟨b, 0, none⟩)) hp (free_of rfl) trivial (sqi 1) (fun ρ w hc h => ⟨.pointer (some ⟨b, 0, none⟩), by simp [execOp, go_sem, h], rfl⟩)
 ·exact q_addr (b := b) (off := 0) (off' := 6) hp (free_of rfl) trivial (sqi 2) (fun ρ w h => by simp [execOp, go_sem, h]) (fun _ => rfl)
 ·exact q_loadSt (off := 6) (l := 8) (fs := [.n (qv fa fb fc y1 y3), .n (qm fa fb fc y1 y2 y3 y4), .n (qv fa fb fc y2 y4), .n x1, .n x2, .n x3, .n x4]) (gs := [.n x1, .n x2, .n x3, .n x4]) hp (free_of rfl) trivial (mq 3 rfl) (.inr rfl) rfl row_api_Mat rfl (sqi 3) (fun v w h => h)
 ·exact q_loadSt (off := 0) (l := 8) (fs := [.n y1, .n y2, .n y3, .n y4]) (gs := [.n y1, .n y2, .n y3, .n y4]) hp (free_of rfl) trivial (mq 0 rfl) (.inl rfl) rfl row_api_Mat rfl (sqo 3) (fun v w h => h)
 ·exact q_call2 (F := (Fq.st [.n x1, .n x2, .n x3, .n x4]).P) (G := (Fq.st [.n y1, .n y2, .n y3, .n y4]).P) hp (free_of rfl) trivial (enq_f_algorist_quadratic_Times) (sqi 4) (sqi 5) (fun v v' w h h' => exPTimes h h' (Int.lt_of_lt_of_le hS.out.2.2.2.1 (pw_le (by omega))) (Int.lt_of_lt_of_le hS.out.2.2.2.2.1 (pw_le (by omega))) (Int.lt_of_lt_of_le hS.out.2.2.2.2.2.1 (pw_le (by omega))) (Int.lt_of_lt_of_le hS.out.2.2.2.2.2.2 (pw_le (by omega))) (Int.lt_of_lt_of_le hY.out.1 (pw_le (by omega))) (Int.lt_of_lt_of_le hY.out.2.1 (pw_le (by omega))) (Int.lt_of_lt_of_le hY.out.2.2.1 (pw_le (by omega))) (Int.lt_of_lt_of_le hY.out.2.2.2 (pw_le (by omega))))
 ·exact q_one (F := fun v _ => v = .pointer (some ⟨b, 0, none⟩)) hp (free_of rfl) trivial (sqi 0) (fun ρ w hc h => ⟨.pointer (some ⟨b, 0, none⟩), by simp [execOp, go_sem, h], rfl⟩)
 ·exact q_addr (b := b) (off := 0) (off' := 6) hp (free_of rfl) trivial (sqi 7) (fun ρ w h => by simp [execOp, go_sem, h]) (fun _ => rfl)
 ·exact q_storeOldSt (off := 6) (fs := [.n (qv fa fb fc y1 y3), .n (qm fa fb fc y1 y2 y3 y4), .n (qv fa fb fc y2 y4), .n x1, .n x2, .n x3, .n x4]) (gs := [.n ((x1 * y1) + (x2 * y3)), .n ((x1 * y2) + (x2 * y4)), .n ((x3 * y1) + (x4 * y3)), .n ((x3 * y2) + (x4 * y4))]) (fs' := [.n (qv fa fb fc y1 y3), .n (qm fa fb fc y1 y2 y3 y4), .n (qv fa fb fc y2 y4), .n ((x1 * y1) + (x2 * y3)), .n ((x1 * y2) + (x2 * y4)), .n ((x3 * y1) + (x4 * y3)), .n ((x3 * y2) + (x4 * y4))]) hp (mq 3 rfl) rfl rfl rfl size_api_Mat rfl (sqi 8) (sq_in 6 rfl rfl (by simp) rfl (fun v w h => fitv_st h)) (fun _ _ => trivial) (newik_ne rfl)
 intro L vs w3 nb hL hC hn E3
 have e0 : vs 0 = .pointer (some ⟨b, 0, none⟩) := hC 0 (by simp)
 have e1 : vs 1 = .pointer (some ⟨b, 0, none⟩) := hC 1 (by simp)
 have e2 : vs 2 = .pointer (some ⟨b, 0, none⟩) := hC 2 (by simp)
 have e3 : vs 3 = .pointer (some ⟨b, 6, none⟩) := hC 3 (by simp)
 have e7 : vs 7 = .pointer (some ⟨b, 0, none⟩) := hC 7 (by simp)
 have e8 : vs 8 = .pointer (some ⟨b, 6, none⟩) := hC 8 (by simp)
 have E : Fr wb [(b1, 8, Fq.st [.n y1, .n y2, .n y3, .n y4]), (p1, q1, P1), (p2, q2, P2), (b, 14, Fq.st [.n (qv fa fb fc y1 y3), .n (qm fa fb fc y1 y2 y3 y4), .n (qv fa fb fc y2 y4), .n ((x1 * y1) + (x2 * y3)), .n ((x1 * y2) + (x2 * y4)), .n ((x3 * y1) + (x4 * y3)), .n ((x3 * y2) + (x4 * y4))]), (bo1, mo1, Fo1), (bo2, mo2, Fo2), (bo3, mo3, Fo3)] w3 := E3
 rw [lay_all hL]
 simp only [putAll, dstOf, List.length_cons, List.length_nil, Nat.zero_add, Nat.reduceAdd, List.getElem?_toArray, List.getElem?_cons_zero, List.getElem?_cons_succ, Option.bind_some, Act.put, List.setIfInBounds_toArray, List.set_cons_succ, List.set_cons_zero]
 rw [e0, e1, e2, e3, e7, e8]
 generalize vs 4 = u3_4
 generalize vs 5 = u3_5
 generalize vs 6 = u3_6
 clear e0 e1 e2 e3 e7 e8 hC hn E3 hL vs L nb
 clear hS hY
 exact bodyPost_end (results_none rfl _ _ _) rfl ⟨_, rfl, E.drop⟩

set_option maxRecDepth 100000 in
set_option maxHeartbeats 4000000 in
theorem exPSwap {wb w : World} {b : Nat} {bo1 mo1 bo2 mo2 bo3 mo3 : Nat} {Fo1 Fo2 Fo3 : Fq} {S : RS} (E : Fr wb [(b, 14, Fq.st [.n S.fa, .n S.fb, .n S.fc, .n S.x1, .n S.x2, .n S.x3, .n S.x4]), (bo1, mo1, Fo1), (bo2, mo2, Fo2), (bo3, mo3, Fo3)] w) (hB : RB S) :
  Calls Try.prog 59 #[.pointer (some ⟨b, 0, none⟩)] w fun e w' => ∃ v', e = .returned v' ∧ Fr wb [(b, 14, Fq.st [.n ((rsw S).fa), .n ((rsw S).fb), .n ((rsw S).fc), .n ((rsw S).x1), .n ((rsw S).x2), .n ((rsw S).x3), .n ((rsw S).x4)]), (bo1, mo1, Fo1), (bo2, mo2, Fo2), (bo3, mo3, Fo3)] w' := by
 replace hB := hidd hB
 go_enter Try.func59, Try.ntmps59
 go_upto_region 0 with (fail)
 have B1 : Hid (ab ((-1)) < pw 3) := ab_lit (by decide)
 have B2 : Hid (ab ((1)) < pw 3) := ab_lit (by decide)
 refine region_ref (C := [Fq.is (.pointer (some ⟨b, 0, none⟩)), Fq.num (-1), Fq.num (1), Fq.st [.n 0, .n (-1), .n (1), .n 0], Fq.any]) (ks := [none, none, none, none]) (bs' := [(b, 14, Fq.st [.n ((rsw S).fa), .n ((rsw S).fb), .n ((rsw S).fc), .n ((rsw S).x1), .n ((rsw S).x2), .n ((rsw S).x3), .n ((rsw S).x4)]), (bo1, mo1, Fo1), (bo2, mo2, Fo2), (bo3, mo3, Fo3)]) 4 rfl rfl E rfl rfl (by kernel_rfl) rfl rfl rfl (fun hp => ⟨?_, ?_, ?_, ?_, trivial⟩) ?_ ?_
 ·exact q_move hp (free_of rfl) trivial (sqo 0)
 ·exact q_call1 (F := (Fq.is (.int .i64 (-1))).P) hp (free_of rfl) trivial (enq_Of) (sq_const (fun _ => rfl)) (fun v w h => (by subst h; exact OfK w (-1) (by omega) (by omega)))
 ·exact q_call1 (F := (Fq.is (.int .i64 1)).P) hp (free_of rfl) trivial (enq_Of) (sq_const (fun _ => rfl)) (fun v w h => (by subst h; exact OfK w (1) (by omega) (by omega)))
 ·exact q_build_api_Mat_12 (z1 := (-1)) (z2 := (1)) hp (free_of rfl) trivial (sqi 1) (sqi 2) (fun v w h => h)
 ·intro hp; exact q_lastRef2 (G := (Fq.st [.n 0, .n (-1), .n (1), .n 0]).P) (enq_ref_apply) (sqi 0) (sqi 3) trivial (fun v w E h => (by have hh := exPApplyR0 E h ⟨(Int.lt_of_lt_of_le hB.out.1.1 (pw_le (by omega))), (Int.lt_of_lt_of_le hB.out.1.2.1 (pw_le (by omega))), (Int.lt_of_lt_of_le hB.out.1.2.2 (pw_le (by omega))), (Int.lt_of_lt_of_le hB.out.2.1 (pw_le (by omega))), (Int.lt_of_lt_of_le hB.out.2.2.1 (pw_le (by omega))), (Int.lt_of_lt_of_le hB.out.2.2.2.1 (pw_le (by omega))), (Int.lt_of_lt_of_le hB.out.2.2.2.2 (pw_le (by omega)))⟩ ⟨(Int.lt_of_lt_of_le (ab_lit (by decide)) (pw_le (by omega))), (Int.lt_of_lt_of_le (ab_lit (by decide)) (pw_le (by omega))), (Int.lt_of_lt_of_le (ab_lit (by decide)) (pw_le (by omega))), (Int.lt_of_lt_of_le (ab_lit (by decide)) (pw_le (by omega)))⟩; rw [rsw_a, rsw_b, rsw_c] at hh; exact hh))
 intro L vs w3 hL E3
 have E : Fr wb [(b, 14, Fq.st [.n ((rsw S).fa), .n ((rsw S).fb), .n ((rsw S).fc), .n ((rsw S).x1), .n ((rsw S).x2), .n ((rsw S).x3), .n ((rsw S).x4)]), (bo1, mo1, Fo1), (bo2, mo2, Fo2), (bo3, mo3, Fo3)] w3 := E3
 rw [lay_all hL]
 simp only [putAll, dstOf, List.length_cons, List.length_nil, Nat.zero_add, Nat.reduceAdd, List.getElem?_toArray, List.getElem?_cons_zero, List.getElem?_cons_succ, Option.bind_some, Act.put, List.setIfInBounds_toArray, List.set_cons_succ, List.set_cons_zero]
 generalize vs 0 = u3_0
 generalize vs 1 = u3_1
 generalize vs 2 = u3_2
 generalize vs 3 = u3_3
 generalize vs 4 = u3_4
 clear E3 hL vs L
 clear B1 B2 hB
 exact bodyPost_end (results_none rfl _ _ _) rfl ⟨_, rfl, E⟩

set_option maxRecDepth 100000 in
set_option maxHeartbeats 4000000 in
theorem exPNarrow {wb w : World} {b : Nat} {bo1 mo1 bo2 mo2 bo3 mo3 : Nat} {Fo1 Fo2 Fo3 : Fq} {S : RS} (E : Fr wb [(b, 14, Fq.st [.n S.fa, .n S.fb, .n S.fc, .n S.x1, .n S.x2, .n S.x3, .n S.x4]), (bo1, mo1, Fo1), (bo2, mo2, Fo2), (bo3, mo3, Fo3)] w) (hB : RB S) (h0 : 0 < S.fa) :
  Calls Try.prog 57 #[.pointer (some ⟨b, 0, none⟩)] w fun e w' => ∃ v', e = .returned v' ∧ Fr wb [(b, 14, Fq.st [.n ((rsh S).fa), .n ((rsh S).fb), .n ((rsh S).fc), .n ((rsh S).x1), .n ((rsh S).x2), .n ((rsh S).x3), .n ((rsh S).x4)]), (bo1, mo1, Fo1), (bo2, mo2, Fo2), (bo3, mo3, Fo3)] w' := by
 replace hB := hidd hB
 have HNE : Hid (2 * S.fa ≠ 0) := by show _ ≠ _; omega
 have BQ : Hid (ab ((S.fa - S.fb) / (2 * S.fa)) < pw 15) := ediv_ab (ab_subB hB.out.1.1 hB.out.1.2.1 (by omega) (by omega))
 clear h0
 go_enter Try.func57, Try.ntmps57
 go_upto_region 0 with (fail)
 have B1 : Hid (ab ((S.fa - S.fb)) < pw 6) := ab_subB hB.out.1.1 hB.out.1.2.1 (by omega) (by omega)
 have B2 : Hid (ab ((2 * S.fa)) < pw 8) := Int.lt_of_lt_of_le (ab_mulB (ab_i64 (x := 2) (by decide) (by decide)) hB.out.1.1) (pw_le (by omega))
 have B3 : Hid (ab (((S.fa - S.fb) % (2 * S.fa))) < pw 8) := ab_modB HNE.out B2.out
 refine region_fr (C := [Fq.is (.pointer (some ⟨b, 0, none⟩)), Fq.is (.pointer (some ⟨b, 0, none⟩)), Fq.is (.pointer (some ⟨b, 0, none⟩)), Fq.is (.pointer (some ⟨b, 0, none⟩)), Fq.num S.fa, Fq.is (.pointer (some ⟨b, 0, none⟩)), Fq.is (.pointer (some ⟨b, 0, none⟩)), Fq.is (.pointer (some ⟨b, 0, none⟩)), Fq.is (.pointer (some ⟨b, 2, none⟩)), Fq.num S.fb, Fq.num (S.fa - S.fb), Fq.is (.pointer (some ⟨b, 0, none⟩)), Fq.is (.pointer (some ⟨b, 0, none⟩)), Fq.is (.pointer (some ⟨b, 0, none⟩)), Fq.is (.pointer (some ⟨b, 0, none⟩)), Fq.num S.fa, Fq.num (2 * S.fa), Fq.tup3 (Fq.num ((S.fa - S.fb) / (2 * S.fa))) (Fq.num ((S.fa - S.fb) % (2 * S.fa))) (Fq.is (.int .i64 0)), Fq.tup3 (Fq.num ((S.fa - S.fb) / (2 * S.fa))) (Fq.num ((S.fa - S.fb) % (2 * S.fa))) (Fq.is (.int .i64 0)), Fq.num ((S.fa - S.fb) / (2 * S.fa)), Fq.num ((S.fa - S.fb) % (2 * S.fa)), Fq.is (.int .i64 0), Fq.any, Fq.any, Fq.any, Fq.any, Fq.is (.int .i64 0)]) (ks := [none, none, none, none]) (new := [⟨22, 24, 2, Fq.num 0, Fq.num ((S.fa - S.fb) / (2 * S.fa)), none⟩, ⟨23, 25, 2, Fq.num 0, Fq.num ((S.fa - S.fb) % (2 * S.fa)), none⟩]) E rfl (by kernel_rfl) rfl rfl (fun hp => ⟨?_, ?_, ?_, ?_, ?_, ?_, ?_, ?_, ?_, ?_, ?_, ?_, ?_, ?_, ?_, ?_, ?_, ?_, ?_, ?_, ?_, ?_, ?_, ?_, ?_, ?_, ?_, trivial⟩) ?_
 ·exact q_move hp (free_of rfl) trivial (sqo 0)
 ·exact q_one (F := fun v _ => v = .pointer (some ⟨b, 0, none⟩)) hp (free_of rfl) trivial (sqi 0) (fun ρ w hc h => ⟨.pointer (some ⟨b, 0, none⟩), by simp [execOp, go_sem, h], rfl⟩)
 ·exact q_addr (b := b) (off := 0) (off' := 0) hp (free_of rfl) trivial (sqi 1) (fun ρ w h => by simp [execOp, go_sem, h]) (fun _ => rfl)
 ·exact q_addr (b := b) (off := 0) (off' := 0) hp (free_of rfl) trivial (sqi 2) (fun ρ w h => by simp [execOp, go_sem, h]) (fun _ => rfl)
 ·exact q_loadSt (off := 0) (l := 2) (fs := [.n S.fa, .n S.fb, .n S.fc, .n S.x1, .n S.x2, .n S.x3, .n S.x4]) (gs := [.n S.fa]) hp (free_of rfl) trivial (mq 0 rfl) (.inl rfl) rfl row_api_Int rfl (sqi 3) (fun v w h => st_num h)
 ·exact q_move hp (free_of rfl) trivial (sqo 0)
 ·exact q_one (F := fun v _ => v = .pointer (some ⟨b, 0, none⟩)) hp (free_of rfl) trivial (sqi 5) (fun ρ w hc h => ⟨.pointer (some ⟨b, 0, none⟩), by simp [execOp, go_sem, h], rfl⟩)
 ·exact q_addr (b := b) (off := 0) (off' := 0) hp (free_of rfl) trivial (sqi 6) (fun ρ w h => by simp [execOp, go_sem, h]) (fun _ => rfl)
 ·exact q_addr (b := b) (off := 0) (off' := 2) hp (free_of rfl) trivial (sqi 7) (fun ρ w h => by simp [execOp, go_sem, h]) (fun _ => rfl)
 ·exact q_loadSt (off := 2) (l := 2) (fs := [.n S.fa, .n S.fb, .n S.fc, .n S.x1, .n S.x2, .n S.x3, .n S.x4]) (gs := [.n S.fb]) hp (free_of rfl) trivial (mq 0 rfl) (.inl rfl) rfl row_api_Int rfl (sqi 8) (fun v w h => st_num h)
 ·exact q_call2 (F := (Fq.num S.fa).P) (G := (Fq.num S.fb).P) hp (free_of rfl) trivial (enq_Sub) (sqi 4) (sqi 9) (fun v v' w h h' => exK (SubV h h') B1.out (by omega))
 ·exact q_move hp (free_of rfl) trivial (sqo 0)
 ·exact q_one (F := fun v _ => v = .pointer (some ⟨b, 0, none⟩)) hp (free_of rfl) trivial (sqi 11) (fun ρ w hc h => ⟨.pointer (some ⟨b, 0, none⟩), by simp [execOp, go_sem, h], rfl⟩)
 ·exact q_addr (b := b) (off := 0) (off' := 0) hp (free_of rfl) trivial (sqi 12) (fun ρ w h => by simp [execOp, go_sem, h]) (fun _ => rfl)
 ·exact q_addr (b := b) (off := 0) (off' := 0) hp (free_of rfl) trivial (sqi 13) (fun ρ w h => by simp [execOp, go_sem, h]) (fun _ => rfl)
 ·exact q_loadSt (off := 0) (l := 2) (fs := [.n S.fa, .n S.fb, .n S.fc, .n S.x1, .n S.x2, .n S.x3, .n S.x4]) (gs := [.n S.fa]) hp (free_of rfl) trivial (mq 0 rfl) (.inl rfl) rfl row_api_Int rfl (sqi 14) (fun v w h => st_num h)
 ·exact q_call1 (F := (Fq.num S.fa).P) hp (free_of rfl) trivial (enq_f_algorist_quadratic_twice) (sqi 15) (fun v w h => exPTwice h (Int.lt_of_lt_of_le hB.out.1.1 (pw_le (by omega))))
 ·exact q_call2 (F := (Fq.num (S.fa - S.fb)).P) (G := (Fq.num (2 * S.fa)).P) hp (free_of rfl) trivial (enq_DivMod) (sqi 10) (sqi 16) (fun v v' w h h' => exDMq h h' HNE.out (Int.lt_of_lt_of_le BQ.out (pw_le (by omega : 15 ≤ 15))) B3.out (by omega) (by omega))
 ·exact q_move hp (free_of rfl) trivial (sqi 17)
 ·exact q_extract3 hp (free_of rfl) trivial (sqi 18) (fun v1 v2 v3 w h1 h2 h3 => ⟨_, rfl, h1⟩)
 ·exact q_extract3 hp (free_of rfl) trivial (sqi 18) (fun v1 v2 v3 w h1 h2 h3 => ⟨_, rfl, h2⟩)
 ·exact q_extract3 hp (free_of rfl) trivial (sqi 18) (fun v1 v2 v3 w h1 h2 h3 => ⟨_, rfl, h3⟩)
 ·exact q_allocInt hp (mq 0 rfl) rfl rfl rfl rfl (Nat.ne_of_beq_eq_false rfl) (fun _ _ => trivial) (old_ne rfl) (newk_ne rfl) (fun w => Num.zero w)
 ·exact q_allocInt hp (mq 1 rfl) rfl rfl rfl rfl (Nat.ne_of_beq_eq_false rfl) (fun _ _ => trivial) (old_ne rfl) (newk_ne rfl) (fun w => Num.zero w)
 ·exact q_storeNewInt hp (mq 0 rfl) rfl rfl rfl (own_ptr rfl rfl (by simp) rfl) (sq_in 19 rfl rfl (by simp) rfl (fun v w h => intV_num h)) (fun _ _ => trivial) (old_ne rfl) (newi_ne rfl)
 ·exact q_storeNewInt hp (mq 1 rfl) rfl rfl rfl (own_ptr rfl rfl (by simp) rfl) (sq_in 20 rfl rfl (by simp) rfl (fun v w h => intV_num h)) (fun _ _ => trivial) (old_ne rfl) (newi_ne rfl)
 ·exact q_assign hp (free_of rfl) trivial (sqi 21)
 intro L vs w4 nb hL hC hn E4
 have e0 : vs 0 = .pointer (some ⟨b, 0, none⟩) := hC 0 (by simp)
 have e1 : vs 1 = .pointer (some ⟨b, 0, none⟩) := hC 1 (by simp)
 have e2 : vs 2 = .pointer (some ⟨b, 0, none⟩) := hC 2 (by simp)
 have e3 : vs 3 = .pointer (some ⟨b, 0, none⟩) := hC 3 (by simp)
 have e5 : vs 5 = .pointer (some ⟨b, 0, none⟩) := hC 5 (by simp)
 have e6 : vs 6 = .pointer (some ⟨b, 0, none⟩) := hC 6 (by simp)
 have e7 : vs 7 = .pointer (some ⟨b, 0, none⟩) := hC 7 (by simp)
 have e8 : vs 8 = .pointer (some ⟨b, 2, none⟩) := hC 8 (by simp)
 have e11 : vs 11 = .pointer (some ⟨b, 0, none⟩) := hC 11 (by simp)
 have e12 : vs 12 = .pointer (some ⟨b, 0, none⟩) := hC 12 (by simp)
 have e13 : vs 13 = .pointer (some ⟨b, 0, none⟩) := hC 13 (by simp)
 have e14 : vs 14 = .pointer (some ⟨b, 0, none⟩) := hC 14 (by simp)
 have e21 : vs 21 = .int .i64 0 := hC 21 (by simp)
 have e26 : vs 26 = .int .i64 0 := hC 26 (by simp)
 have e22 : vs 22 = .pointer (some ⟨nb 22, 0, none⟩) := hn _ (mq 0 rfl)
 have e23 : vs 23 = .pointer (some ⟨nb 23, 0, none⟩) := hn _ (mq 1 rfl)
 have E : Fr wb [(nb 22, 2, Fq.num ((S.fa - S.fb) / (2 * S.fa))), (nb 23, 2, Fq.num ((S.fa - S.fb) % (2 * S.fa))), (b, 14, Fq.st [.n S.fa, .n S.fb, .n S.fc, .n S.x1, .n S.x2, .n S.x3, .n S.x4]), (bo1, mo1, Fo1), (bo2, mo2, Fo2), (bo3, mo3, Fo3)] w4 := E4
 rw [lay_all hL]
 simp only [putAll, dstOf, List.length_cons, List.length_nil, Nat.zero_add, Nat.reduceAdd, List.getElem?_toArray, List.getElem?_cons_zero, List.getElem?_cons_succ, Option.bind_some, Act.put, List.setIfInBounds_toArray, List.set_cons_succ, List.set_cons_zero]
 rw [e0, e1, e2, e3, e5, e6, e7, e8, e11, e12, e13, e14, e21, e26, e22, e23]
 generalize nb 22 = b4_22 at E ⊢
 generalize nb 23 = b4_23 at E ⊢
 generalize vs 4 = u4_4
 generalize vs 9 = u4_9
 generalize vs 10 = u4_10
 generalize vs 15 = u4_15
 generalize vs 16 = u4_16
 generalize vs 17 = u4_17
 generalize vs 18 = u4_18
 generalize vs 19 = u4_19
 generalize vs 20 = u4_20
 clear e0 e1 e2 e3 e5 e6 e7 e8 e11 e12 e13 e14 e21 e26 e22 e23 hC hn E4 hL vs L nb
 go_upto_region 1 with (fail)
 have B5 : Hid (ab ((1)) < pw 3) := ab_lit (by decide)
 refine region_ref (C := [Fq.is (.pointer (some ⟨b, 0, none⟩)), Fq.num (1), Fq.num ((S.fa - S.fb) / (2 * S.fa)), Fq.num (1), Fq.st [.n (1), .n ((S.fa - S.fb) / (2 * S.fa)), .n 0, .n (1)], Fq.any]) (ks := [none, none, none, none, none, none]) (bs' := [(b4_22, 2, Fq.num ((S.fa - S.fb) / (2 * S.fa))), (b4_23, 2, Fq.num ((S.fa - S.fb) % (2 * S.fa))), (b, 14, Fq.st [.n ((rsh S).fa), .n ((rsh S).fb), .n ((rsh S).fc), .n ((rsh S).x1), .n ((rsh S).x2), .n ((rsh S).x3), .n ((rsh S).x4)]), (bo1, mo1, Fo1), (bo2, mo2, Fo2), (bo3, mo3, Fo3)]) 5 rfl rfl E rfl rfl (by kernel_rfl) rfl rfl rfl (fun hp => ⟨?_, ?_, ?_, ?_, ?_, trivial⟩) ?_ ?_
 ·exact q_move hp (free_of rfl) trivial (sqo 0)
 ·exact q_call1 (F := (Fq.is (.int .i64 1)).P) hp (free_of rfl) trivial (enq_Of) (sq_const (fun _ => rfl)) (fun v w h => (by subst h; exact OfK w (1) (by omega) (by omega)))
 ·exact q_loadInt (off := 0) hp (free_of rfl) trivial (mq 0 rfl) (.inl rfl) (Nat.le_of_ble_eq_true rfl) (sqo 2) (fun us w hl h => ld_num hl h)
 ·exact q_call1 (F := (Fq.is (.int .i64 1)).P) hp (free_of rfl) trivial (enq_Of) (sq_const (fun _ => rfl)) (fun v w h => (by subst h; exact OfK w (1) (by omega) (by omega)))
 ·exact q_build_api_Mat_013 (z0 := (1)) (z1 := ((S.fa - S.fb) / (2 * S.fa))) (z3 := (1)) hp (free_of rfl) trivial (sqi 1) (sqi 2) (sqi 3) (fun v w h => h)
 ·intro hp; exact q_lastRef2 (G := (Fq.st [.n (1), .n ((S.fa - S.fb) / (2 * S.fa)), .n 0, .n (1)]).P) (enq_ref_apply) (sqi 0) (sqi 4) trivial (fun v w E h => (by have hh := exPApplyR2 E h ⟨(Int.lt_of_lt_of_le hB.out.1.1 (pw_le (by omega))), (Int.lt_of_lt_of_le hB.out.1.2.1 (pw_le (by omega))), (Int.lt_of_lt_of_le hB.out.1.2.2 (pw_le (by omega))), (Int.lt_of_lt_of_le hB.out.2.1 (pw_le (by omega))), (Int.lt_of_lt_of_le hB.out.2.2.1 (pw_le (by omega))), (Int.lt_of_lt_of_le hB.out.2.2.2.1 (pw_le (by omega))), (Int.lt_of_lt_of_le hB.out.2.2.2.2 (pw_le (by omega)))⟩ ⟨(Int.lt_of_lt_of_le (ab_lit (by decide)) (pw_le (by omega))), (Int.lt_of_lt_of_le BQ.out (pw_le (by omega))), (Int.lt_of_lt_of_le (ab_lit (by decide)) (pw_le (by omega))), (Int.lt_of_lt_of_le (ab_lit (by decide)) (pw_le (by omega)))⟩; rw [rsh_a, rsh_b, rsh_c] at hh; exact hh))
 intro L vs w6 hL E6
 have E : Fr wb [(b4_22, 2, Fq.num ((S.fa - S.fb) / (2 * S.fa))), (b4_23, 2, Fq.num ((S.fa - S.fb) % (2 * S.fa))), (b, 14, Fq.st [.n ((rsh S).fa), .n ((rsh S).fb), .n ((rsh S).fc), .n ((rsh S).x1), .n ((rsh S).x2), .n ((rsh S).x3), .n ((rsh S).x4)]), (bo1, mo1, Fo1), (bo2, mo2, Fo2), (bo3, mo3, Fo3)] w6 := E6
 rw [lay_all hL]
 simp only [putAll, dstOf, List.length_cons, List.length_nil, Nat.zero_add, Nat.reduceAdd, List.getElem?_toArray, List.getElem?_cons_zero, List.getElem?_cons_succ, Option.bind_some, Act.put, List.setIfInBounds_toArray, List.set_cons_succ, List.set_cons_zero]
 generalize vs 0 = u6_0
 generalize vs 1 = u6_1
 generalize vs 2 = u6_2
 generalize vs 3 = u6_3
 generalize vs 4 = u6_4
 generalize vs 5 = u6_5
 clear E6 hL vs L
 clear HNE
 clear B1 B2 B3 B5 hB BQ
 exact bodyPost_end (results_none rfl _ _ _) rfl ⟨_, rfl, E.drop.drop⟩

set_option maxRecDepth 100000 in
set_option maxHeartbeats 4000000 in
theorem exPReduceD {w : World} {v : Value} {a b c : Int} (h : (Fq.st [.n a, .n b, .n c]).P v w) (ha : ab a < pw 5) (hb : ab b < pw 5) (hc : ab c < pw 5) (hd : (b * b - 4 * (a * c)) < 0) (h0 : 0 < a) :
  Calls Try.prog 21 #[v] w fun e w' => ∃ v', e = .returned v' ∧ Below w.heap.size w w' ∧ (Fq.red (redEnd a b c)).P v' w' := by
 replace ha := hidd ha
 replace hb := hidd hb
 replace hc := hidd hc
 have HD := hidd hd
 have HP := hidd h0
 have HC : Hid (redE a b c = 0) := redE_zero hd h0
 have HS0 := hidd ((RIn.one h0 hb.out hc.out).bds ha.out hc.out hd : RB ⟨1, 0, 0, 1, a, b, c⟩)
 clear hd h0
 obtain ⟨_, rfl, hf0⟩ := h
 have hF0 := hf0
 obtain ⟨y0_p0, y0_q0, _, rfl, _y0_n0, y0_p1, y0_q1, _, rfl, _y0_n1, y0_p2, y0_q2, _, rfl, _y0_n2, rfl⟩ := hf0
 obtain ⟨w1, b1, hw1, hb1, hs1, E⟩ := fr_start w (F := Fq.st [.n a, .n b, .n c]) (us := [y0_p0, y0_q0, y0_p1, y0_q1, y0_p2, y0_q2]) 33 rfl (by simp) (hF0.tame) (show (Fq.st [.n a, .n b, .n c]).P _ w from ⟨_, rfl, hF0⟩)
 obtain ⟨w2, b2, hw2, hb2, hs2, E⟩ := fr_more E hs1 (F := Fq.st [.n 0, .n 0, .n 0]) (us := [.bool false, .slice none 0 0, .bool false, .slice none 0 0, .bool false, .slice none 0 0]) 33 rfl (by simp) ((Fits.tame (fits0_api_Form w))) (fits0P_api_Form _)
 obtain ⟨w3, b3, hw3, hb3, hs3, E⟩ := fr_more E hs2 (F := Fq.st [.n 0, .n 0, .n 0, .n 0]) (us := [.bool false, .slice none 0 0, .bool false, .slice none 0 0, .bool false, .slice none 0 0, .bool false, .slice none 0 0]) 36 rfl (by simp) ((Fits.tame (fits0_api_Mat w))) (fits0P_api_Mat _)
 go_enter Try.func21, Try.ntmps21
 go_upto_region 1 with (fail)
 rw [← hw1]
 rw [← hw2]
 rw [← hw3]
 rw [← hb3]
 rw [← hb2]
 rw [← hb1]
 clear hw1 hw2 hw3 hb1 hb2 hb3 hs3 hs1 hs2
 refine region_fr (C := [Fq.st [.n a, .n b, .n c], Fq.is (.int .i64 0), Fq.is (.int .i64 0)]) (ks := [none, none, none]) (new := []) E rfl (by kernel_rfl) rfl rfl (fun hp => ⟨?_, ?_, ?_, trivial⟩) ?_
 ·exact q_loadSt (off := 0) (l := 6) (fs := [.n a, .n b, .n c]) (gs := [.n a, .n b, .n c]) hp (free_of rfl) trivial (mq 2 rfl) (.inl rfl) rfl row_api_Form rfl (sqo 1) (fun v w h => h)
 ·exact q_call1 (F := (Fq.st [.n a, .n b, .n c]).P) hp (free_of rfl) trivial (enq_f_algorist_quadratic_checkDefinite) (sqi 0) (fun v w h => exPCheckDef h (Int.lt_of_lt_of_le ha.out (pw_le (by omega))) (Int.lt_of_lt_of_le hb.out (pw_le (by omega))) (Int.lt_of_lt_of_le hc.out (pw_le (by omega))) HC.out)
 ·exact q_assign hp (free_of rfl) trivial (sqi 1)
 intro L vs w4 nb hL hC hn E4
 have e1 : vs 1 = .int .i64 0 := hC 1 (by simp)
 have e2 : vs 2 = .int .i64 0 := hC 2 (by simp)
 have E : Fr w [(b3, 8, Fq.st [.n 0, .n 0, .n 0, .n 0]), (b2, 6, Fq.st [.n 0, .n 0, .n 0]), (b1, 6, Fq.st [.n a, .n b, .n c])] w4 := E4
 rw [lay_all hL]
 simp only [putAll, dstOf, List.length_cons, List.length_nil, Nat.zero_add, Nat.reduceAdd, List.getElem?_toArray, List.getElem?_cons_zero, List.getElem?_cons_succ, Option.bind_some, Act.put, List.setIfInBounds_toArray, List.set_cons_succ, List.set_cons_zero]
 rw [e1, e2]
 generalize vs 0 = u4_0
 clear e1 e2 hC hn E4 hL vs L nb
 go_upto_region 2 with (fail)
 refine region_fr (C := [Fq.is (.int .i64 0), Fq.is (.bool false)]) (ks := [none, none, none]) (new := []) E rfl (by kernel_rfl) rfl rfl (fun hp => ⟨?_, ?_, trivial⟩) ?_
 ·exact q_move hp (free_of rfl) trivial (sqo 5)
 ·exact q_one (F := fun v _ => v = .int .i64 0) hp (free_of rfl) trivial (sqi 0) (fun ρ w hc h => ⟨.bool false, by simp [execOp, go_sem, h, hc], rfl⟩)
 intro L vs w5 nb hL hC hn E5
 have e0 : vs 0 = .int .i64 0 := hC 0 (by simp)
 have e1 : vs 1 = .bool false := hC 1 (by simp)
 have E : Fr w [(b3, 8, Fq.st [.n 0, .n 0, .n 0, .n 0]), (b2, 6, Fq.st [.n 0, .n 0, .n 0]), (b1, 6, Fq.st [.n a, .n b, .n c])] w5 := E5
 rw [lay_all hL]
 simp only [putAll, dstOf, List.length_cons, List.length_nil, Nat.zero_add, Nat.reduceAdd, List.getElem?_toArray, List.getElem?_cons_zero, List.getElem?_cons_succ, Option.bind_some, Act.put, List.setIfInBounds_toArray, List.set_cons_succ, List.set_cons_zero]
 rw [e0, e1]
 clear e0 e1 hC hn E5 hL vs L nb
 clear HC
 go_upto_region 4 with (fail)
 have B6 : Hid (ab ((1)) < pw 3) := ab_lit (by decide)
 refine region_fr (C := [Fq.st [.n a, .n b, .n c], Fq.num (1), Fq.num (1), Fq.st [.n (1), .n 0, .n 0, .n (1)], Fq.st [.n a, .n b, .n c, .n (1), .n 0, .n 0, .n (1)], Fq.any, Fq.any]) (ks := [none, none, none]) (new := [⟨5, 6, 14, Fq.st [.n 0, .n 0, .n 0, .n 0, .n 0, .n 0, .n 0], Fq.st [.n a, .n b, .n c, .n (1), .n 0, .n 0, .n (1)], none⟩]) E rfl (by kernel_rfl) rfl rfl (fun hp => ⟨?_, ?_, ?_, ?_, ?_, ?_, ?_, trivial⟩) ?_
 ·exact q_loadSt (off := 0) (l := 6) (fs := [.n a, .n b, .n c]) (gs := [.n a, .n b, .n c]) hp (free_of rfl) trivial (mq 2 rfl) (.inl rfl) rfl row_api_Form rfl (sqo 1) (fun v w h => h)
 ·exact q_call1 (F := (Fq.is (.int .i64 1)).P) hp (free_of rfl) trivial (enq_Of) (sq_const (fun _ => rfl)) (fun v w h => (by subst h; exact OfK w (1) (by omega) (by omega)))
 ·exact q_call1 (F := (Fq.is (.int .i64 1)).P) hp (free_of rfl) trivial (enq_Of) (sq_const (fun _ => rfl)) (fun v w h => (by subst h; exact OfK w (1) (by omega) (by omega)))
 ·exact q_build_api_Mat_03 (z0 := (1)) (z3 := (1)) hp (free_of rfl) trivial (sqi 1) (sqi 2) (fun v w h => h)
 ·exact q_build_quadratic_reduction_01 (z0_0 := a) (z0_1 := b) (z0_2 := c) (z1_0 := (1)) (z1_1 := 0) (z1_2 := 0) (z1_3 := (1)) hp (free_of rfl) trivial (sqi 0) (sqi 3) (fun v w h => h)
 ·exact q_allocSt (us := [.bool false, .slice none 0 0, .bool false, .slice none 0 0, .bool false, .slice none 0 0, .bool false, .slice none 0 0, .bool false, .slice none 0 0, .bool false, .slice none 0 0, .bool false, .slice none 0 0]) (fs := [.n 0, .n 0, .n 0, .n 0, .n 0, .n 0, .n 0]) hp (mq 0 rfl) rfl rfl rfl (Nat.lt_of_sub_eq_succ rfl) rfl fits0_quadratic_reduction (fun ρ w => ralloc_quadratic_reduction ρ w) rfl (Nat.ne_of_beq_eq_false rfl) (fun _ _ => trivial) (old_ne rfl) (newk_ne rfl)
 ·exact q_storeNewSt (fs := [.n 0, .n 0, .n 0, .n 0, .n 0, .n 0, .n 0]) (gs := [.n a, .n b, .n c, .n (1), .n 0, .n 0, .n (1)]) hp (mq 0 rfl) rfl rfl rfl rfl size_quadratic_reduction rfl (own_ptr rfl rfl (by simp) rfl) (sq_in 4 rfl rfl (by simp) rfl (fun v w h => fitv_st h)) (fun _ _ => trivial) (old_ne rfl) (newi_ne rfl)
 intro L vs w7 nb hL hC hn E7
 have e5 : vs 5 = .pointer (some ⟨nb 5, 0, none⟩) := hn _ (mq 0 rfl)
 have E : Fr w [(nb 5, 14, Fq.st [.n a, .n b, .n c, .n (1), .n 0, .n 0, .n (1)]), (b3, 8, Fq.st [.n 0, .n 0, .n 0, .n 0]), (b2, 6, Fq.st [.n 0, .n 0, .n 0]), (b1, 6, Fq.st [.n a, .n b, .n c])] w7 := E7
 rw [lay_all hL]
 simp only [putAll, dstOf, List.length_cons, List.length_nil, Nat.zero_add, Nat.reduceAdd, List.getElem?_toArray, List.getElem?_cons_zero, List.getElem?_cons_succ, Option.bind_some, Act.put, List.setIfInBounds_toArray, List.set_cons_succ, List.set_cons_zero]
 rw [e5]
 generalize nb 5 = b7_5 at E ⊢
 generalize vs 0 = u7_0
 generalize vs 1 = u7_1
 generalize vs 2 = u7_2
 generalize vs 3 = u7_3
 generalize vs 4 = u7_4
 clear e5 hC hn E7 hL vs L nb
 go_upto_region 5 with (fail)
 refine region_ref (C := [Fq.any]) (ks := [none, none, none, none]) (bs' := [(b7_5, 14, Fq.st [.n ((rsh ⟨1, 0, 0, 1, a, b, c⟩).fa), .n ((rsh ⟨1, 0, 0, 1, a, b, c⟩).fb), .n ((rsh ⟨1, 0, 0, 1, a, b, c⟩).fc), .n ((rsh ⟨1, 0, 0, 1, a, b, c⟩).x1), .n ((rsh ⟨1, 0, 0, 1, a, b, c⟩).x2), .n ((rsh ⟨1, 0, 0, 1, a, b, c⟩).x3), .n ((rsh ⟨1, 0, 0, 1, a, b, c⟩).x4)]), (b3, 8, Fq.st [.n 0, .n 0, .n 0, .n 0]), (b2, 6, Fq.st [.n 0, .n 0, .n 0]), (b1, 6, Fq.st [.n a, .n b, .n c])]) 0 rfl rfl E rfl rfl (by kernel_rfl) rfl rfl rfl (fun hp => trivial) ?_ ?_
 ·intro hp; exact q_lastRef1  (enq_ref_narrow) (sqo 6) trivial (fun w E => exPNarrow (S := ⟨1, 0, 0, 1, a, b, c⟩) E HS0.out HP.out)
 intro L vs w8 hL E8
 have E : Fr w [(b7_5, 14, Fq.st [.n ((rsh ⟨1, 0, 0, 1, a, b, c⟩).fa), .n ((rsh ⟨1, 0, 0, 1, a, b, c⟩).fb), .n ((rsh ⟨1, 0, 0, 1, a, b, c⟩).fc), .n ((rsh ⟨1, 0, 0, 1, a, b, c⟩).x1), .n ((rsh ⟨1, 0, 0, 1, a, b, c⟩).x2), .n ((rsh ⟨1, 0, 0, 1, a, b, c⟩).x3), .n ((rsh ⟨1, 0, 0, 1, a, b, c⟩).x4)]), (b3, 8, Fq.st [.n 0, .n 0, .n 0, .n 0]), (b2, 6, Fq.st [.n 0, .n 0, .n 0]), (b1, 6, Fq.st [.n a, .n b, .n c])] w8 := E8
 rw [lay_all hL]
 simp only [putAll, dstOf, List.length_cons, List.length_nil, Nat.zero_add, List.getElem?_toArray, List.getElem?_cons_zero, Option.bind_some, Act.put, List.setIfInBounds_toArray, List.set_cons_succ, List.set_cons_zero]
 generalize vs 0 = u8_0
 clear E8 hL vs L
 clear HS0
 have HE := hidd E
 clear E
 obtain ⟨W0, rfl⟩ : ∃ W0, W0 = w8 := ⟨_, rfl⟩
 go_wp2_with (fail)
 go_loopw [20] (fun _ W => ∃ P : RS, PIn a b c P ∧ Fr w [(b7_5, 14, Fq.st [.n P.fa, .n P.fb, .n P.fc, .n P.x1, .n P.x2, .n P.x3, .n P.x4]), (b3, 8, Fq.st [.n 0, .n 0, .n 0, .n 0]), (b2, 6, Fq.st [.n 0, .n 0, .n 0]), (b1, 6, Fq.st [.n a, .n b, .n c])] W) (fun _ W => frmMes W b7_5)
 case atStart => exact ⟨_, PIn.start HP.out hb.out hc.out, HE.out⟩
 case round =>
  clear HE
  obtain ⟨V2, rfl⟩ : ∃ V2, V2 = wr := ⟨_, rfl⟩
  obtain ⟨P, hI, E⟩ := hrel
  have HI := hidd hI
  have HBS := hidd (hI.at ha.out hb.out hc.out HD.out).1
  have HME := hidd (frmMes_eq (bq_pre (E.box 0 rfl)))
  clear hI
  go_upto_region 6 with (fail)
  by_cases hr : redB P.fa P.fb P.fc = true
  ·have HR := hidd hr
   clear hr
   refine region_fr (C := [Fq.is (.pointer (some ⟨b7_5, 0, none⟩)), Fq.st [.n P.fa, .n P.fb, .n P.fc], Fq.is (.bool true), Fq.is (.bool false)]) (ks := [none, none, none, none]) (new := []) E rfl (by kernel_rfl) rfl rfl (fun hp => ⟨?_, ?_, ?_, ?_, trivial⟩) ?_
   ·exact q_addr (b := b7_5) (off := 0) (off' := 0) hp (free_of rfl) trivial (sqo 6) (fun ρ w h => by simp [execOp, go_sem, h]) (fun _ => rfl)
   ·exact q_loadSt (off := 0) (l := 6) (fs := [.n P.fa, .n P.fb, .n P.fc, .n P.x1, .n P.x2, .n P.x3, .n P.x4]) (gs := [.n P.fa, .n P.fb, .n P.fc]) hp (free_of rfl) trivial (mq 0 rfl) (.inl rfl) rfl row_api_Form rfl (sqi 0) (fun v w h => h)
   ·exact q_call1 (F := (Fq.st [.n P.fa, .n P.fb, .n P.fc]).P) hp (free_of rfl) trivial (enq_f_algorist_quadratic_isReduced) (sqi 1) (fun v w h => exPIsReduced h (Int.lt_of_lt_of_le HBS.out.1.1 (pw_le (by omega))) (Int.lt_of_lt_of_le HBS.out.1.2.1 (pw_le (by omega))) (Int.lt_of_lt_of_le HBS.out.1.2.2 (pw_le (by omega))) HR.out)
   ·exact q_one (F := fun v _ => v = .bool true) hp (free_of rfl) trivial (sqi 2) (fun ρ w _ h => ⟨.bool false, by simp [execOp, go_sem, h], rfl⟩)
   intro L vs w9 nb hL hC hn E9
   have e0 : vs 0 = .pointer (some ⟨b7_5, 0, none⟩) := hC 0 (by simp)
   have e2 : vs 2 = .bool true := hC 2 (by simp)
   have e3 : vs 3 = .bool false := hC 3 (by simp)
   have E : Fr w [(b7_5, 14, Fq.st [.n P.fa, .n P.fb, .n P.fc, .n P.x1, .n P.x2, .n P.x3, .n P.x4]), (b3, 8, Fq.st [.n 0, .n 0, .n 0, .n 0]), (b2, 6, Fq.st [.n 0, .n 0, .n 0]), (b1, 6, Fq.st [.n a, .n b, .n c])] w9 := E9
   rw [lay_all hL]
   simp only [putAll, dstOf, List.length_cons, List.length_nil, Nat.zero_add, Nat.reduceAdd, List.getElem?_toArray, List.getElem?_cons_zero, List.getElem?_cons_succ, Option.bind_some, Act.put, List.setIfInBounds_toArray, List.set_cons_succ, List.set_cons_zero]
   rw [e0, e2, e3]
   generalize vs 1 = u9_1
   clear e0 e2 e3 hC hn E9 hL vs L nb
   go_upto_region 9 with (fail)
   refine region_fr (C := [Fq.is (.pointer (some ⟨b7_5, 0, none⟩)), Fq.st [.n P.fa, .n P.fb, .n P.fc], Fq.is (.pointer (some ⟨b7_5, 6, none⟩)), Fq.st [.n P.x1, .n P.x2, .n P.x3, .n P.x4], Fq.any, Fq.any, Fq.is (.int .i64 0)]) (ks := [none, some (5, Fq.st [.n P.x1, .n P.x2, .n P.x3, .n P.x4]), some (4, Fq.st [.n P.fa, .n P.fb, .n P.fc]), none]) (new := []) E rfl (by kernel_rfl) rfl rfl (fun hp => ⟨?_, ?_, ?_, ?_, ?_, ?_, ?_, trivial⟩) ?_
   ·exact q_addr (b := b7_5) (off := 0) (off' := 0) hp (free_of rfl) trivial (sqo 6) (fun ρ w h => by simp [execOp, go_sem, h]) (fun _ => rfl)
   ·exact q_loadSt (off := 0) (l := 6) (fs := [.n P.fa, .n P.fb, .n P.fc, .n P.x1, .n P.x2, .n P.x3, .n P.x4]) (gs := [.n P.fa, .n P.fb, .n P.fc]) hp (free_of rfl) trivial (mq 0 rfl) (.inl rfl) rfl row_api_Form rfl (sqi 0) (fun v w h => h)
   ·exact q_addr (b := b7_5) (off := 0) (off' := 6) hp (free_of rfl) trivial (sqo 6) (fun ρ w h => by simp [execOp, go_sem, h]) (fun _ => rfl)
   ·exact q_loadSt (off := 6) (l := 8) (fs := [.n P.fa, .n P.fb, .n P.fc, .n P.x1, .n P.x2, .n P.x3, .n P.x4]) (gs := [.n P.x1, .n P.x2, .n P.x3, .n P.x4]) hp (free_of rfl) trivial (mq 0 rfl) (.inl rfl) rfl row_api_Mat rfl (sqi 2) (fun v w h => h)
   ·exact q_storeOldSt (off := 0) (fs := [.n 0, .n 0, .n 0]) (gs := [.n P.fa, .n P.fb, .n P.fc]) (fs' := [.n P.fa, .n P.fb, .n P.fc]) hp (mq 2 rfl) rfl rfl rfl size_api_Form rfl (sqo 2) (sq_in 1 rfl rfl (by simp) rfl (fun v w h => fitv_st h)) (fun _ _ => trivial) (newik_ne rfl)
   ·exact q_storeOldSt (off := 0) (fs := [.n 0, .n 0, .n 0, .n 0]) (gs := [.n P.x1, .n P.x2, .n P.x3, .n P.x4]) (fs' := [.n P.x1, .n P.x2, .n P.x3, .n P.x4]) hp (mq 1 rfl) rfl rfl rfl size_api_Mat rfl (sqo 3) (sq_in 3 rfl rfl (by simp) rfl (fun v w h => fitv_st h)) (fun _ _ => trivial) (newik_ne rfl)
   ·exact q_assign hp (free_of rfl) trivial (sq_const (fun _ => rfl))
   intro L vs w10 nb hL hC hn E10
   have e0 : vs 0 = .pointer (some ⟨b7_5, 0, none⟩) := hC 0 (by simp)
   have e2 : vs 2 = .pointer (some ⟨b7_5, 6, none⟩) := hC 2 (by simp)
   have e6 : vs 6 = .int .i64 0 := hC 6 (by simp)
   have E : Fr w [(b7_5, 14, Fq.st [.n P.fa, .n P.fb, .n P.fc, .n P.x1, .n P.x2, .n P.x3, .n P.x4]), (b3, 8, Fq.st [.n P.x1, .n P.x2, .n P.x3, .n P.x4]), (b2, 6, Fq.st [.n P.fa, .n P.fb, .n P.fc]), (b1, 6, Fq.st [.n a, .n b, .n c])] w10 := E10
   rw [lay_all hL]
   simp only [putAll, dstOf, List.length_cons, List.length_nil, Nat.zero_add, Nat.reduceAdd, List.getElem?_toArray, List.getElem?_cons_zero, List.getElem?_cons_succ, Option.bind_some, Act.put, List.setIfInBounds_toArray, List.set_cons_succ, List.set_cons_zero]
   rw [e0, e2, e6]
   generalize vs 1 = u10_1
   generalize vs 3 = u10_3
   clear e0 e2 e6 hC hn E10 hL vs L nb
   obtain ⟨_, _, hccr, hffr⟩ := box_st (E.box 2 rfl)
   have hPr := hffr
   obtain ⟨r_p0, r_q0, _, rfl, _r_n0, r_p1, r_q1, _, rfl, _r_n1, r_p2, r_q2, _, rfl, _r_n2, rfl⟩ := hffr
   have cr0 := hccr 0 (by simp)
   have cr1 := hccr 1 (by simp)
   have cr2 := hccr 2 (by simp)
   have cr3 := hccr 3 (by simp)
   have cr4 := hccr 4 (by simp)
   have cr5 := hccr 5 (by simp)
   simp only [List.getD_cons_zero, List.getD_cons_succ] at cr0 cr1 cr2 cr3 cr4 cr5
   clear hccr
   obtain ⟨_, _, hccq, hffq⟩ := box_st (E.box 1 rfl)
   have hPq := hffq
   obtain ⟨q_p0, q_q0, _, rfl, _q_n0, q_p1, q_q1, _, rfl, _q_n1, q_p2, q_q2, _, rfl, _q_n2, q_p3, q_q3, _, rfl, _q_n3, rfl⟩ := hffq
   have cq0 := hccq 0 (by simp)
   have cq1 := hccq 1 (by simp)
   have cq2 := hccq 2 (by simp)
   have cq3 := hccq 3 (by simp)
   have cq4 := hccq 4 (by simp)
   have cq5 := hccq 5 (by simp)
   have cq6 := hccq 6 (by simp)
   have cq7 := hccq 7 (by simp)
   simp only [List.getD_cons_zero, List.getD_cons_succ] at cq0 cq1 cq2 cq3 cq4 cq5 cq6 cq7
   clear hccq
   have hEnd := HI.out.red HR.out
   clear HI HME HR HD HP
   clear B6 ha hb hc HBS
   go_wp2
   refine bodyPost_ret (v := .tuple #[.agg #[r_p0, r_q0, r_p1, r_q1, r_p2, r_q2], .agg #[q_p0, q_q0, q_p1, q_q1, q_p2, q_q2, q_p3, q_q3], .int .i64 0]) ?_ rfl ⟨_, rfl, E.below, by rw [hEnd]; exact ⟨_, _, _, rfl, ⟨_, rfl, hPr⟩, ⟨_, rfl, hPq⟩, rfl⟩⟩
   simp [results, Try.results21, go_sem, cr0, cr1, cr2, cr3, cr4, cr5, cq0, cq1, cq2, cq3, cq4, cq5, cq6, cq7]
  ·have hr2 : P.red = false := Bool.eq_false_iff.2 hr
   obtain ⟨hN, hB2, hp2, hmm⟩ := HI.out.next ha.out hb.out hc.out HD.out hr2
   have HR := hidd (show redB P.fa P.fb P.fc = false from hr2)
   have HN := hidd hN
   have HBT := hidd hB2
   have HP2 := hidd hp2
   have HMM := hidd hmm
   clear hr hr2 hN hB2 hp2 hmm
   refine region_fr (C := [Fq.is (.pointer (some ⟨b7_5, 0, none⟩)), Fq.st [.n P.fa, .n P.fb, .n P.fc], Fq.is (.bool false), Fq.is (.bool true)]) (ks := [none, none, none, none]) (new := []) E rfl (by kernel_rfl) rfl rfl (fun hp => ⟨?_, ?_, ?_, ?_, trivial⟩) ?_
   ·exact q_addr (b := b7_5) (off := 0) (off' := 0) hp (free_of rfl) trivial (sqo 6) (fun ρ w h => by simp [execOp, go_sem, h]) (fun _ => rfl)
   ·exact q_loadSt (off := 0) (l := 6) (fs := [.n P.fa, .n P.fb, .n P.fc, .n P.x1, .n P.x2, .n P.x3, .n P.x4]) (gs := [.n P.fa, .n P.fb, .n P.fc]) hp (free_of rfl) trivial (mq 0 rfl) (.inl rfl) rfl row_api_Form rfl (sqi 0) (fun v w h => h)
   ·exact q_call1 (F := (Fq.st [.n P.fa, .n P.fb, .n P.fc]).P) hp (free_of rfl) trivial (enq_f_algorist_quadratic_isReduced) (sqi 1) (fun v w h => exPIsReduced h (Int.lt_of_lt_of_le HBS.out.1.1 (pw_le (by omega))) (Int.lt_of_lt_of_le HBS.out.1.2.1 (pw_le (by omega))) (Int.lt_of_lt_of_le HBS.out.1.2.2 (pw_le (by omega))) HR.out)
   ·exact q_one (F := fun v _ => v = .bool false) hp (free_of rfl) trivial (sqi 2) (fun ρ w _ h => ⟨.bool true, by simp [execOp, go_sem, h], rfl⟩)
   intro L vs w11 nb hL hC hn E11
   have e0 : vs 0 = .pointer (some ⟨b7_5, 0, none⟩) := hC 0 (by simp)
   have e2 : vs 2 = .bool false := hC 2 (by simp)
   have e3 : vs 3 = .bool true := hC 3 (by simp)
   have E : Fr w [(b7_5, 14, Fq.st [.n P.fa, .n P.fb, .n P.fc, .n P.x1, .n P.x2, .n P.x3, .n P.x4]), (b3, 8, Fq.st [.n 0, .n 0, .n 0, .n 0]), (b2, 6, Fq.st [.n 0, .n 0, .n 0]), (b1, 6, Fq.st [.n a, .n b, .n c])] w11 := E11
   rw [lay_all hL]
   simp only [putAll, dstOf, List.length_cons, List.length_nil, Nat.zero_add, Nat.reduceAdd, List.getElem?_toArray, List.getElem?_cons_zero, List.getElem?_cons_succ, Option.bind_some, Act.put, List.setIfInBounds_toArray, List.set_cons_succ, List.set_cons_zero]
   rw [e0, e2, e3]
   generalize vs 1 = u11_1
   clear e0 e2 e3 hC hn E11 hL vs L nb
   go_upto_region 7 with (fail)
   refine region_ref (C := [Fq.any]) (ks := [none, none, none, none]) (bs' := [(b7_5, 14, Fq.st [.n ((rsw P).fa), .n ((rsw P).fb), .n ((rsw P).fc), .n ((rsw P).x1), .n ((rsw P).x2), .n ((rsw P).x3), .n ((rsw P).x4)]), (b3, 8, Fq.st [.n 0, .n 0, .n 0, .n 0]), (b2, 6, Fq.st [.n 0, .n 0, .n 0]), (b1, 6, Fq.st [.n a, .n b, .n c])]) 0 rfl rfl E rfl rfl (by kernel_rfl) rfl rfl rfl (fun hp => trivial) ?_ ?_
   ·intro hp; exact q_lastRef1  (enq_ref_swap) (sqo 6) trivial (fun w E => exPSwap (S := P) E HBS.out)
   intro L vs w12 hL E12
   have E : Fr w [(b7_5, 14, Fq.st [.n ((rsw P).fa), .n ((rsw P).fb), .n ((rsw P).fc), .n ((rsw P).x1), .n ((rsw P).x2), .n ((rsw P).x3), .n ((rsw P).x4)]), (b3, 8, Fq.st [.n 0, .n 0, .n 0, .n 0]), (b2, 6, Fq.st [.n 0, .n 0, .n 0]), (b1, 6, Fq.st [.n a, .n b, .n c])] w12 := E12
   rw [lay_all hL]
   simp only [putAll, dstOf, List.length_cons, List.length_nil, Nat.zero_add, List.getElem?_toArray, List.getElem?_cons_zero, Option.bind_some, Act.put, List.setIfInBounds_toArray, List.set_cons_succ, List.set_cons_zero]
   generalize vs 0 = u12_0
   clear E12 hL vs L
   go_upto_region 8 with (fail)
   refine region_ref (C := [Fq.any]) (ks := [none, none, none, none]) (bs' := [(b7_5, 14, Fq.st [.n ((rsh (rsw P)).fa), .n ((rsh (rsw P)).fb), .n ((rsh (rsw P)).fc), .n ((rsh (rsw P)).x1), .n ((rsh (rsw P)).x2), .n ((rsh (rsw P)).x3), .n ((rsh (rsw P)).x4)]), (b3, 8, Fq.st [.n 0, .n 0, .n 0, .n 0]), (b2, 6, Fq.st [.n 0, .n 0, .n 0]), (b1, 6, Fq.st [.n a, .n b, .n c])]) 0 rfl rfl E rfl rfl (by kernel_rfl) rfl rfl rfl (fun hp => trivial) ?_ ?_
   ·intro hp; exact q_lastRef1  (enq_ref_narrow) (sqo 6) trivial (fun w E => exPNarrow (S := rsw P) E HBT.out HP2.out)
   intro L vs w13 hL E13
   have E : Fr w [(b7_5, 14, Fq.st [.n ((rsh (rsw P)).fa), .n ((rsh (rsw P)).fb), .n ((rsh (rsw P)).fc), .n ((rsh (rsw P)).x1), .n ((rsh (rsw P)).x2), .n ((rsh (rsw P)).x3), .n ((rsh (rsw P)).x4)]), (b3, 8, Fq.st [.n 0, .n 0, .n 0, .n 0]), (b2, 6, Fq.st [.n 0, .n 0, .n 0]), (b1, 6, Fq.st [.n a, .n b, .n c])] w13 := E13
   rw [lay_all hL]
   simp only [putAll, dstOf, List.length_cons, List.length_nil, Nat.zero_add, List.getElem?_toArray, List.getElem?_cons_zero, Option.bind_some, Act.put, List.setIfInBounds_toArray, List.set_cons_succ, List.set_cons_zero]
   generalize vs 0 = u13_0
   clear E13 hL vs L
   have hN := HN.out
   have hME := HME.out
   have hMM := HMM.out
   have hRo := HR.out
   have hM2 := frmMes_eq (bq_pre (E.box 0 rfl))
   rw [hRo] at hME
   clear HME HI HR HN HP2 HMM HD HP
   clear B6 ha hb hc HBS HBT
   go_wp2
   go_roundw
   case rel => exact ⟨_, hN, E⟩
   case measure =>
    rw [hM2, hME]
    simpa using hMM

set_option maxRecDepth 100000 in
set_option maxHeartbeats 4000000 in
theorem exPReduceE {w : World} {v : Value} {a b c : Int} (h : (Fq.st [.n a, .n b, .n c]).P v w) (ha : ab a < pw 5) (hb : ab b < pw 5) (hc : ab c < pw 5) {er : Int} (he : redE a b c = er) (hn : ¬ er = 0) :
  Calls Try.prog 21 #[v] w fun e w' => ∃ v', e = .returned v' ∧ Below w.heap.size w w' ∧ (Fq.tup3 (Fq.st [.n 0, .n 0, .n 0]) (Fq.st [.n 0, .n 0, .n 0, .n 0]) (Fq.is (.int .i64 er))).P v' w' := by
 replace ha := hidd ha
 replace hb := hidd hb
 replace hc := hidd hc
 have HC := hidd he
 have HN := hidd hn
 clear he hn
 obtain ⟨_, rfl, hf0⟩ := h
 have hF0 := hf0
 obtain ⟨y0_p0, y0_q0, _, rfl, _y0_n0, y0_p1, y0_q1, _, rfl, _y0_n1, y0_p2, y0_q2, _, rfl, _y0_n2, rfl⟩ := hf0
 obtain ⟨w1, b1, hw1, hb1, hs1, E⟩ := fr_start w (F := Fq.st [.n a, .n b, .n c]) (us := [y0_p0, y0_q0, y0_p1, y0_q1, y0_p2, y0_q2]) 33 rfl (by simp) (hF0.tame) (show (Fq.st [.n a, .n b, .n c]).P _ w from ⟨_, rfl, hF0⟩)
 obtain ⟨w2, b2, hw2, hb2, hs2, E⟩ := fr_more E hs1 (F := Fq.st [.n 0, .n 0, .n 0]) (us := [.bool false, .slice none 0 0, .bool false, .slice none 0 0, .bool false, .slice none 0 0]) 33 rfl (by simp) ((Fits.tame (fits0_api_Form w))) (fits0P_api_Form _)
 obtain ⟨w3, b3, hw3, hb3, hs3, E⟩ := fr_more E hs2 (F := Fq.st [.n 0, .n 0, .n 0, .n 0]) (us := [.bool false, .slice none 0 0, .bool false, .slice none 0 0, .bool false, .slice none 0 0, .bool false, .slice none 0 0]) 36 rfl (by simp) ((Fits.tame (fits0_api_Mat w))) (fits0P_api_Mat _)
 go_enter Try.func21, Try.ntmps21
 go_upto_region 1 with (fail)
 rw [← hw1]
 rw [← hw2]
 rw [← hw3]
 rw [← hb3]
 rw [← hb2]
 rw [← hb1]
 clear hw1 hw2 hw3 hb1 hb2 hb3 hs3 hs1 hs2
 refine region_fr (C := [Fq.st [.n a, .n b, .n c], Fq.is (.int .i64 er), Fq.is (.int .i64 er)]) (ks := [none, none, none]) (new := []) E rfl (by kernel_rfl) rfl rfl (fun hp => ⟨?_, ?_, ?_, trivial⟩) ?_
 ·exact q_loadSt (off := 0) (l := 6) (fs := [.n a, .n b, .n c]) (gs := [.n a, .n b, .n c]) hp (free_of rfl) trivial (mq 2 rfl) (.inl rfl) rfl row_api_Form rfl (sqo 1) (fun v w h => h)
 ·exact q_call1 (F := (Fq.st [.n a, .n b, .n c]).P) hp (free_of rfl) trivial (enq_f_algorist_quadratic_checkDefinite) (sqi 0) (fun v w h => exPCheckDef h (Int.lt_of_lt_of_le ha.out (pw_le (by omega))) (Int.lt_of_lt_of_le hb.out (pw_le (by omega))) (Int.lt_of_lt_of_le hc.out (pw_le (by omega))) HC.out)
 ·exact q_assign hp (free_of rfl) trivial (sqi 1)
 intro L vs w4 nb hL hC hn E4
 have e1 : vs 1 = .int .i64 er := hC 1 (by simp)
 have e2 : vs 2 = .int .i64 er := hC 2 (by simp)
 have E : Fr w [(b3, 8, Fq.st [.n 0, .n 0, .n 0, .n 0]), (b2, 6, Fq.st [.n 0, .n 0, .n 0]), (b1, 6, Fq.st [.n a, .n b, .n c])] w4 := E4
 rw [lay_all hL]
 simp only [putAll, dstOf, List.length_cons, List.length_nil, Nat.zero_add, Nat.reduceAdd, List.getElem?_toArray, List.getElem?_cons_zero, List.getElem?_cons_succ, Option.bind_some, Act.put, List.setIfInBounds_toArray, List.set_cons_succ, List.set_cons_zero]
 rw [e1, e2]
 generalize vs 0 = u4_0
 clear e1 e2 hC hn E4 hL vs L nb
 go_upto_region 2 with (fail)
 refine region_fr (C := [Fq.is (.int .i64 er), Fq.is (.bool true)]) (ks := [none, none, none]) (new := []) E rfl (by kernel_rfl) rfl rfl (fun hp => ⟨?_, ?_, trivial⟩) ?_
 ·exact q_move hp (free_of rfl) trivial (sqo 5)
 ·exact q_one (F := fun v _ => v = .int .i64 er) hp (free_of rfl) trivial (sqi 0) (fun ρ w hc h => ⟨.bool true, by simp [execOp, go_sem, h, hc, HN.out], rfl⟩)
 intro L vs w5 nb hL hC hn E5
 have e0 : vs 0 = .int .i64 er := hC 0 (by simp)
 have e1 : vs 1 = .bool true := hC 1 (by simp)
 have E : Fr w [(b3, 8, Fq.st [.n 0, .n 0, .n 0, .n 0]), (b2, 6, Fq.st [.n 0, .n 0, .n 0]), (b1, 6, Fq.st [.n a, .n b, .n c])] w5 := E5
 rw [lay_all hL]
 simp only [putAll, dstOf, List.length_cons, List.length_nil, Nat.zero_add, Nat.reduceAdd, List.getElem?_toArray, List.getElem?_cons_zero, List.getElem?_cons_succ, Option.bind_some, Act.put, List.setIfInBounds_toArray, List.set_cons_succ, List.set_cons_zero]
 rw [e0, e1]
 clear e0 e1 hC hn E5 hL vs L nb
 go_upto_region 3 with (fail)
 refine region_fr (C := [Fq.st [.n 0, .n 0, .n 0], Fq.st [.n 0, .n 0, .n 0, .n 0], Fq.is (.int .i64 er), Fq.any, Fq.any, Fq.is (.int .i64 er)]) (ks := [some (4, Fq.st [.n 0, .n 0, .n 0, .n 0]), some (3, Fq.st [.n 0, .n 0, .n 0]), none]) (new := []) E rfl (by kernel_rfl) rfl rfl (fun hp => ⟨?_, ?_, ?_, ?_, ?_, ?_, trivial⟩) ?_
 ·exact q_build_api_Form_ hp (free_of rfl) trivial (fun v w h => h)
 ·exact q_build_api_Mat_ hp (free_of rfl) trivial (fun v w h => h)
 ·exact q_move hp (free_of rfl) trivial (sqo 5)
 ·exact q_storeOldSt (off := 0) (fs := [.n 0, .n 0, .n 0]) (gs := [.n 0, .n 0, .n 0]) (fs' := [.n 0, .n 0, .n 0]) hp (mq 1 rfl) rfl rfl rfl size_api_Form rfl (sqo 2) (sq_in 0 rfl rfl (by simp) rfl (fun v w h => fitv_st h)) (fun _ _ => trivial) (newik_ne rfl)
 ·exact q_storeOldSt (off := 0) (fs := [.n 0, .n 0, .n 0, .n 0]) (gs := [.n 0, .n 0, .n 0, .n 0]) (fs' := [.n 0, .n 0, .n 0, .n 0]) hp (mq 0 rfl) rfl rfl rfl size_api_Mat rfl (sqo 3) (sq_in 1 rfl rfl (by simp) rfl (fun v w h => fitv_st h)) (fun _ _ => trivial) (newik_ne rfl)
 ·exact q_assign hp (free_of rfl) trivial (sqi 2)
 intro L vs w6 nb hL hC hn E6
 have e2 : vs 2 = .int .i64 er := hC 2 (by simp)
 have e5 : vs 5 = .int .i64 er := hC 5 (by simp)
 have E : Fr w [(b3, 8, Fq.st [.n 0, .n 0, .n 0, .n 0]), (b2, 6, Fq.st [.n 0, .n 0, .n 0]), (b1, 6, Fq.st [.n a, .n b, .n c])] w6 := E6
 rw [lay_all hL]
 simp only [putAll, dstOf, List.length_cons, List.length_nil, Nat.zero_add, Nat.reduceAdd, List.getElem?_toArray, List.getElem?_cons_zero, List.getElem?_cons_succ, Option.bind_some, Act.put, List.setIfInBounds_toArray, List.set_cons_succ, List.set_cons_zero]
 rw [e2, e5]
 generalize vs 0 = u6_0
 generalize vs 1 = u6_1
 clear e2 e5 hC hn E6 hL vs L nb
 clear HC HN
 obtain ⟨_, _, hccr, hffr⟩ := box_st (E.box 1 rfl)
 have hPr := hffr
 obtain ⟨r_p0, r_q0, _, rfl, _r_n0, r_p1, r_q1, _, rfl, _r_n1, r_p2, r_q2, _, rfl, _r_n2, rfl⟩ := hffr
 have cr0 := hccr 0 (by simp)
 have cr1 := hccr 1 (by simp)
 have cr2 := hccr 2 (by simp)
 have cr3 := hccr 3 (by simp)
 have cr4 := hccr 4 (by simp)
 have cr5 := hccr 5 (by simp)
 simp only [List.getD_cons_zero, List.getD_cons_succ] at cr0 cr1 cr2 cr3 cr4 cr5
 clear hccr
 obtain ⟨_, _, hccq, hffq⟩ := box_st (E.box 0 rfl)
 have hPq := hffq
 obtain ⟨q_p0, q_q0, _, rfl, _q_n0, q_p1, q_q1, _, rfl, _q_n1, q_p2, q_q2, _, rfl, _q_n2, q_p3, q_q3, _, rfl, _q_n3, rfl⟩ := hffq
 have cq0 := hccq 0 (by simp)
 have cq1 := hccq 1 (by simp)
 have cq2 := hccq 2 (by simp)
 have cq3 := hccq 3 (by simp)
 have cq4 := hccq 4 (by simp)
 have cq5 := hccq 5 (by simp)
 have cq6 := hccq 6 (by simp)
 have cq7 := hccq 7 (by simp)
 simp only [List.getD_cons_zero, List.getD_cons_succ] at cq0 cq1 cq2 cq3 cq4 cq5 cq6 cq7
 clear hccq
 clear ha hb hc
 go_wp2
 refine bodyPost_ret (v := .tuple #[.agg #[r_p0, r_q0, r_p1, r_q1, r_p2, r_q2], .agg #[q_p0, q_q0, q_p1, q_q1, q_p2, q_q2, q_p3, q_q3], .int .i64 er]) ?_ rfl ⟨_, rfl, E.below, _, _, _, rfl, ⟨_, rfl, hPr⟩, ⟨_, rfl, hPq⟩, rfl⟩
 simp [results, Try.results21, go_sem, cr0, cr1, cr2, cr3, cr4, cr5, cq0, cq1, cq2, cq3, cq4, cq5, cq6, cq7]

end Go.Proofs.Ytdhkhedhnolcjaa

namespace Go.Proofs.Ytdhkhedhnolcjaa
open Go Go.RowKit

open Classical in
noncomputable def redT (a b c : Int) : RS := if redE a b c = 0 then redEnd a b c else ⟨0, 0, 0, 0, 0, 0, 0⟩
theorem redT_ok {a b c : Int} (h : redE a b c = 0) : redT a b c = redEnd a b c := by unfold redT; rw [if_pos h]
theorem redT_no {a b c : Int} (h : ¬ redE a b c = 0) : redT a b c = ⟨0, 0, 0, 0, 0, 0, 0⟩ := by unfold redT; rw [if_neg h]
theorem redT_RB {a b c : Int} (ha : ab a < pw 5) (hb : ab b < pw 5) (hc : ab c < pw 5) : RB (redT a b c) := by
 by_cases h : redE a b c = 0
 ·rw [redT_ok h]
  obtain ⟨hd, h0⟩ := redE_def h
  exact (redEnd_in ha hb hc hd h0).1.bds ha hc hd
 ·rw [redT_no h]
  have z : ∀ k, 1 ≤ k → ab (0 : Int) < pw k := fun k hk => Int.lt_of_lt_of_le (show ab (0 : Int) < pw 1 by decide) (pw_le hk)
  exact ⟨⟨z _ (by omega), z _ (by omega), z _ (by omega)⟩, z _ (by omega), z _ (by omega), z _ (by omega), z _ (by omega)⟩
theorem redT_in {a b c : Int} (ha : ab a < pw 5) (hb : ab b < pw 5) (hc : ab c < pw 5) (h : redE a b c = 0) : Und a b c (redT a b c).x1 (redT a b c).x2 (redT a b c).x3 (redT a b c).x4 (redT a b c).fa (redT a b c).fb (redT a b c).fc ∧ Rdf (redT a b c).fa (redT a b c).fb (redT a b c).fc := by
 rw [redT_ok h]
 obtain ⟨hd, h0⟩ := redE_def h
 have h1 := redEnd_in ha hb hc hd h0
 exact ⟨h1.1.u, h1.2⟩
theorem disc_opp (a b c : Int) : -b * -b - 4 * (a * c) = b * b - 4 * (a * c) := by rw [Int.neg_mul_neg]
theorem redE_opp {a b c : Int} (h : redE a b c = 0) : redE a (-b) c = 0 := by
 obtain ⟨hd, h0⟩ := redE_def h
 exact redE_zero (by rw [disc_opp]; exact hd) h0
noncomputable def invT (a b c : Int) : RS := if redE a b c = 0 then redT a (-b) c else ⟨0, 0, 0, 0, 0, 0, 0⟩
theorem exPReduce {w : World} {v : Value} {a b c : Int} (h : (Fq.st [.n a, .n b, .n c]).P v w) (ha : ab a < pw 5) (hb : ab b < pw 5) (hc : ab c < pw 5) :
  Calls Try.prog 21 #[v] w fun e w' => ∃ v', e = .returned v' ∧ Below w.heap.size w w' ∧ (Fq.tup3 (Fq.st [.n (redT a b c).fa, .n (redT a b c).fb, .n (redT a b c).fc]) (Fq.st [.n (redT a b c).x1, .n (redT a b c).x2, .n (redT a b c).x3, .n (redT a b c).x4]) (Fq.is (.int .i64 (redE a b c)))).P v' w' := by
 by_cases he : redE a b c = 0
 ·rw [redT_ok he, he]
  obtain ⟨hd, h0⟩ := redE_def he
  exact exPReduceD h ha hb hc hd h0
 ·rw [redT_no he]
  exact exPReduceE h ha hb hc rfl he

set_option maxRecDepth 100000 in
set_option maxHeartbeats 4000000 in
theorem exPInverseN {w : World} {v : Value} {a b c : Int} (h : (Fq.st [.n a, .n b, .n c]).P v w) (ha : ab a < pw 5) (hb : ab b < pw 5) (hc : ab c < pw 5) (hn : ¬ redE a b c = 0) :
  Calls Try.prog 41 #[v] w fun e w' => ∃ v', e = .returned v' ∧ Below w.heap.size w w' ∧ (Fq.tup2 (Fq.st [.n 0, .n 0, .n 0]) (Fq.is (.int .i64 (redE a b c)))).P v' w' := by
 replace ha := hidd ha
 replace hb := hidd hb
 replace hc := hidd hc
 have HC := hidd (rfl : redE a b c = redE a b c)
 have HN := hidd hn
 clear hn
 obtain ⟨_, rfl, hf0⟩ := h
 have hF0 := hf0
 obtain ⟨y0_p0, y0_q0, _, rfl, _y0_n0, y0_p1, y0_q1, _, rfl, _y0_n1, y0_p2, y0_q2, _, rfl, _y0_n2, rfl⟩ := hf0
 obtain ⟨w1, b1, hw1, hb1, hs1, E⟩ := fr_start w (F := Fq.st [.n a, .n b, .n c]) (us := [y0_p0, y0_q0, y0_p1, y0_q1, y0_p2, y0_q2]) 33 rfl (by simp) (hF0.tame) (show (Fq.st [.n a, .n b, .n c]).P _ w from ⟨_, rfl, hF0⟩)
 obtain ⟨w2, b2, hw2, hb2, hs2, E⟩ := fr_more E hs1 (F := Fq.st [.n 0, .n 0, .n 0]) (us := [.bool false, .slice none 0 0, .bool false, .slice none 0 0, .bool false, .slice none 0 0]) 33 rfl (by simp) ((Fits.tame (fits0_api_Form w))) (fits0P_api_Form _)
 go_enter Try.func41, Try.ntmps41
 go_upto_region 1 with (fail)
 rw [← hw1]
 rw [← hw2]
 rw [← hb2]
 rw [← hb1]
 clear hw1 hw2 hb1 hb2 hs2 hs1
 refine region_fr (C := [Fq.st [.n a, .n b, .n c], Fq.is (.int .i64 (redE a b c)), Fq.is (.int .i64 (redE a b c))]) (ks := [none, none]) (new := []) E rfl (by kernel_rfl) rfl rfl (fun hp => ⟨?_, ?_, ?_, trivial⟩) ?_
 ·exact q_loadSt (off := 0) (l := 6) (fs := [.n a, .n b, .n c]) (gs := [.n a, .n b, .n c]) hp (free_of rfl) trivial (mq 1 rfl) (.inl rfl) rfl row_api_Form rfl (sqo 1) (fun v w h => h)
 ·exact q_call1 (F := (Fq.st [.n a, .n b, .n c]).P) hp (free_of rfl) trivial (enq_f_algorist_quadratic_checkDefinite) (sqi 0) (fun v w h => exPCheckDef h (Int.lt_of_lt_of_le ha.out (pw_le (by omega))) (Int.lt_of_lt_of_le hb.out (pw_le (by omega))) (Int.lt_of_lt_of_le hc.out (pw_le (by omega))) HC.out)
 ·exact q_assign hp (free_of rfl) trivial (sqi 1)
 intro L vs w3 nb hL hC hn E3
 have e1 : vs 1 = .int .i64 (redE a b c) := hC 1 (by simp)
 have e2 : vs 2 = .int .i64 (redE a b c) := hC 2 (by simp)
 have E : Fr w [(b2, 6, Fq.st [.n 0, .n 0, .n 0]), (b1, 6, Fq.st [.n a, .n b, .n c])] w3 := E3
 rw [lay_all hL]
 simp only [putAll, dstOf, List.length_cons, List.length_nil, Nat.zero_add, Nat.reduceAdd, List.getElem?_toArray, List.getElem?_cons_zero, List.getElem?_cons_succ, Option.bind_some, Act.put, List.setIfInBounds_toArray, List.set_cons_succ, List.set_cons_zero]
 rw [e1, e2]
 generalize vs 0 = u3_0
 clear e1 e2 hC hn E3 hL vs L nb
 go_upto_region 2 with (fail)
 refine region_fr (C := [Fq.is (.int .i64 (redE a b c)), Fq.is (.bool true)]) (ks := [none, none]) (new := []) E rfl (by kernel_rfl) rfl rfl (fun hp => ⟨?_, ?_, trivial⟩) ?_
 ·exact q_move hp (free_of rfl) trivial (sqo 4)
 ·exact q_one (F := fun v _ => v = .int .i64 (redE a b c)) hp (free_of rfl) trivial (sqi 0) (fun ρ w hc h => ⟨.bool true, by simp [execOp, go_sem, h, hc, HN.out], rfl⟩)
 intro L vs w4 nb hL hC hn E4
 have e0 : vs 0 = .int .i64 (redE a b c) := hC 0 (by simp)
 have e1 : vs 1 = .bool true := hC 1 (by simp)
 have E : Fr w [(b2, 6, Fq.st [.n 0, .n 0, .n 0]), (b1, 6, Fq.st [.n a, .n b, .n c])] w4 := E4
 rw [lay_all hL]
 simp only [putAll, dstOf, List.length_cons, List.length_nil, Nat.zero_add, Nat.reduceAdd, List.getElem?_toArray, List.getElem?_cons_zero, List.getElem?_cons_succ, Option.bind_some, Act.put, List.setIfInBounds_toArray, List.set_cons_succ, List.set_cons_zero]
 rw [e0, e1]
 clear e0 e1 hC hn E4 hL vs L nb
 go_upto_region 3 with (fail)
 refine region_fr (C := [Fq.st [.n 0, .n 0, .n 0], Fq.is (.int .i64 (redE a b c)), Fq.any, Fq.is (.int .i64 (redE a b c))]) (ks := [some (2, Fq.st [.n 0, .n 0, .n 0]), none]) (new := []) E rfl (by kernel_rfl) rfl rfl (fun hp => ⟨?_, ?_, ?_, ?_, trivial⟩) ?_
 ·exact q_build_api_Form_ hp (free_of rfl) trivial (fun v w h => h)
 ·exact q_move hp (free_of rfl) trivial (sqo 4)
 ·exact q_storeOldSt (off := 0) (fs := [.n 0, .n 0, .n 0]) (gs := [.n 0, .n 0, .n 0]) (fs' := [.n 0, .n 0, .n 0]) hp (mq 0 rfl) rfl rfl rfl size_api_Form rfl (sqo 2) (sq_in 0 rfl rfl (by simp) rfl (fun v w h => fitv_st h)) (fun _ _ => trivial) (newik_ne rfl)
 ·exact q_assign hp (free_of rfl) trivial (sqi 1)
 intro L vs w5 nb hL hC hn E5
 have e1 : vs 1 = .int .i64 (redE a b c) := hC 1 (by simp)
 have e3 : vs 3 = .int .i64 (redE a b c) := hC 3 (by simp)
 have E : Fr w [(b2, 6, Fq.st [.n 0, .n 0, .n 0]), (b1, 6, Fq.st [.n a, .n b, .n c])] w5 := E5
 rw [lay_all hL]
 simp only [putAll, dstOf, List.length_cons, List.length_nil, Nat.zero_add, Nat.reduceAdd, List.getElem?_toArray, List.getElem?_cons_zero, List.getElem?_cons_succ, Option.bind_some, Act.put, List.setIfInBounds_toArray, List.set_cons_succ, List.set_cons_zero]
 rw [e1, e3]
 generalize vs 0 = u5_0
 clear e1 e3 hC hn E5 hL vs L nb
 clear HC HN
 obtain ⟨_, _, hccr, hffr⟩ := box_st (E.box 0 rfl)
 have hPr := hffr
 obtain ⟨r_p0, r_q0, _, rfl, _r_n0, r_p1, r_q1, _, rfl, _r_n1, r_p2, r_q2, _, rfl, _r_n2, rfl⟩ := hffr
 have cr0 := hccr 0 (by simp)
 have cr1 := hccr 1 (by simp)
 have cr2 := hccr 2 (by simp)
 have cr3 := hccr 3 (by simp)
 have cr4 := hccr 4 (by simp)
 have cr5 := hccr 5 (by simp)
 simp only [List.getD_cons_zero, List.getD_cons_succ] at cr0 cr1 cr2 cr3 cr4 cr5
 clear hccr
 clear ha hb hc
 go_wp2
 refine bodyPost_ret (v := .tuple #[.agg #[r_p0, r_q0, r_p1, r_q1, r_p2, r_q2], .int .i64 (redE a b c)]) ?_ rfl ⟨_, rfl, E.below, _, _, rfl, ⟨_, rfl, hPr⟩, rfl⟩
 simp [results, Try.results41, go_sem, cr0, cr1, cr2, cr3, cr4, cr5]

set_option maxRecDepth 100000 in
set_option maxHeartbeats 4000000 in
theorem exPInverseY {w : World} {v : Value} {a b c : Int} (h : (Fq.st [.n a, .n b, .n c]).P v w) (ha : ab a < pw 5) (hb : ab b < pw 5) (hc : ab c < pw 5) (he : redE a b c = 0) :
  Calls Try.prog 41 #[v] w fun e w' => ∃ v', e = .returned v' ∧ Below w.heap.size w w' ∧ (Fq.tup2 (Fq.st [.n (redT a (-b) c).fa, .n (redT a (-b) c).fb, .n (redT a (-b) c).fc]) (Fq.is (.int .i64 0))).P v' w' := by
 replace ha := hidd ha
 replace hb := hidd hb
 replace hc := hidd hc
 have HC := hidd he
 clear he
 obtain ⟨ng, hng⟩ : ∃ ng, ng = -b := ⟨_, rfl⟩
 have hngb : ab ng < pw 5 := by rw [hng]; unfold ab; rw [Int.natAbs_neg]; exact hb.out
 have BN := hidd hngb
 have HN := hidd hng
 have HRE : Hid (redE a ng c = 0) := by show _ = _; rw [HN.out]; exact redE_opp HC.out
 obtain ⟨S, hS⟩ : ∃ S, S = redT a ng c := ⟨_, rfl⟩
 have BS := hidd (redT_RB ha.out hngb hc.out)
 rw [← hS] at BS
 have HS := hidd hS
 clear hng hngb hS
 obtain ⟨_, rfl, hf0⟩ := h
 have hF0 := hf0
 obtain ⟨y0_p0, y0_q0, _, rfl, _y0_n0, y0_p1, y0_q1, _, rfl, _y0_n1, y0_p2, y0_q2, _, rfl, _y0_n2, rfl⟩ := hf0
 obtain ⟨w1, b1, hw1, hb1, hs1, E⟩ := fr_start w (F := Fq.st [.n a, .n b, .n c]) (us := [y0_p0, y0_q0, y0_p1, y0_q1, y0_p2, y0_q2]) 33 rfl (by simp) (hF0.tame) (show (Fq.st [.n a, .n b, .n c]).P _ w from ⟨_, rfl, hF0⟩)
 obtain ⟨w2, b2, hw2, hb2, hs2, E⟩ := fr_more E hs1 (F := Fq.st [.n 0, .n 0, .n 0]) (us := [.bool false, .slice none 0 0, .bool false, .slice none 0 0, .bool false, .slice none 0 0]) 33 rfl (by simp) ((Fits.tame (fits0_api_Form w))) (fits0P_api_Form _)
 go_enter Try.func41, Try.ntmps41
 go_upto_region 1 with (fail)
 rw [← hw1]
 rw [← hw2]
 rw [← hb2]
 rw [← hb1]
 clear hw1 hw2 hb1 hb2 hs2 hs1
 refine region_fr (C := [Fq.st [.n a, .n b, .n c], Fq.is (.int .i64 0), Fq.is (.int .i64 0)]) (ks := [none, none]) (new := []) E rfl (by kernel_rfl) rfl rfl (fun hp => ⟨?_, ?_, ?_, trivial⟩) ?_
 ·exact q_loadSt (off := 0) (l := 6) (fs := [.n a, .n b, .n c]) (gs := [.n a, .n b, .n c]) hp (free_of rfl) trivial (mq 1 rfl) (.inl rfl) rfl row_api_Form rfl (sqo 1) (fun v w h => h)
 ·exact q_call1 (F := (Fq.st [.n a, .n b, .n c]).P) hp (free_of rfl) trivial (enq_f_algorist_quadratic_checkDefinite) (sqi 0) (fun v w h => exPCheckDef h (Int.lt_of_lt_of_le ha.out (pw_le (by omega))) (Int.lt_of_lt_of_le hb.out (pw_le (by omega))) (Int.lt_of_lt_of_le hc.out (pw_le (by omega))) HC.out)
 ·exact q_assign hp (free_of rfl) trivial (sqi 1)
 intro L vs w3 nb hL hC hn E3
 have e1 : vs 1 = .int .i64 0 := hC 1 (by simp)
 have e2 : vs 2 = .int .i64 0 := hC 2 (by simp)
 have E : Fr w [(b2, 6, Fq.st [.n 0, .n 0, .n 0]), (b1, 6, Fq.st [.n a, .n b, .n c])] w3 := E3
 rw [lay_all hL]
 simp only [putAll, dstOf, List.length_cons, List.length_nil, Nat.zero_add, Nat.reduceAdd, List.getElem?_toArray, List.getElem?_cons_zero, List.getElem?_cons_succ, Option.bind_some, Act.put, List.setIfInBounds_toArray, List.set_cons_succ, List.set_cons_zero]
 rw [e1, e2]
 generalize vs 0 = u3_0
 clear e1 e2 hC hn E3 hL vs L nb
 go_upto_region 2 with (fail)
 refine region_fr (C := [Fq.is (.int .i64 0), Fq.is (.bool false)]) (ks := [none, none]) (new := []) E rfl (by kernel_rfl) rfl rfl (fun hp => ⟨?_, ?_, trivial⟩) ?_
 ·exact q_move hp (free_of rfl) trivial (sqo 4)
 ·exact q_one (F := fun v _ => v = .int .i64 0) hp (free_of rfl) trivial (sqi 0) (fun ρ w hc h => ⟨.bool false, by simp [execOp, go_sem, h, hc], rfl⟩)
 intro L vs w4 nb hL hC hn E4
 have e0 : vs 0 = .int .i64 0 := hC 0 (by simp)
 have e1 : vs 1 = .bool false := hC 1 (by simp)
 have E : Fr w [(b2, 6, Fq.st [.n 0, .n 0, .n 0]), (b1, 6, Fq.st [.n a, .n b, .n c])] w4 := E4
 rw [lay_all hL]
 simp only [putAll, dstOf, List.length_cons, List.length_nil, Nat.zero_add, Nat.reduceAdd, List.getElem?_toArray, List.getElem?_cons_zero, List.getElem?_cons_succ, Option.bind_some, Act.put, List.setIfInBounds_toArray, List.set_cons_succ, List.set_cons_zero]
 rw [e0, e1]
 clear e0 e1 hC hn E4 hL vs L nb
 go_upto_region 4 with (fail)
 refine region_fr (C := [Fq.is (.pointer (some ⟨b1, 2, none⟩)), Fq.num b, Fq.num ng, Fq.is (.pointer (some ⟨b1, 2, none⟩)), Fq.any]) (ks := [none, some (4, Fq.st [.n a, .n ng, .n c])]) (new := []) E rfl (by kernel_rfl) rfl rfl (fun hp => ⟨?_, ?_, ?_, ?_, ?_, trivial⟩) ?_
 ·exact q_addr (b := b1) (off := 0) (off' := 2) hp (free_of rfl) trivial (sqo 1) (fun ρ w h => by simp [execOp, go_sem, h]) (fun _ => rfl)
 ·exact q_loadSt (off := 2) (l := 2) (fs := [.n a, .n b, .n c]) (gs := [.n b]) hp (free_of rfl) trivial (mq 1 rfl) (.inr rfl) rfl row_api_Int rfl (sqi 0) (fun v w h => st_num h)
 ·exact q_call1 (F := (Fq.num b).P) hp (free_of rfl) trivial (enq_Neg) (sqi 1) (fun v w h => (by rw [HN.out]; exact exK (NegV h) (by rw [← HN.out]; exact BN.out) (by omega)))
 ·exact q_addr (b := b1) (off := 0) (off' := 2) hp (free_of rfl) trivial (sqo 1) (fun ρ w h => by simp [execOp, go_sem, h]) (fun _ => rfl)
 ·exact q_storeOldSt (off := 2) (fs := [.n a, .n b, .n c]) (gs := [.n ng]) (fs' := [.n a, .n ng, .n c]) hp (mq 1 rfl) rfl rfl rfl size_api_Int rfl (sqi 3) (sq_in 2 rfl rfl (by simp) rfl (fun v w h => fitv_num h)) (fun _ _ => trivial) (newik_ne rfl)
 intro L vs w5 nb hL hC hn E5
 have e0 : vs 0 = .pointer (some ⟨b1, 2, none⟩) := hC 0 (by simp)
 have e3 : vs 3 = .pointer (some ⟨b1, 2, none⟩) := hC 3 (by simp)
 have E : Fr w [(b2, 6, Fq.st [.n 0, .n 0, .n 0]), (b1, 6, Fq.st [.n a, .n ng, .n c])] w5 := E5
 rw [lay_all hL]
 simp only [putAll, dstOf, List.length_cons, List.length_nil, Nat.zero_add, Nat.reduceAdd, List.getElem?_toArray, List.getElem?_cons_zero, List.getElem?_cons_succ, Option.bind_some, Act.put, List.setIfInBounds_toArray, List.set_cons_succ, List.set_cons_zero]
 rw [e0, e3]
 generalize vs 1 = u5_1
 generalize vs 2 = u5_2
 clear e0 e3 hC hn E5 hL vs L nb
 go_upto_region 5 with (fail)
 refine region_fr (C := [Fq.st [.n a, .n ng, .n c], Fq.tup3 (Fq.st [.n S.fa, .n S.fb, .n S.fc]) (Fq.st [.n S.x1, .n S.x2, .n S.x3, .n S.x4]) (Fq.is (.int .i64 0)), Fq.tup3 (Fq.st [.n S.fa, .n S.fb, .n S.fc]) (Fq.st [.n S.x1, .n S.x2, .n S.x3, .n S.x4]) (Fq.is (.int .i64 0)), Fq.st [.n S.fa, .n S.fb, .n S.fc], Fq.st [.n S.x1, .n S.x2, .n S.x3, .n S.x4], Fq.is (.int .i64 0), Fq.any, Fq.any, Fq.any, Fq.any, Fq.is (.int .i64 0)]) (ks := [none, none]) (new := [⟨6, 8, 6, Fq.st [.n 0, .n 0, .n 0], Fq.st [.n S.fa, .n S.fb, .n S.fc], none⟩, ⟨7, 9, 8, Fq.st [.n 0, .n 0, .n 0, .n 0], Fq.st [.n S.x1, .n S.x2, .n S.x3, .n S.x4], none⟩]) E rfl (by kernel_rfl) rfl rfl (fun hp => ⟨?_, ?_, ?_, ?_, ?_, ?_, ?_, ?_, ?_, ?_, ?_, trivial⟩) ?_
 ·exact q_loadSt (off := 0) (l := 6) (fs := [.n a, .n ng, .n c]) (gs := [.n a, .n ng, .n c]) hp (free_of rfl) trivial (mq 1 rfl) (.inl rfl) rfl row_api_Form rfl (sqo 1) (fun v w h => h)
 ·exact q_call1 (F := (Fq.st [.n a, .n ng, .n c]).P) hp (free_of rfl) trivial (enq_f_algorist_quadratic_Reduce) (sqi 0) (fun v w h => (by have hh := exPReduce h ha.out BN.out hc.out; rw [← HS.out, HRE.out] at hh; exact hh))
 ·exact q_move hp (free_of rfl) trivial (sqi 1)
 ·exact q_extract3 hp (free_of rfl) trivial (sqi 2) (fun v1 v2 v3 w h1 h2 h3 => ⟨_, rfl, h1⟩)
 ·exact q_extract3 hp (free_of rfl) trivial (sqi 2) (fun v1 v2 v3 w h1 h2 h3 => ⟨_, rfl, h2⟩)
 ·exact q_extract3 hp (free_of rfl) trivial (sqi 2) (fun v1 v2 v3 w h1 h2 h3 => ⟨_, rfl, h3⟩)
 ·exact q_allocSt (us := [.bool false, .slice none 0 0, .bool false, .slice none 0 0, .bool false, .slice none 0 0]) (fs := [.n 0, .n 0, .n 0]) hp (mq 0 rfl) rfl rfl rfl (Nat.lt_of_sub_eq_succ rfl) rfl fits0_api_Form (fun ρ w => ralloc_api_Form ρ w) rfl (Nat.ne_of_beq_eq_false rfl) (fun _ _ => trivial) (old_ne rfl) (newk_ne rfl)
 ·exact q_allocSt (us := [.bool false, .slice none 0 0, .bool false, .slice none 0 0, .bool false, .slice none 0 0, .bool false, .slice none 0 0]) (fs := [.n 0, .n 0, .n 0, .n 0]) hp (mq 1 rfl) rfl rfl rfl (Nat.lt_of_sub_eq_succ rfl) rfl fits0_api_Mat (fun ρ w => ralloc_api_Mat ρ w) rfl (Nat.ne_of_beq_eq_false rfl) (fun _ _ => trivial) (old_ne rfl) (newk_ne rfl)
 ·exact q_storeNewSt (fs := [.n 0, .n 0, .n 0]) (gs := [.n S.fa, .n S.fb, .n S.fc]) hp (mq 0 rfl) rfl rfl rfl rfl size_api_Form rfl (own_ptr rfl rfl (by simp) rfl) (sq_in 3 rfl rfl (by simp) rfl (fun v w h => fitv_st h)) (fun _ _ => trivial) (old_ne rfl) (newi_ne rfl)
 ·exact q_storeNewSt (fs := [.n 0, .n 0, .n 0, .n 0]) (gs := [.n S.x1, .n S.x2, .n S.x3, .n S.x4]) hp (mq 1 rfl) rfl rfl rfl rfl size_api_Mat rfl (own_ptr rfl rfl (by simp) rfl) (sq_in 4 rfl rfl (by simp) rfl (fun v w h => fitv_st h)) (fun _ _ => trivial) (old_ne rfl) (newi_ne rfl)
 ·exact q_assign hp (free_of rfl) trivial (sqi 5)
 intro L vs w6 nb hL hC hn E6
 have e5 : vs 5 = .int .i64 0 := hC 5 (by simp)
 have e10 : vs 10 = .int .i64 0 := hC 10 (by simp)
 have e6 : vs 6 = .pointer (some ⟨nb 6, 0, none⟩) := hn _ (mq 0 rfl)
 have e7 : vs 7 = .pointer (some ⟨nb 7, 0, none⟩) := hn _ (mq 1 rfl)
 have E : Fr w [(nb 6, 6, Fq.st [.n S.fa, .n S.fb, .n S.fc]), (nb 7, 8, Fq.st [.n S.x1, .n S.x2, .n S.x3, .n S.x4]), (b2, 6, Fq.st [.n 0, .n 0, .n 0]), (b1, 6, Fq.st [.n a, .n ng, .n c])] w6 := E6
 rw [lay_all hL]
 simp only [putAll, dstOf, List.length_cons, List.length_nil, Nat.zero_add, Nat.reduceAdd, List.getElem?_toArray, List.getElem?_cons_zero, List.getElem?_cons_succ, Option.bind_some, Act.put, List.setIfInBounds_toArray, List.set_cons_succ, List.set_cons_zero]
 rw [e5, e10, e6, e7]
 generalize nb 6 = b6_6 at E ⊢
 generalize nb 7 = b6_7 at E ⊢
 generalize vs 0 = u6_0
 generalize vs 1 = u6_1
 generalize vs 2 = u6_2
 generalize vs 3 = u6_3
 generalize vs 4 = u6_4
 clear e5 e10 e6 e7 hC hn E6 hL vs L nb
 go_upto_region 6 with (fail)
 refine region_fr (C := [Fq.st [.n S.fa, .n S.fb, .n S.fc], Fq.is (.int .i64 0), Fq.any, Fq.is (.int .i64 0)]) (ks := [none, none, some (2, Fq.st [.n S.fa, .n S.fb, .n S.fc]), none]) (new := []) E rfl (by kernel_rfl) rfl rfl (fun hp => ⟨?_, ?_, ?_, ?_, trivial⟩) ?_
 ·exact q_loadSt (off := 0) (l := 6) (fs := [.n S.fa, .n S.fb, .n S.fc]) (gs := [.n S.fa, .n S.fb, .n S.fc]) hp (free_of rfl) trivial (mq 0 rfl) (.inl rfl) rfl row_api_Form rfl (sqo 5) (fun v w h => h)
 ·exact q_move hp (free_of rfl) trivial (sqo 7)
 ·exact q_storeOldSt (off := 0) (fs := [.n 0, .n 0, .n 0]) (gs := [.n S.fa, .n S.fb, .n S.fc]) (fs' := [.n S.fa, .n S.fb, .n S.fc]) hp (mq 2 rfl) rfl rfl rfl size_api_Form rfl (sqo 2) (sq_in 0 rfl rfl (by simp) rfl (fun v w h => fitv_st h)) (fun _ _ => trivial) (newik_ne rfl)
 ·exact q_assign hp (free_of rfl) trivial (sqi 1)
 intro L vs w7 nb hL hC hn E7
 have e1 : vs 1 = .int .i64 0 := hC 1 (by simp)
 have e3 : vs 3 = .int .i64 0 := hC 3 (by simp)
 have E : Fr w [(b6_6, 6, Fq.st [.n S.fa, .n S.fb, .n S.fc]), (b6_7, 8, Fq.st [.n S.x1, .n S.x2, .n S.x3, .n S.x4]), (b2, 6, Fq.st [.n S.fa, .n S.fb, .n S.fc]), (b1, 6, Fq.st [.n a, .n ng, .n c])] w7 := E7
 rw [lay_all hL]
 simp only [putAll, dstOf, List.length_cons, List.length_nil, Nat.zero_add, Nat.reduceAdd, List.getElem?_toArray, List.getElem?_cons_zero, List.getElem?_cons_succ, Option.bind_some, Act.put, List.setIfInBounds_toArray, List.set_cons_succ, List.set_cons_zero]
 rw [e1, e3]
 generalize vs 0 = u7_0
 clear e1 e3 hC hn E7 hL vs L nb
 have hE := HS.out
 have hN2 := HN.out
 clear HC HN HRE HS
 rw [hN2] at hE
 obtain ⟨_, _, hccr, hffr⟩ := box_st (E.box 2 rfl)
 have hPr := hffr
 obtain ⟨r_p0, r_q0, _, rfl, _r_n0, r_p1, r_q1, _, rfl, _r_n1, r_p2, r_q2, _, rfl, _r_n2, rfl⟩ := hffr
 have cr0 := hccr 0 (by simp)
 have cr1 := hccr 1 (by simp)
 have cr2 := hccr 2 (by simp)
 have cr3 := hccr 3 (by simp)
 have cr4 := hccr 4 (by simp)
 have cr5 := hccr 5 (by simp)
 simp only [List.getD_cons_zero, List.getD_cons_succ] at cr0 cr1 cr2 cr3 cr4 cr5
 clear hccr
 clear ha hb hc BN BS
 rw [hE] at hPr
 go_wp2
 refine bodyPost_ret (v := .tuple #[.agg #[r_p0, r_q0, r_p1, r_q1, r_p2, r_q2], .int .i64 0]) ?_ rfl ⟨_, rfl, E.below, _, _, rfl, ⟨_, rfl, hPr⟩, rfl⟩
 simp [results, Try.results41, go_sem, cr0, cr1, cr2, cr3, cr4, cr5]

theorem exPInverseT {w : World} {v : Value} {a b c : Int} (h : (Fq.st [.n a, .n b, .n c]).P v w) (ha : ab a < pw 5) (hb : ab b < pw 5) (hc : ab c < pw 5) :
  Calls Try.prog 41 #[v] w fun e w' => ∃ v', e = .returned v' ∧ Below w.heap.size w w' ∧ (Fq.tup2 (Fq.st [.n (invT a b c).fa, .n (invT a b c).fb, .n (invT a b c).fc]) (Fq.is (.int .i64 (redE a b c)))).P v' w' := by
 unfold invT
 by_cases he : redE a b c = 0
 ·rw [if_pos he, he]; exact exPInverseY h ha hb hc he
 ·rw [if_neg he]; exact exPInverseN h ha hb hc he

end Go.Proofs.Ytdhkhedhnolcjaa

namespace Go.Proofs.Ytdhkhedhnolcjaa
open Go Go.RowKit

end Go.Proofs.Ytdhkhedhnolcjaa

namespace Go.Proofs.Ytdhkhedhnolcjaa
open Go Go.RowKit

def Fq.odd7 (n1 : Bool) (a1 : Option Addr) (k1 c1 : Nat) (xs1 : List Int) (n2 : Bool) (a2 : Option Addr) (k2 c2 : Nat) (xs2 : List Int) (n3 : Bool) (a3 : Option Addr) (k3 c3 : Nat) (xs3 : List Int) (n4 : Bool) (a4 : Option Addr) (k4 c4 : Nat) (xs4 : List Int) (n5 : Bool) (a5 : Option Addr) (k5 c5 : Nat) (xs5 : List Int) (n6 : Bool) (a6 : Option Addr) (k6 c6 : Nat) (xs6 : List Int) (n7 : Bool) (a7 : Option Addr) (k7 c7 : Nat) (xs7 : List Int) : Fq :=
 ⟨fun v w => v = .agg #[.bool n1, .slice a1 k1 c1, .bool n2, .slice a2 k2 c2, .bool n3, .slice a3 k3 c3, .bool n4, .slice a4 k4 c4, .bool n5, .slice a5 k5 c5, .bool n6, .slice a6 k6 c6, .bool n7, .slice a7 k7 c7] ∧ Sl w a1 k1 c1 xs1 ∧ Sl w a2 k2 c2 xs2 ∧ Sl w a3 k3 c3 xs3 ∧ Sl w a4 k4 c4 xs4 ∧ Sl w a5 k5 c5 xs5 ∧ Sl w a6 k6 c6 xs6 ∧ Sl w a7 k7 c7 xs7,
  fun h hb => ⟨h.1, h.2.1.mono hb, h.2.2.1.mono hb, h.2.2.2.1.mono hb, h.2.2.2.2.1.mono hb, h.2.2.2.2.2.1.mono hb, h.2.2.2.2.2.2.1.mono hb, h.2.2.2.2.2.2.2.mono hb⟩, fun h ha ht hl => ⟨h.1, h.2.1.putAt ha ht hl, h.2.2.1.putAt ha ht hl, h.2.2.2.1.putAt ha ht hl, h.2.2.2.2.1.putAt ha ht hl, h.2.2.2.2.2.1.putAt ha ht hl, h.2.2.2.2.2.2.1.putAt ha ht hl, h.2.2.2.2.2.2.2.putAt ha ht hl⟩⟩
theorem tame_odd7 (n1 : Bool) (a1 : Option Addr) (k1 c1 : Nat) (n2 : Bool) (a2 : Option Addr) (k2 c2 : Nat) (n3 : Bool) (a3 : Option Addr) (k3 c3 : Nat) (n4 : Bool) (a4 : Option Addr) (k4 c4 : Nat) (n5 : Bool) (a5 : Option Addr) (k5 c5 : Nat) (n6 : Bool) (a6 : Option Addr) (k6 c6 : Nat) (n7 : Bool) (a7 : Option Addr) (k7 c7 : Nat) : Tame [.bool n1, .slice a1 k1 c1, .bool n2, .slice a2 k2 c2, .bool n3, .slice a3 k3 c3, .bool n4, .slice a4 k4 c4, .bool n5, .slice a5 k5 c5, .bool n6, .slice a6 k6 c6, .bool n7, .slice a7 k7 c7] := by
 intro u hu q e
 simp at hu
 rcases hu with rfl | rfl | rfl | rfl | rfl | rfl | rfl | rfl | rfl | rfl | rfl | rfl | rfl | rfl <;> cases e
section
variable {n1 n2 n3 n4 n5 n6 n7 : Bool} {a1 a2 a3 a4 a5 a6 a7 : Option Addr} {k1 c1 k2 c2 k3 c3 k4 c4 k5 c5 k6 c6 k7 c7 : Nat} {xs1 xs2 xs3 xs4 xs5 xs6 xs7 : List Int}
theorem oq_parts {us : List Value} {w : World} (hl : us.length = 14) (h : (Fq.odd7 n1 a1 k1 c1 xs1 n2 a2 k2 c2 xs2 n3 a3 k3 c3 xs3 n4 a4 k4 c4 xs4 n5 a5 k5 c5 xs5 n6 a6 k6 c6 xs6 n7 a7 k7 c7 xs7).P (.agg us.toArray) w) : us = [.bool n1, .slice a1 k1 c1, .bool n2, .slice a2 k2 c2, .bool n3, .slice a3 k3 c3, .bool n4, .slice a4 k4 c4, .bool n5, .slice a5 k5 c5, .bool n6, .slice a6 k6 c6, .bool n7, .slice a7 k7 c7] ∧ Sl w a1 k1 c1 xs1 ∧ Sl w a2 k2 c2 xs2 ∧ Sl w a3 k3 c3 xs3 ∧ Sl w a4 k4 c4 xs4 ∧ Sl w a5 k5 c5 xs5 ∧ Sl w a6 k6 c6 xs6 ∧ Sl w a7 k7 c7 xs7 := by
 obtain ⟨e, h1⟩ := h
 injection e with e
 exact ⟨by simpa using congrArg Array.toList e, h1⟩
theorem ld_oq0 {us : List Value} {w : World} (hl : us.length = 14) (h : (Fq.odd7 n1 a1 k1 c1 xs1 n2 a2 k2 c2 xs2 n3 a3 k3 c3 xs3 n4 a4 k4 c4 xs4 n5 a5 k5 c5 xs5 n6 a6 k6 c6 xs6 n7 a7 k7 c7 xs7).P (.agg us.toArray) w) : (Fq.raw n1 a1 k1 c1 xs1).P (.agg #[us.getD 0 undef, us.getD (0 + 1) undef]) w := by
 obtain ⟨rfl, h1, h2, h3, h4, h5, h6, h7⟩ := oq_parts hl h
 exact ⟨rfl, h1⟩
theorem ld_oq1 {us : List Value} {w : World} (hl : us.length = 14) (h : (Fq.odd7 n1 a1 k1 c1 xs1 n2 a2 k2 c2 xs2 n3 a3 k3 c3 xs3 n4 a4 k4 c4 xs4 n5 a5 k5 c5 xs5 n6 a6 k6 c6 xs6 n7 a7 k7 c7 xs7).P (.agg us.toArray) w) : (Fq.raw n2 a2 k2 c2 xs2).P (.agg #[us.getD 2 undef, us.getD (2 + 1) undef]) w := by
 obtain ⟨rfl, h1, h2, h3, h4, h5, h6, h7⟩ := oq_parts hl h
 exact ⟨rfl, h2⟩
theorem ld_oq2 {us : List Value} {w : World} (hl : us.length = 14) (h : (Fq.odd7 n1 a1 k1 c1 xs1 n2 a2 k2 c2 xs2 n3 a3 k3 c3 xs3 n4 a4 k4 c4 xs4 n5 a5 k5 c5 xs5 n6 a6 k6 c6 xs6 n7 a7 k7 c7 xs7).P (.agg us.toArray) w) : (Fq.raw n3 a3 k3 c3 xs3).P (.agg #[us.getD 4 undef, us.getD (4 + 1) undef]) w := by
 obtain ⟨rfl, h1, h2, h3, h4, h5, h6, h7⟩ := oq_parts hl h
 exact ⟨rfl, h3⟩
theorem ld_oq3 {us : List Value} {w : World} (hl : us.length = 14) (h : (Fq.odd7 n1 a1 k1 c1 xs1 n2 a2 k2 c2 xs2 n3 a3 k3 c3 xs3 n4 a4 k4 c4 xs4 n5 a5 k5 c5 xs5 n6 a6 k6 c6 xs6 n7 a7 k7 c7 xs7).P (.agg us.toArray) w) : (Fq.raw n4 a4 k4 c4 xs4).P (.agg #[us.getD 6 undef, us.getD (6 + 1) undef]) w := by
 obtain ⟨rfl, h1, h2, h3, h4, h5, h6, h7⟩ := oq_parts hl h
 exact ⟨rfl, h4⟩
theorem ld_oq4 {us : List Value} {w : World} (hl : us.length = 14) (h : (Fq.odd7 n1 a1 k1 c1 xs1 n2 a2 k2 c2 xs2 n3 a3 k3 c3 xs3 n4 a4 k4 c4 xs4 n5 a5 k5 c5 xs5 n6 a6 k6 c6 xs6 n7 a7 k7 c7 xs7).P (.agg us.toArray) w) : (Fq.raw n5 a5 k5 c5 xs5).P (.agg #[us.getD 8 undef, us.getD (8 + 1) undef]) w := by
 obtain ⟨rfl, h1, h2, h3, h4, h5, h6, h7⟩ := oq_parts hl h
 exact ⟨rfl, h5⟩
theorem ld_oq5 {us : List Value} {w : World} (hl : us.length = 14) (h : (Fq.odd7 n1 a1 k1 c1 xs1 n2 a2 k2 c2 xs2 n3 a3 k3 c3 xs3 n4 a4 k4 c4 xs4 n5 a5 k5 c5 xs5 n6 a6 k6 c6 xs6 n7 a7 k7 c7 xs7).P (.agg us.toArray) w) : (Fq.raw n6 a6 k6 c6 xs6).P (.agg #[us.getD 10 undef, us.getD (10 + 1) undef]) w := by
 obtain ⟨rfl, h1, h2, h3, h4, h5, h6, h7⟩ := oq_parts hl h
 exact ⟨rfl, h6⟩
theorem ld_oq6 {us : List Value} {w : World} (hl : us.length = 14) (h : (Fq.odd7 n1 a1 k1 c1 xs1 n2 a2 k2 c2 xs2 n3 a3 k3 c3 xs3 n4 a4 k4 c4 xs4 n5 a5 k5 c5 xs5 n6 a6 k6 c6 xs6 n7 a7 k7 c7 xs7).P (.agg us.toArray) w) : (Fq.raw n7 a7 k7 c7 xs7).P (.agg #[us.getD 12 undef, us.getD (12 + 1) undef]) w := by
 obtain ⟨rfl, h1, h2, h3, h4, h5, h6, h7⟩ := oq_parts hl h
 exact ⟨rfl, h7⟩
end
theorem row_algoristref08_Odd : rowB 28 14 = true := by kernel_rfl
section
variable {os : List Oper} {Q : Exit → Act → World → Prop} {a : Act} {p : Pq} {B B0 : Nat} {w0 : World}
variable {i s : Nat} {d : Option Tmp} {ty : TypeId} {ps : String} {af : Array Edge} {gd : Option (Nat × Bool)}
theorem q_loadWhole {o : Ob} {T : Nat} {x : Operand} (hp : p.Ok B B0) (hF : p.Free i) (hg : GdQ os a p B B0 w0 af gd) (ho : o ∈ p.old) (hk : o.F1 = o.F0 ∨ leadsB os 9 o.k i = true) (hT : rowB T o.m = true)
  (hx : SrcQ os a p B B0 w0 af x fun u _ => u = .pointer (some ⟨o.b, 0, none⟩)) (hC : ∀ (us : List Value) (w : World), us.length = o.m → o.F0.P (.agg us.toArray) w → (p.c i).P (.agg us.toArray) w) :
  StepQ os Q a p B B0 w0 i { dst := d, op := .load T x, type := ty, pos := ps, after := af, guard := gd } := by
 refine stq_val hp hF hg fun L vs w hG hL hc hd => ?_
 obtain ⟨us, hl, h0, hat, ht, hP⟩ := box_now ho hk hG hL hc
 have e := hx L vs w hG hd
 obtain ⟨⟨dd, hu, hd'⟩, hi⟩ := rowB_of hT
 refine ⟨.agg us.toArray, ?_, hC us w hl hP⟩
 have hr : w.rangeAt o.b 0 us := by
  intro j v hv
  have hj := (List.getElem?_eq_some_iff.1 hv).1
  rw [Nat.zero_add, (hat _ (by omega)).1, List.getD, hv]
  rfl
 have := run_loadVar_mid (P := Try.prog) w o.b 0 T _ dd hr hu hd' (by rw [hl]; exact hi)
 generalize (lay os.toArray L vs os.toArray.size a).eval = ρ at e
 simp only [execOp, e, Instr.loadAt, Instr.sureAddr, Sem.run_bind, Sem.run_pure, Result.andThen_ok, this]
end
set_option maxRecDepth 100000 in
set_option maxHeartbeats 4000000 in
theorem exQAny {w : World} {n1 n2 n3 n4 n5 n6 n7 : Bool} {a1 a2 a3 a4 a5 a6 a7 : Option Addr} {k1 c1 k2 c2 k3 c3 k4 c4 k5 c5 k6 c6 k7 c7 : Nat} {xs1 xs2 xs3 xs4 xs5 xs6 xs7 : List Int} (h1 : Sl w a1 k1 c1 xs1) (hk1 : k1 ≤ 9223372036854775807) (h2 : Sl w a2 k2 c2 xs2) (hk2 : k2 ≤ 9223372036854775807) (h3 : Sl w a3 k3 c3 xs3) (hk3 : k3 ≤ 9223372036854775807) (h4 : Sl w a4 k4 c4 xs4) (h5 : Sl w a5 k5 c5 xs5) (h6 : Sl w a6 k6 c6 xs6) (h7 : Sl w a7 k7 c7 xs7) :
  Calls Try.prog 10 #[.agg #[.bool n1, .slice a1 k1 c1, .bool n2, .slice a2 k2 c2, .bool n3, .slice a3 k3 c3, .bool n4, .slice a4 k4 c4, .bool n5, .slice a5 k5 c5, .bool n6, .slice a6 k6 c6, .bool n7, .slice a7 k7 c7]] w fun e w' => ∃ v', e = .returned v' ∧ Below w.heap.size w w' ∧ (Fq.st [.n (sgn n1 (val (xs1.take 2))), .n (sgn n2 (val (xs2.take 2))), .n (sgn n3 (val (xs3.take 2)))]).P v' w' := by
 obtain ⟨o1, eo1⟩ : ∃ z, z = sgn n1 (val (xs1.take 2)) := ⟨_, rfl⟩
 have Bo1 : Hid (ab o1 < pw 5) := by show _ < _; rw [eo1]; exact Int.lt_of_lt_of_le (Num.ofMade h1.digs) (pw_le (by omega))
 have Eo1 := hidd eo1
 have HK1 := hidd hk1
 obtain ⟨o2, eo2⟩ : ∃ z, z = sgn n2 (val (xs2.take 2)) := ⟨_, rfl⟩
 have Bo2 : Hid (ab o2 < pw 5) := by show _ < _; rw [eo2]; exact Int.lt_of_lt_of_le (Num.ofMade h2.digs) (pw_le (by omega))
 have Eo2 := hidd eo2
 have HK2 := hidd hk2
 obtain ⟨o3, eo3⟩ : ∃ z, z = sgn n3 (val (xs3.take 2)) := ⟨_, rfl⟩
 have Bo3 : Hid (ab o3 < pw 5) := by show _ < _; rw [eo3]; exact Int.lt_of_lt_of_le (Num.ofMade h3.digs) (pw_le (by omega))
 have Eo3 := hidd eo3
 have HK3 := hidd hk3
 clear eo1 eo2 eo3 hk1 hk2 hk3
 obtain ⟨w1, b1, hw1, hb1, hs1, E⟩ := fr_start w (F := Fq.odd7 n1 a1 k1 c1 xs1 n2 a2 k2 c2 xs2 n3 a3 k3 c3 xs3 n4 a4 k4 c4 xs4 n5 a5 k5 c5 xs5 n6 a6 k6 c6 xs6 n7 a7 k7 c7 xs7) (us := [.bool n1, .slice a1 k1 c1, .bool n2, .slice a2 k2 c2, .bool n3, .slice a3 k3 c3, .bool n4, .slice a4 k4 c4, .bool n5, .slice a5 k5 c5, .bool n6, .slice a6 k6 c6, .bool n7, .slice a7 k7 c7]) 28 rfl (by simp) (tame_odd7 _ _ _ _ _ _ _ _ _ _ _ _ _ _ _ _ _ _ _ _ _ _ _ _ _ _ _ _) (show (Fq.odd7 n1 a1 k1 c1 xs1 n2 a2 k2 c2 xs2 n3 a3 k3 c3 xs3 n4 a4 k4 c4 xs4 n5 a5 k5 c5 xs5 n6 a6 k6 c6 xs6 n7 a7 k7 c7 xs7).P _ w from ⟨rfl, h1, h2, h3, h4, h5, h6, h7⟩)
 obtain ⟨w2, b2, hw2, hb2, hs2, E⟩ := fr_more E hs1 (F := Fq.st [.n 0, .n 0, .n 0]) (us := [.bool false, .slice none 0 0, .bool false, .slice none 0 0, .bool false, .slice none 0 0]) 33 rfl (by simp) ((Fits.tame (fits0_api_Form w))) (fits0P_api_Form _)
 go_enter Try.func10, Try.ntmps10
 go_upto_region 1 with (fail)
 rw [← hw1]
 rw [← hw2]
 rw [← hb2]
 rw [← hb1]
 clear hw1 hw2 hb1 hb2 hs2 hs1
 refine region_fr (C := [Fq.is (.pointer (some ⟨b1, 0, none⟩)), Fq.is (.pointer (some ⟨b1, 0, none⟩)), Fq.raw n1 a1 k1 c1 xs1, Fq.num o1, Fq.is (.pointer (some ⟨b1, 0, none⟩)), Fq.is (.pointer (some ⟨b1, 2, none⟩)), Fq.raw n2 a2 k2 c2 xs2, Fq.num o2, Fq.is (.pointer (some ⟨b1, 0, none⟩)), Fq.is (.pointer (some ⟨b1, 4, none⟩)), Fq.raw n3 a3 k3 c3 xs3, Fq.num o3, Fq.st [.n o1, .n o2, .n o3], Fq.any]) (ks := [some (13, Fq.st [.n o1, .n o2, .n o3]), none]) (new := []) E rfl (by kernel_rfl) rfl rfl (fun hp => ⟨?_, ?_, ?_, ?_, ?_, ?_, ?_, ?_, ?_, ?_, ?_, ?_, ?_, ?_, trivial⟩) ?_
 ·exact q_addr (b := b1) (off := 0) (off' := 0) hp (free_of rfl) trivial (sqo 1) (fun ρ w h => by simp [execOp, go_sem, h]) (fun _ => rfl)
 ·exact q_one (F := fun v _ => v = .pointer (some ⟨b1, 0, none⟩)) hp (free_of rfl) trivial (sqi 0) (fun ρ w hc h => ⟨.pointer (some ⟨b1, 0, none⟩), by simp [execOp, go_sem, h, hc], rfl⟩)
 ·exact q_loadRaw (off := 0) hp (free_of rfl) trivial (mq 1 rfl) (.inl rfl) (Nat.le_of_ble_eq_true rfl) (sqi 1) (fun us w hl h => ld_oq0 hl h)
 ·exact q_call2 (F := (Fq.raw n1 a1 k1 c1 xs1).P) (G := (Fq.is (.int .i64 2)).P) hp (free_of rfl) trivial (enq_R_Made) (sqi 2) (sq_const (fun _ => rfl)) (fun v v' w h h' => (by rw [Eo1.out]; exact exRMade (j := 2) h h' HK1.out (by omega)))
 ·exact q_addr (b := b1) (off := 0) (off' := 0) hp (free_of rfl) trivial (sqo 1) (fun ρ w h => by simp [execOp, go_sem, h]) (fun _ => rfl)
 ·exact q_one (F := fun v _ => v = .pointer (some ⟨b1, 0, none⟩)) hp (free_of rfl) trivial (sqi 4) (fun ρ w hc h => ⟨.pointer (some ⟨b1, 2, none⟩), by simp [execOp, go_sem, h, hc], rfl⟩)
 ·exact q_loadRaw (off := 2) hp (free_of rfl) trivial (mq 1 rfl) (.inl rfl) (Nat.le_of_ble_eq_true rfl) (sqi 5) (fun us w hl h => ld_oq1 hl h)
 ·exact q_call2 (F := (Fq.raw n2 a2 k2 c2 xs2).P) (G := (Fq.is (.int .i64 2)).P) hp (free_of rfl) trivial (enq_R_Made) (sqi 6) (sq_const (fun _ => rfl)) (fun v v' w h h' => (by rw [Eo2.out]; exact exRMade (j := 2) h h' HK2.out (by omega)))
 ·exact q_addr (b := b1) (off := 0) (off' := 0) hp (free_of rfl) trivial (sqo 1) (fun ρ w h => by simp [execOp, go_sem, h]) (fun _ => rfl)
 ·exact q_one (F := fun v _ => v = .pointer (some ⟨b1, 0, none⟩)) hp (free_of rfl) trivial (sqi 8) (fun ρ w hc h => ⟨.pointer (some ⟨b1, 4, none⟩), by simp [execOp, go_sem, h, hc], rfl⟩)
 ·exact q_loadRaw (off := 4) hp (free_of rfl) trivial (mq 1 rfl) (.inl rfl) (Nat.le_of_ble_eq_true rfl) (sqi 9) (fun us w hl h => ld_oq2 hl h)
 ·exact q_call2 (F := (Fq.raw n3 a3 k3 c3 xs3).P) (G := (Fq.is (.int .i64 2)).P) hp (free_of rfl) trivial (enq_R_Made) (sqi 10) (sq_const (fun _ => rfl)) (fun v v' w h h' => (by rw [Eo3.out]; exact exRMade (j := 2) h h' HK3.out (by omega)))
 ·exact q_build_api_Form_012 (z0 := o1) (z1 := o2) (z2 := o3) hp (free_of rfl) trivial (sqi 3) (sqi 7) (sqi 11) (fun v w h => h)
 ·exact q_storeOldSt (off := 0) (fs := [.n 0, .n 0, .n 0]) (gs := [.n o1, .n o2, .n o3]) (fs' := [.n o1, .n o2, .n o3]) hp (mq 0 rfl) rfl rfl rfl size_api_Form rfl (sqo 2) (sq_in 12 rfl rfl (by simp) rfl (fun v w h => fitv_st h)) (fun _ _ => trivial) (newik_ne rfl)
 intro L vs w3 nb hL hC hn E3
 have e0 : vs 0 = .pointer (some ⟨b1, 0, none⟩) := hC 0 (by simp)
 have e1 : vs 1 = .pointer (some ⟨b1, 0, none⟩) := hC 1 (by simp)
 have e4 : vs 4 = .pointer (some ⟨b1, 0, none⟩) := hC 4 (by simp)
 have e5 : vs 5 = .pointer (some ⟨b1, 2, none⟩) := hC 5 (by simp)
 have e8 : vs 8 = .pointer (some ⟨b1, 0, none⟩) := hC 8 (by simp)
 have e9 : vs 9 = .pointer (some ⟨b1, 4, none⟩) := hC 9 (by simp)
 have E : Fr w [(b2, 6, Fq.st [.n o1, .n o2, .n o3]), (b1, 14, Fq.odd7 n1 a1 k1 c1 xs1 n2 a2 k2 c2 xs2 n3 a3 k3 c3 xs3 n4 a4 k4 c4 xs4 n5 a5 k5 c5 xs5 n6 a6 k6 c6 xs6 n7 a7 k7 c7 xs7)] w3 := E3
 rw [lay_all hL]
 simp only [putAll, dstOf, List.length_cons, List.length_nil, Nat.zero_add, Nat.reduceAdd, List.getElem?_toArray, List.getElem?_cons_zero, List.getElem?_cons_succ, Option.bind_some, Act.put, List.setIfInBounds_toArray, List.set_cons_succ, List.set_cons_zero]
 rw [e0, e1, e4, e5, e8, e9]
 generalize vs 2 = u3_2
 generalize vs 3 = u3_3
 generalize vs 6 = u3_6
 generalize vs 7 = u3_7
 generalize vs 10 = u3_10
 generalize vs 11 = u3_11
 generalize vs 12 = u3_12
 clear e0 e1 e4 e5 e8 e9 hC hn E3 hL vs L nb
 have eo1 := Eo1.out
 have eo2 := Eo2.out
 have eo3 := Eo3.out
 clear Eo1 Eo2 Eo3 HK1 HK2 HK3
 obtain ⟨_, _, hc0, hf0⟩ := box_st (E.box 0 rfl)
 have hP0 := hf0
 obtain ⟨r0_p0, r0_q0, _, rfl, _r0_n0, r0_p1, r0_q1, _, rfl, _r0_n1, r0_p2, r0_q2, _, rfl, _r0_n2, rfl⟩ := hf0
 have c0_0 := hc0 0 (by simp)
 have c0_1 := hc0 1 (by simp)
 have c0_2 := hc0 2 (by simp)
 have c0_3 := hc0 3 (by simp)
 have c0_4 := hc0 4 (by simp)
 have c0_5 := hc0 5 (by simp)
 simp only [List.getD_cons_zero, List.getD_cons_succ] at c0_0 c0_1 c0_2 c0_3 c0_4 c0_5
 clear hc0
 clear Bo1 Bo2 Bo3
 rw [eo1, eo2, eo3] at hP0
 go_wp2
 refine bodyPost_ret (v := .agg #[r0_p0, r0_q0, r0_p1, r0_q1, r0_p2, r0_q2]) ?_ rfl ⟨_, rfl, E.below, ⟨_, rfl, hP0⟩⟩
 simp [results, Try.results10, go_sem, c0_0, c0_1, c0_2, c0_3, c0_4, c0_5]

set_option maxRecDepth 100000 in
set_option maxHeartbeats 4000000 in
theorem exQAnyMat {w : World} {n1 n2 n3 n4 n5 n6 n7 : Bool} {a1 a2 a3 a4 a5 a6 a7 : Option Addr} {k1 c1 k2 c2 k3 c3 k4 c4 k5 c5 k6 c6 k7 c7 : Nat} {xs1 xs2 xs3 xs4 xs5 xs6 xs7 : List Int} (h1 : Sl w a1 k1 c1 xs1) (h2 : Sl w a2 k2 c2 xs2) (h3 : Sl w a3 k3 c3 xs3) (h4 : Sl w a4 k4 c4 xs4) (hk4 : k4 ≤ 9223372036854775807) (h5 : Sl w a5 k5 c5 xs5) (hk5 : k5 ≤ 9223372036854775807) (h6 : Sl w a6 k6 c6 xs6) (hk6 : k6 ≤ 9223372036854775807) (h7 : Sl w a7 k7 c7 xs7) (hk7 : k7 ≤ 9223372036854775807) :
  Calls Try.prog 11 #[.agg #[.bool n1, .slice a1 k1 c1, .bool n2, .slice a2 k2 c2, .bool n3, .slice a3 k3 c3, .bool n4, .slice a4 k4 c4, .bool n5, .slice a5 k5 c5, .bool n6, .slice a6 k6 c6, .bool n7, .slice a7 k7 c7]] w fun e w' => ∃ v', e = .returned v' ∧ Below w.heap.size w w' ∧ (Fq.st [.n (sgn n4 (val (xs4.take 2))), .n (sgn n5 (val (xs5.take 2))), .n (sgn n6 (val (xs6.take 2))), .n (sgn n7 (val (xs7.take 2)))]).P v' w' := by
 obtain ⟨o4, eo4⟩ : ∃ z, z = sgn n4 (val (xs4.take 2)) := ⟨_, rfl⟩
 have Bo4 : Hid (ab o4 < pw 5) := by show _ < _; rw [eo4]; exact Int.lt_of_lt_of_le (Num.ofMade h4.digs) (pw_le (by omega))
 have Eo4 := hidd eo4
 have HK4 := hidd hk4
 obtain ⟨o5, eo5⟩ : ∃ z, z = sgn n5 (val (xs5.take 2)) := ⟨_, rfl⟩
 have Bo5 : Hid (ab o5 < pw 5) := by show _ < _; rw [eo5]; exact Int.lt_of_lt_of_le (Num.ofMade h5.digs) (pw_le (by omega))
 have Eo5 := hidd eo5
 have HK5 := hidd hk5
 obtain ⟨o6, eo6⟩ : ∃ z, z = sgn n6 (val (xs6.take 2)) := ⟨_, rfl⟩
 have Bo6 : Hid (ab o6 < pw 5) := by show _ < _; rw [eo6]; exact Int.lt_of_lt_of_le (Num.ofMade h6.digs) (pw_le (by omega))
 have Eo6 := hidd eo6
 have HK6 := hidd hk6
 obtain ⟨o7, eo7⟩ : ∃ z, z = sgn n7 (val (xs7.take 2)) := ⟨_, rfl⟩
 have Bo7 : Hid (ab o7 < pw 5) := by show _ < _; rw [eo7]; exact Int.lt_of_lt_of_le (Num.ofMade h7.digs) (pw_le (by omega))
 have Eo7 := hidd eo7
 have HK7 := hidd hk7
 clear eo4 eo5 eo6 eo7 hk4 hk5 hk6 hk7
 obtain ⟨w1, b1, hw1, hb1, hs1, E⟩ := fr_start w (F := Fq.odd7 n1 a1 k1 c1 xs1 n2 a2 k2 c2 xs2 n3 a3 k3 c3 xs3 n4 a4 k4 c4 xs4 n5 a5 k5 c5 xs5 n6 a6 k6 c6 xs6 n7 a7 k7 c7 xs7) (us := [.bool n1, .slice a1 k1 c1, .bool n2, .slice a2 k2 c2, .bool n3, .slice a3 k3 c3, .bool n4, .slice a4 k4 c4, .bool n5, .slice a5 k5 c5, .bool n6, .slice a6 k6 c6, .bool n7, .slice a7 k7 c7]) 28 rfl (by simp) (tame_odd7 _ _ _ _ _ _ _ _ _ _ _ _ _ _ _ _ _ _ _ _ _ _ _ _ _ _ _ _) (show (Fq.odd7 n1 a1 k1 c1 xs1 n2 a2 k2 c2 xs2 n3 a3 k3 c3 xs3 n4 a4 k4 c4 xs4 n5 a5 k5 c5 xs5 n6 a6 k6 c6 xs6 n7 a7 k7 c7 xs7).P _ w from ⟨rfl, h1, h2, h3, h4, h5, h6, h7⟩)
 obtain ⟨w2, b2, hw2, hb2, hs2, E⟩ := fr_more E hs1 (F := Fq.st [.n 0, .n 0, .n 0, .n 0]) (us := [.bool false, .slice none 0 0, .bool false, .slice none 0 0, .bool false, .slice none 0 0, .bool false, .slice none 0 0]) 36 rfl (by simp) ((Fits.tame (fits0_api_Mat w))) (fits0P_api_Mat _)
 go_enter Try.func11, Try.ntmps11
 go_upto_region 1 with (fail)
 rw [← hw1]
 rw [← hw2]
 rw [← hb2]
 rw [← hb1]
 clear hw1 hw2 hb1 hb2 hs2 hs1
 refine region_fr (C := [Fq.is (.pointer (some ⟨b1, 6, none⟩)), Fq.is (.pointer (some ⟨b1, 6, none⟩)), Fq.raw n4 a4 k4 c4 xs4, Fq.num o4, Fq.is (.pointer (some ⟨b1, 6, none⟩)), Fq.is (.pointer (some ⟨b1, 8, none⟩)), Fq.raw n5 a5 k5 c5 xs5, Fq.num o5, Fq.is (.pointer (some ⟨b1, 6, none⟩)), Fq.is (.pointer (some ⟨b1, 10, none⟩)), Fq.raw n6 a6 k6 c6 xs6, Fq.num o6, Fq.is (.pointer (some ⟨b1, 6, none⟩)), Fq.is (.pointer (some ⟨b1, 12, none⟩)), Fq.raw n7 a7 k7 c7 xs7, Fq.num o7, Fq.st [.n o4, .n o5, .n o6, .n o7], Fq.any]) (ks := [some (17, Fq.st [.n o4, .n o5, .n o6, .n o7]), none]) (new := []) E rfl (by kernel_rfl) rfl rfl (fun hp => ⟨?_, ?_, ?_, ?_, ?_, ?_, ?_, ?_, ?_, ?_, ?_, ?_, ?_, ?_, ?_, ?_, ?_, ?_, trivial⟩) ?_
 ·exact q_addr (b := b1) (off := 0) (off' := 6) hp (free_of rfl) trivial (sqo 1) (fun ρ w h => by simp [execOp, go_sem, h]) (fun _ => rfl)
 ·exact q_one (F := fun v _ => v = .pointer (some ⟨b1, 6, none⟩)) hp (free_of rfl) trivial (sqi 0) (fun ρ w hc h => ⟨.pointer (some ⟨b1, 6, none⟩), by simp [execOp, go_sem, h, hc], rfl⟩)
 ·exact q_loadRaw (off := 6) hp (free_of rfl) trivial (mq 1 rfl) (.inl rfl) (Nat.le_of_ble_eq_true rfl) (sqi 1) (fun us w hl h => ld_oq3 hl h)
 ·exact q_call2 (F := (Fq.raw n4 a4 k4 c4 xs4).P) (G := (Fq.is (.int .i64 2)).P) hp (free_of rfl) trivial (enq_R_Made) (sqi 2) (sq_const (fun _ => rfl)) (fun v v' w h h' => (by rw [Eo4.out]; exact exRMade (j := 2) h h' HK4.out (by omega)))
 ·exact q_addr (b := b1) (off := 0) (off' := 6) hp (free_of rfl) trivial (sqo 1) (fun ρ w h => by simp [execOp, go_sem, h]) (fun _ => rfl)
 ·exact q_one (F := fun v _ => v = .pointer (some ⟨b1, 6, none⟩)) hp (free_of rfl) trivial (sqi 4) (fun ρ w hc h => ⟨.pointer (some ⟨b1, 8, none⟩), by simp [execOp, go_sem, h, hc], rfl⟩)
 ·exact q_loadRaw (off := 8) hp (free_of rfl) trivial (mq 1 rfl) (.inl rfl) (Nat.le_of_ble_eq_true rfl) (sqi 5) (fun us w hl h => ld_oq4 hl h)
 ·exact q_call2 (F := (Fq.raw n5 a5 k5 c5 xs5).P) (G := (Fq.is (.int .i64 2)).P) hp (free_of rfl) trivial (enq_R_Made) (sqi 6) (sq_const (fun _ => rfl)) (fun v v' w h h' => (by rw [Eo5.out]; exact exRMade (j := 2) h h' HK5.out (by omega)))
 ·exact q_addr (b := b1) (off := 0) (off' := 6) hp (free_of rfl) trivial (sqo 1) (fun ρ w h => by simp [execOp, go_sem, h]) (fun _ => rfl)
 ·exact q_one (F := fun v _ => v = .pointer (some ⟨b1, 6, none⟩)) hp (free_of rfl) trivial (sqi 8) (fun ρ w hc h => ⟨.pointer (some ⟨b1, 10, none⟩), by simp [execOp, go_sem, h, hc], rfl⟩)
 ·exact q_loadRaw (off := 10) hp (free_of rfl) trivial (mq 1 rfl) (.inl rfl) (Nat.le_of_ble_eq_true rfl) (sqi 9) (fun us w hl h => ld_oq5 hl h)
 ·exact q_call2 (F := (Fq.raw n6 a6 k6 c6 xs6).P) (G := (Fq.is (.int .i64 2)).P) hp (free_of rfl) trivial (enq_R_Made) (sqi 10) (sq_const (fun _ => rfl)) (fun v v' w h h' => (by rw [Eo6.out]; exact exRMade (j := 2) h h' HK6.out (by omega)))
 ·exact q_addr (b := b1) (off := 0) (off' := 6) hp (free_of rfl) trivial (sqo 1) (fun ρ w h => by simp [execOp, go_sem, h]) (fun _ => rfl)
 ·exact q_one (F := fun v _ => v = .pointer (some ⟨b1, 6, none⟩)) hp (free_of rfl) trivial (sqi 12) (fun ρ w hc h => ⟨.pointer (some ⟨b1, 12, none⟩), by simp [execOp, go_sem, h, hc], rfl⟩)
 ·exact q_loadRaw (off := 12) hp (free_of rfl) trivial (mq 1 rfl) (.inl rfl) (Nat.le_of_ble_eq_true rfl) (sqi 13) (fun us w hl h => ld_oq6 hl h)
 ·exact q_call2 (F := (Fq.raw n7 a7 k7 c7 xs7).P) (G := (Fq.is (.int .i64 2)).P) hp (free_of rfl) trivial (enq_R_Made) (sqi 14) (sq_const (fun _ => rfl)) (fun v v' w h h' => (by rw [Eo7.out]; exact exRMade (j := 2) h h' HK7.out (by omega)))
 ·exact q_build_api_Mat_0123 (z0 := o4) (z1 := o5) (z2 := o6) (z3 := o7) hp (free_of rfl) trivial (sqi 3) (sqi 7) (sqi 11) (sqi 15) (fun v w h => h)
 ·exact q_storeOldSt (off := 0) (fs := [.n 0, .n 0, .n 0, .n 0]) (gs := [.n o4, .n o5, .n o6, .n o7]) (fs' := [.n o4, .n o5, .n o6, .n o7]) hp (mq 0 rfl) rfl rfl rfl size_api_Mat rfl (sqo 2) (sq_in 16 rfl rfl (by simp) rfl (fun v w h => fitv_st h)) (fun _ _ => trivial) (newik_ne rfl)
 intro L vs w3 nb hL hC hn E3
 have e0 : vs 0 = .pointer (some ⟨b1, 6, none⟩) := hC 0 (by simp)
 have e1 : vs 1 = .pointer (some ⟨b1, 6, none⟩) := hC 1 (by simp)
 have e4 : vs 4 = .pointer (some ⟨b1, 6, none⟩) := hC 4 (by simp)
 have e5 : vs 5 = .pointer (some ⟨b1, 8, none⟩) := hC 5 (by simp)
 have e8 : vs 8 = .pointer (some ⟨b1, 6, none⟩) := hC 8 (by simp)
 have e9 : vs 9 = .pointer (some ⟨b1, 10, none⟩) := hC 9 (by simp)
 have e12 : vs 12 = .pointer (some ⟨b1, 6, none⟩) := hC 12 (by simp)
 have e13 : vs 13 = .pointer (some ⟨b1, 12, none⟩) := hC 13 (by simp)
 have E : Fr w [(b2, 8, Fq.st [.n o4, .n o5, .n o6, .n o7]), (b1, 14, Fq.odd7 n1 a1 k1 c1 xs1 n2 a2 k2 c2 xs2 n3 a3 k3 c3 xs3 n4 a4 k4 c4 xs4 n5 a5 k5 c5 xs5 n6 a6 k6 c6 xs6 n7 a7 k7 c7 xs7)] w3 := E3
 rw [lay_all hL]
 simp only [putAll, dstOf, List.length_cons, List.length_nil, Nat.zero_add, Nat.reduceAdd, List.getElem?_toArray, List.getElem?_cons_zero, List.getElem?_cons_succ, Option.bind_some, Act.put, List.setIfInBounds_toArray, List.set_cons_succ, List.set_cons_zero]
 rw [e0, e1, e4, e5, e8, e9, e12, e13]
 generalize vs 2 = u3_2
 generalize vs 3 = u3_3
 generalize vs 6 = u3_6
 generalize vs 7 = u3_7
 generalize vs 10 = u3_10
 generalize vs 11 = u3_11
 generalize vs 14 = u3_14
 generalize vs 15 = u3_15
 generalize vs 16 = u3_16
 clear e0 e1 e4 e5 e8 e9 e12 e13 hC hn E3 hL vs L nb
 have eo4 := Eo4.out
 have eo5 := Eo5.out
 have eo6 := Eo6.out
 have eo7 := Eo7.out
 clear Eo4 Eo5 Eo6 Eo7 HK4 HK5 HK6 HK7
 obtain ⟨_, _, hc0, hf0⟩ := box_st (E.box 0 rfl)
 have hP0 := hf0
 obtain ⟨r0_p0, r0_q0, _, rfl, _r0_n0, r0_p1, r0_q1, _, rfl, _r0_n1, r0_p2, r0_q2, _, rfl, _r0_n2, r0_p3, r0_q3, _, rfl, _r0_n3, rfl⟩ := hf0
 have c0_0 := hc0 0 (by simp)
 have c0_1 := hc0 1 (by simp)
 have c0_2 := hc0 2 (by simp)
 have c0_3 := hc0 3 (by simp)
 have c0_4 := hc0 4 (by simp)
 have c0_5 := hc0 5 (by simp)
 have c0_6 := hc0 6 (by simp)
 have c0_7 := hc0 7 (by simp)
 simp only [List.getD_cons_zero, List.getD_cons_succ] at c0_0 c0_1 c0_2 c0_3 c0_4 c0_5 c0_6 c0_7
 clear hc0
 clear Bo4 Bo5 Bo6 Bo7
 rw [eo4, eo5, eo6, eo7] at hP0
 go_wp2
 refine bodyPost_ret (v := .agg #[r0_p0, r0_q0, r0_p1, r0_q1, r0_p2, r0_q2, r0_p3, r0_q3]) ?_ rfl ⟨_, rfl, E.below, ⟨_, rfl, hP0⟩⟩
 simp [results, Try.results11, go_sem, c0_0, c0_1, c0_2, c0_3, c0_4, c0_5, c0_6, c0_7]

end Go.Proofs.Ytdhkhedhnolcjaa
