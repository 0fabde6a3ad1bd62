/- Rc, Rh, Rk, Yc, Ye, Yf, Pa, Yg, Yh, Yi, Yj, Yr, Ma, Nt, Mb, Mc, Rm, Me, Mg, Mh, Mi, Mj, Mk, Pm, Pn, Pd, Pe. -/
import Derived.Test.YthgpcgijhmgenaaDoorBp1
import Derived.BigRegion
import Derived.Laws.RangeAny
import Derived.Lib.OthersKept
import Derived.Laws.RangeString
import Derived.BigQuiet
import Derived.Laws.StandIn
import Derived.Laws.EntriesVeiled
import Derived.Shelf.Spec.TrailingZeros
import Derived.Shelf.Bits.Mul64
import Derived.Lib.BitFns
import Derived.Lib.Walk
import Derived.Lib.Small
/- Walks of the reference: Neg, Abs, Sign, Cmp. Walks of the reference: word, plus, minus. Walks of the reference: Bits, left. Walks of the reference: reaches, take, half. -/
namespace Go.Proofs.YthgpcgijhmgenaaDoor
open Go Go.RowKit

/-- A canonical number's sign and size. -/
theorem Num.sign {w : World} {n : Bool} {ao : Option Addr} {k c : Nat} {z : Int} (h : Num w (.agg #[.bool n, .slice ao k c]) z) : ∃ xs, Sl w ao k c xs ∧ Canon xs ∧ k ≤ 900000 ∧ z = sgn n (val xs) ∧ 0 ≤ val xs ∧ (k = 0 ↔ z = 0) ∧ (n = true → z < 0) ∧ (n = false → 0 ≤ z) := by
  obtain ⟨neg, ao', k', c', xs, hv, hs, hn, hz, hc, hnn⟩ := h
  obtain ⟨rfl, rfl, rfl, rfl⟩ : n = neg ∧ ao = ao' ∧ k = k' ∧ c = c' := by
    simp at hv; exact ⟨hv.1, hv.2.1, hv.2.2.1, hv.2.2.2⟩
  have h0 := val_nonneg hs.digs
  have h1 := hc.zero
  rw [hs.len] at h1
  refine ⟨xs, hs, hc, hn, hz, h0, ?_, ?_, ?_⟩
  · rw [h1, hz]; cases n <;> simp [sgn]
  · rintro rfl
    have h2 : val xs ≠ 0 := fun h => hnn rfl (h1.2 h)
    rw [hz]; simp [sgn]; omega
  · rintro rfl
    rw [hz]; simp [sgn]; exact h0

set_option maxRecDepth 20000 in
set_option maxHeartbeats 1000000 in
theorem RCmpV {w : World} {v v' : Value} {z z' : Int} (h : Num w v z) (h' : Num w v' z') : Calls Tryd.prog 22 #[v, v'] w fun e w' => e = .returned (.int .i64 (cmpI z z')) ∧ Below w.heap.size w w' := by
  obtain ⟨n, ao, k, c, rfl⟩ := h.parts
  obtain ⟨n', ao', k', c', rfl⟩ := h'.parts
  obtain ⟨xs, hs, hc, hk, hz, h0, hkz, hneg, hpos⟩ := h.sign
  obtain ⟨ys, hs', hc', hk', hz', h0', hkz', hneg', hpos'⟩ := h'.sign
  obtain ⟨w0, hw0, hbl, hsz⟩ : ∃ w0, w0 = (w.alloc (.cells #[.bool n, .slice ao k c] 27)).alloc (.cells #[.bool n', .slice ao' k' c'] 27) ∧ Below w.heap.size w w0 ∧ w0.heap.size = w.heap.size + 2 :=
    ⟨_, rfl, (alloc_below _ _).trans ((alloc_below _ _).mono (by simp)), by simp⟩
  have hX := hs.mono hbl
  have hY := hs'.mono hbl
  cases n <;> cases n'
  · have HV : Hid (cmpI (val xs) (val ys) = cmpI z z') := by
      show _ = _
      rw [hz, hz']; rfl
    clear hkz hneg hpos hz h hkz' hneg' hpos' hz' h'
    go_enter Tryd.func22, Tryd.ntmps22
    go_wp2_with fail
    rw [← hw0]
    clear hw0
    refine (size_any _ _ _ _ _ _ _ _ _ hX hY hc hc' (by omega) (by omega)).mono ?_
    rintro e w2 ⟨rfl, hd⟩
    go_wp2
    go_ret
    exact ⟨by rw [HV.out]; rfl, hbl.trans (hd.below _)⟩
  · have HV : Hid (cmpI z z' = 1) := by
      have h1 := hpos rfl
      have h2 := hneg' rfl
      show _ = _
      unfold cmpI; rw [if_neg (by omega), if_neg (by omega)]
    clear hkz hneg hpos hz h hkz' hneg' hpos' hz' h'
    go_enter Tryd.func22, Tryd.ntmps22
    go_wp2
    rw [← hw0]
    go_ret
    exact ⟨by rw [HV.out]; rfl, hbl⟩
  · have HV : Hid (cmpI z z' = -1) := by
      have h1 := hneg rfl
      have h2 := hpos' rfl
      show _ = _
      unfold cmpI; rw [if_pos (by omega)]
    clear hkz hneg hpos hz h hkz' hneg' hpos' hz' h'
    go_enter Tryd.func22, Tryd.ntmps22
    go_wp2
    rw [← hw0]
    go_ret
    exact ⟨by rw [HV.out]; rfl, hbl⟩
  · have HV : Hid (cmpI (val ys) (val xs) = cmpI z z') := by
      show _ = _
      rw [hz, hz']
      simp only [sgn, if_true]
      unfold cmpI
      split <;> split <;> (try split) <;> omega
    clear hkz hneg hpos hz h hkz' hneg' hpos' hz' h'
    go_enter Tryd.func22, Tryd.ntmps22
    go_wp2_with fail
    rw [← hw0]
    clear hw0
    refine (size_any _ _ _ _ _ _ _ _ _ hY hX hc' hc (by omega) (by omega)).mono ?_
    rintro e w2 ⟨rfl, hd⟩
    go_wp2
    go_ret
    exact ⟨by rw [HV.out]; rfl, hbl.trans (hd.below _)⟩

end Go.Proofs.YthgpcgijhmgenaaDoor

namespace Go.Proofs.YthgpcgijhmgenaaDoor
open Go Go.RowKit

/-- Words that a call has gathered in a row of its own. -/
def Ow (W : World) (B : Nat) (v : Value) (zs : List Int) : Prop := W.ownsRow B 41 1 v zs.length (zs.map (Value.int .u32)) ∧ Digs zs

theorem Ow.shape {W : World} {B : Nat} {v : Value} {zs : List Int} (h : Ow W B v zs) : ∃ ao cap, v = .slice ao zs.length cap := by
  rcases h.1.2 with ⟨rfl, h0⟩ | ⟨g, cap, cur, rfl, _⟩
  · exact ⟨none, 0, by rw [h0]⟩
  · exact ⟨_, _, rfl⟩

theorem Ow.start (w : World) : Ow (w.alloc (.cells #[] 41)) w.heap.size (.slice (some ⟨w.heap.size, 0, none⟩) 0 0) [] :=
  ⟨⟨rfl, .inr ⟨w.heap.size, 0, #[], rfl, Nat.le_refl _, heap_alloc_new _ _, Nat.le_refl _, Nat.zero_le _, rfl, rfl⟩⟩, fun _ h => by simp at h⟩

theorem Ow.sl {W : World} {B : Nat} {v : Value} {zs : List Int} (h : Ow W B v zs) : ∃ ao c, v = .slice ao zs.length c ∧ Sl W ao zs.length c zs := own_sl h.1 h.2

theorem Ow.step {w wr w1 : World} {v v' : Value} {zs : List Int} {d : Int} {o : Obj} (h : Ow wr w.heap.size v zs) (hnx : Below w.heap.size w wr) (hd0 : 0 ≤ d) (hd1 : d < 4294967296)
    (hown' : w1.ownsRow w.heap.size 41 1 v' (zs.length + 1) (zs.map (Value.int .u32) ++ [.int .u32 d])) (hgrow : (wr.alloc o).grownBy w1 v.ownBlock) :
    Ow w1 w.heap.size v' (zs ++ [d]) ∧ Below w.heap.size w w1 := by
  refine ⟨⟨by simpa using hown', fun y hy => ?_⟩, ?_⟩
  · rcases List.mem_append.1 hy with h1 | h1
    · exact h.2 y h1
    · simp at h1; subst h1; exact ⟨hd0, hd1⟩
  · have hs := hnx.size
    exact (hnx.alloc hs o).grown hgrow (by simp; omega) (fun j hj => (World.ownsRow.lt h.1 j hj).1)

end Go.Proofs.YthgpcgijhmgenaaDoor

namespace Go.Proofs.YthgpcgijhmgenaaDoor
open Go Go.RowKit

/-- Block b is a row of the call's own whose first n cells are these words. -/
def Mine (w : World) (b n : Nat) (zs : List Int) : Prop :=
  ∃ cur : Array Value, w.heap[b]? = some (.cells cur 41 (0, 0)) ∧ zs.length = n ∧ Digs zs ∧ n ≤ cur.size ∧ ∀ j, j < n → cur[j]? = some (.int .u32 (zs.getD j 0))

theorem Mine.lt {w : World} {b n : Nat} {zs : List Int} (h : Mine w b n zs) : b < w.heap.size := by
  obtain ⟨cur, h1, _⟩ := h
  exact (Array.getElem?_eq_some_iff.1 h1).1
theorem Mine.len {w : World} {b n : Nat} {zs : List Int} (h : Mine w b n zs) : zs.length = n := by
  obtain ⟨cur, _, h1, _⟩ := h
  exact h1
theorem Mine.digs {w : World} {b n : Nat} {zs : List Int} (h : Mine w b n zs) : Digs zs := by
  obtain ⟨cur, _, _, h1, _⟩ := h
  exact h1
theorem Mine.cell {w : World} {b n : Nat} {zs : List Int} (h : Mine w b n zs) {j : Nat} (hj : j < n) : w.cell? ⟨b, j, none⟩ = some (.int .u32 (zs.getD j 0)) := by
  obtain ⟨cur, h1, h2, h3, h4, h5⟩ := h
  rw [cell_of_row w b j _ _ (0, 0) h1]
  exact h5 j hj
theorem Mine.frozen {w : World} {b n : Nat} {zs : List Int} (h : Mine w b n zs) (j : Nat) : w.frozen? ⟨b, j, none⟩ = false := by
  obtain ⟨cur, h1, _⟩ := h
  simp [World.frozen?, h1]
theorem Mine.mono {w w' : World} {b n : Nat} {zs : List Int} (h : Mine w b n zs) {B : Nat} (hb : Below B w w') (hB : b < B) : Mine w' b n zs := by
  obtain ⟨cur, h1, h2⟩ := h
  exact ⟨cur, by rw [hb.block b hB]; exact h1, h2⟩
theorem Mine.drewN {w : World} {b n : Nat} {zs : List Int} (h : Mine w b n zs) (d : Nat) : Mine (w.drewN d) b n zs := h
theorem Mine.set {w : World} {b n : Nat} {zs : List Int} (h : Mine w b n zs) {j : Nat} (hj : j < n) {x : Int} (hx0 : 0 ≤ x) (hx1 : x < 4294967296) : Mine (w.setCell ⟨b, j, none⟩ (.int .u32 x)) b n (zs.set j x) := by
  obtain ⟨cur, h1, h2, h3, h4, h5⟩ := h
  refine ⟨cur.setIfInBounds j (.int .u32 x), ?_, by rw [List.length_set]; exact h2, h3.set j ⟨hx0, hx1⟩, by simpa using h4, fun k hk => ?_⟩
  · simp only [World.setCell, Array.getElem?_modify, if_true, h1, Option.map_some, Option.isSome_none]
    simp
  · by_cases hjk : j = k
    · subst hjk
      rw [getD_set _ _ _ (by omega), Array.getElem?_setIfInBounds_self_of_lt (by omega)]
    · rw [getD_set_ne _ _ _ _ hjk]
      rw [Array.getElem?_setIfInBounds_ne hjk]
      exact h5 k hk
theorem Mine.sl {w : World} {b n : Nat} {zs : List Int} (h : Mine w b n zs) {c : Nat} (hc : n ≤ c) : Sl w (some ⟨b, 0, none⟩) n c zs :=
  ⟨h.len, hc, h.digs, .inr ⟨b, 0, rfl, h.lt, fun j hj => by rw [Nat.zero_add]; exact h.cell (by have := h.len; omega)⟩⟩
theorem Mine.other {w : World} {b n : Nat} {zs : List Int} (h : Mine w b n zs) {w' : World} {b' : Nat} (hg : w.grownBy w' (some b')) (hne : b ≠ b') : Mine w' b n zs := by
  have hl := h.lt
  obtain ⟨cur, h1, h2⟩ := h
  exact ⟨cur, by rw [hg.block b hl (by simpa using hne)]; exact h1, h2⟩
theorem add_mod {T cc P : Int} (h1 : T % 4294967296 % P = 0) (h2 : (4294967296 : Int) % P = 0) (_ : 0 < P) (hc0 : 0 ≤ cc) (hc : cc < P) : (T + cc) % 4294967296 = T % 4294967296 + cc := by
  have h4 : (4294967296 - T % 4294967296) % P = 0 := by rw [Int.sub_emod, h1, h2]; simp
  have h5 : 0 < 4294967296 - T % 4294967296 := by omega
  have h6 := Int.le_of_dvd h5 (Int.dvd_of_emod_eq_zero h4)
  omega

end Go.Proofs.YthgpcgijhmgenaaDoor

namespace Go.Proofs.YthgpcgijhmgenaaDoor
open Go Go.RowKit

theorem Sl.other {w w' : World} {ay : Option Addr} {m cy b : Nat} {ys : List Int} (h : Sl w ay m cy ys) (hg : w.grownBy w' (some b)) (hne : ∀ b' o, ay = some ⟨b', o, none⟩ → b' ≠ b) : Sl w' ay m cy ys := by
  refine ⟨h.len, h.cap, h.digs, ?_⟩
  rcases h.cells.2 with h1 | ⟨b', off, h1, h2, h3⟩
  · exact .inl h1
  · refine .inr ⟨b', off, h1, Nat.lt_of_lt_of_le h2 hg.size, fun j hj => ?_⟩
    have := hg.block b' h2 (by simpa using hne b' off h1)
    have h4 := h3 j hj
    unfold World.cell? at h4 ⊢
    rw [this]
    exact h4

end Go.Proofs.YthgpcgijhmgenaaDoor

/- Walks of the reference: Add, Sub, Mul. Walks of the reference: divide. Walks of the reference: divide of long sizes. -/
namespace Go.Proofs.YthgpcgijhmgenaaDoor
open Go Go.RowKit

end Go.Proofs.YthgpcgijhmgenaaDoor

namespace Go.Proofs.YthgpcgijhmgenaaDoor
open Go Go.RowKit

end Go.Proofs.YthgpcgijhmgenaaDoor

namespace Go.Proofs.YthgpcgijhmgenaaDoor
open Go Go.RowKit

end Go.Proofs.YthgpcgijhmgenaaDoor

/- Walks of the reference: DivMod, Div, Mod. Walk of the reference: Bezout. -/
namespace Go.Proofs.YthgpcgijhmgenaaDoor
open Go Go.RowKit

theorem ab_sgn (b : Bool) (v : Int) : ab (sgn b v) = ab v := by unfold ab; cases b <;> simp [sgn]

end Go.Proofs.YthgpcgijhmgenaaDoor

namespace Go.Proofs.YthgpcgijhmgenaaDoor
open Go Go.RowKit

end Go.Proofs.YthgpcgijhmgenaaDoor

/- What the walks of stage 2 share: entering a function, contracts in the form that a region wants. -/
namespace Go.Proofs.YthgpcgijhmgenaaDoor
open Go Go.RowKit

theorem enq_Add (args : Array Value) (w : World) : (callFunc 51 args).run Tryd.prog w = .ok (.enter 51 args) w := enter_of Tryd.func51 (by kernel_rfl) rfl args w
theorem enq_Cmp (args : Array Value) (w : World) : (callFunc 37 args).run Tryd.prog w = .ok (.enter 37 args) w := enter_of Tryd.func37 (by kernel_rfl) rfl args w
theorem enq_Sign (args : Array Value) (w : World) : (callFunc 30 args).run Tryd.prog w = .ok (.enter 30 args) w := enter_of Tryd.func30 (by kernel_rfl) rfl args w
theorem enq_Of (args : Array Value) (w : World) : (callFunc 38 args).run Tryd.prog w = .ok (.enter 38 args) w := enter_of Tryd.func38 (by kernel_rfl) rfl args w
theorem enq_R_Made (args : Array Value) (w : World) : (callFunc 28 args).run Tryd.prog w = .ok (.enter 28 args) w := enter_of Tryd.func28 (by kernel_rfl) rfl args w
theorem enq_R_Same (args : Array Value) (w : World) : (callFunc 23 args).run Tryd.prog w = .ok (.enter 23 args) w := enter_of Tryd.func23 (by kernel_rfl) rfl args w
theorem enq_R_Of (args : Array Value) (w : World) : (callFunc 18 args).run Tryd.prog w = .ok (.enter 18 args) w := enter_of Tryd.func18 (by kernel_rfl) rfl args w
theorem enq_R_Cmp (args : Array Value) (w : World) : (callFunc 22 args).run Tryd.prog w = .ok (.enter 22 args) w := enter_of Tryd.func22 (by kernel_rfl) rfl args w
theorem cmpIqgt {x y : Int} : 0 < cmpI x y ↔ y < x := by
  unfold cmpI
  split
  · rename_i h; exact ⟨fun h2 => by omega, fun h2 => by omega⟩
  · split
    · rename_i h; exact ⟨fun h2 => by omega, fun h2 => by omega⟩
    · rename_i h1 h; exact ⟨fun _ => by omega, fun _ => by decide⟩

theorem ab_lit {c : Int} (h : ab c < 4294967296 * 4294967296 * 4294967296) : ab c < pw 3 := h

theorem OfK (w : World) (z : Int) (h0 : -9223372036854775808 ≤ z) (h1 : z ≤ 9223372036854775807) : Calls Tryd.prog 38 #[.int .i64 z] w fun e w' => ∃ v', e = .returned v' ∧ Below w.heap.size w w' ∧ Num w' v' z := OfV w z h0 h1
theorem rOfK (w : World) (z : Int) (h0 : -9223372036854775808 ≤ z) (h1 : z ≤ 9223372036854775807) : Calls Tryd.prog 18 #[.int .i64 z] w fun e w' => ∃ v', e = .returned v' ∧ Below w.heap.size w w' ∧ Num w' v' z := rOfV w z h0 h1

end Go.Proofs.YthgpcgijhmgenaaDoor

/- Walks: package rational and its reference, on fractions. -/
namespace Go.Proofs.YthgpcgijhmgenaaDoor
open Go Go.RowKit

theorem Fr.drop {w0 W : World} {x : Nat × Nat × Fq} {bs : List (Nat × Nat × Fq)} (h : Fr w0 (x :: bs) W) : Fr w0 bs W :=
  ⟨h.below, fun y hy => h.boxes y (List.mem_cons_of_mem _ hy), by have := h.apart; rw [List.map_cons, List.nodup_cons] at this; exact this.2⟩

theorem exRSame {w : World} {v v' : Value} {a b : Int} (h : Num w v a) (h' : Num w v' b) : Calls Tryd.prog 23 #[v, v'] w fun e w' => ∃ v', e = .returned v' ∧ Below w.heap.size w w' ∧ v' = .bool (decide (a = b)) :=
  (SameV h h').mono fun _ _ hh => ⟨_, hh.1, hh.2, rfl⟩

end Go.Proofs.YthgpcgijhmgenaaDoor

/- Walks: the reference's Gcd; its package of fractions. -/
namespace Go.Proofs.YthgpcgijhmgenaaDoor
open Go Go.RowKit

/-- A sign and words. -/
def Fq.raw (n : Bool) (a : Option Addr) (k c : Nat) (xs : List Int) : Fq := ⟨fun v w => v = .agg #[.bool n, .slice a k c] ∧ Sl w a k c xs, fun h hb => ⟨h.1, h.2.mono hb⟩, fun h ha ht hl => ⟨h.1, h.2.putAt ha ht hl⟩⟩
section
variable {n n' : Bool} {a a' : Option Addr} {k c k' c' : Nat} {xs xs' : List Int}
theorem ld_raw {us : List Value} {w : World} (hl : us.length = 2) (h : (Fq.raw n a k c xs).P (.agg us.toArray) w) : (Fq.raw n a k c xs).P (.agg #[us.getD 0 undef, us.getD (0 + 1) undef]) w := by
  match us, hl with
  | [p, q], _ => exact h
end

section
variable {os : List Oper} {Q : Exit → Act → World → Prop} {a : Act} {p : Pq} {B B0 : Nat} {w0 : World}
variable {i s : Nat} {d : Option Tmp} {ty : TypeId} {ps : String} {af : Array Edge} {gd : Option (Nat × Bool)}
theorem q_loadRaw {o : Ob} {off : Nat} {x : Operand} (hp : p.Ok B B0) (hF : p.Free i) (hg : GdQ os a p B B0 w0 af gd) (ho : o ∈ p.old) (hk : o.F1 = o.F0 ∨ leadsB os 9 o.k i = true) (hoff : off + 2 ≤ o.m)
    (hx : SrcQ os a p B B0 w0 af x fun u _ => u = .pointer (some ⟨o.b, off, none⟩)) (hC : ∀ (us : List Value) (w : World), us.length = o.m → o.F0.P (.agg us.toArray) w → (p.c i).P (.agg #[us.getD off undef, us.getD (off + 1) undef]) w) :
    StepQ os Q a p B B0 w0 i { dst := d, op := .load 24 x, type := ty, pos := ps, after := af, guard := gd } := by
  refine stq_val hp hF hg fun L vs w hG hL hc hd => ?_
  obtain ⟨us, hl, h0, hat, ht, hP⟩ := box_now ho hk hG hL hc
  have e := hx L vs w hG hd
  have c0 := (hat off (by omega)).1
  have c1 := (hat (off + 1) (by omega)).1
  refine ⟨_, ?_, hC us w hl hP⟩
  generalize (lay os.toArray L vs os.toArray.size a).eval = ρ at e
  generalize us.getD off undef = u0 at c0 ⊢
  generalize us.getD (off + 1) undef = u1 at c1 ⊢
  simp [execOp, go_sem, e, c0, c1]
end

theorem exRMade {w : World} {v v' : Value} {n : Bool} {a : Option Addr} {k c : Nat} {xs : List Int} {j : Nat} (h : (Fq.raw n a k c xs).P v w) (h' : v' = .int .i64 j) (hk : k ≤ 9223372036854775807) (hj : j ≤ 900000) :
    Calls Tryd.prog 28 #[v, v'] w fun e w' => ∃ v', e = .returned v' ∧ Below w.heap.size w w' ∧ Num w' v' (sgn n (val (xs.take j))) := by
  obtain ⟨rfl, hs⟩ := h
  subst h'
  exact exK (Made_any _ _ _ _ _ _ hs hk j hj) (Num.ofMade hs.digs) hj

theorem exRSameB {w : World} {v v' : Value} {a b : Int} {t : Bool} (h : Num w v a) (h' : Num w v' b) (ht : decide (a = b) = t) : Calls Tryd.prog 23 #[v, v'] w fun e w' => ∃ v', e = .returned v' ∧ Below w.heap.size w w' ∧ v' = .bool t := by
  have := exRSame h h'
  rw [ht] at this
  exact this

end Go.Proofs.YthgpcgijhmgenaaDoor

/- Decimal texts: what a text says, and that it is the only text of its number. Nothing of the program is used. Walk: a size times ten and a digit, in its place. Walks: read, whole. Walk: Parse, whole. -/
namespace Go.Proofs.YthgpcgijhmgenaaDoor
open Go Go.RowKit

end Go.Proofs.YthgpcgijhmgenaaDoor

namespace Go.Proofs.YthgpcgijhmgenaaDoor
open Go Go.RowKit

theorem Ow.set {w : World} {B g n c : Nat} {zs : List Int} (h : Ow w B (.slice (some ⟨g, 0, none⟩) n c) zs) {j : Nat} (hj : j < n) {x : Int} (hx0 : 0 ≤ x) (hx1 : x < 4294967296) : Ow (w.setCell ⟨g, j, none⟩ (.int .u32 x)) B (.slice (some ⟨g, 0, none⟩) n c) (zs.set j x) := by
  obtain ⟨⟨h1, h2⟩, h3⟩ := h
  rcases h2 with ⟨h4, _⟩ | ⟨g', cap, cur, h4, h5, h6, h7, h8, h9, h10⟩
  · cases h4
  · cases h4
    refine ⟨⟨by simp, .inr ⟨g, c, cur.setIfInBounds j (.int .u32 x), by rw [List.length_set], h5, ?_, by rw [List.length_set]; exact h7, h8, by simpa using h9, ?_⟩⟩, h3.set j ⟨hx0, hx1⟩⟩
    · simp only [World.setCell, Array.getElem?_modify, if_true, h6, Option.map_some, Option.isSome_none]
      simp
    · rw [List.length_set, Array.toList_setIfInBounds, List.take_set, h10, List.map_set]

end Go.Proofs.YthgpcgijhmgenaaDoor

namespace Go.Proofs.YthgpcgijhmgenaaDoor
open Go Go.RowKit

theorem Ow.nil (w : World) (B : Nat) : Ow w B (.slice none 0 0) [] := ⟨World.ownsRow_nil _ _ _ _, fun _ h => by simp at h⟩

end Go.Proofs.YthgpcgijhmgenaaDoor

namespace Go.Proofs.YthgpcgijhmgenaaDoor
open Go Go.RowKit

end Go.Proofs.YthgpcgijhmgenaaDoor

/- Walks: fractions made of descriptions; texts; Valid. -/
namespace Go.Proofs.YthgpcgijhmgenaaDoor
open Go Go.RowKit

end Go.Proofs.YthgpcgijhmgenaaDoor

/- Walks: Valid; Parse of "2/4"; the simplest fraction. -/
namespace Go.Proofs.YthgpcgijhmgenaaDoor
open Go Go.RowKit

end Go.Proofs.YthgpcgijhmgenaaDoor

/- Walks: the simplest fraction between two. -/
namespace Go.Proofs.YthgpcgijhmgenaaDoor
open Go Go.RowKit

/-- A box of the call's own is stored to. -/
theorem Fr.put {w0 W : World} {b m : Nat} {F F' : Fq} {bs : List (Nat × Nat × Fq)} (h : Fr w0 ((b, m, F) :: bs) W) {us : List Value} (hl : us.length = m) (ht : Tame us) (hF : F'.P (.agg us.toArray) W) : Fr w0 ((b, m, F') :: bs) (putFrom W b 0 us) := by
  have hb := h.boxes _ List.mem_cons_self
  refine ⟨putFrom_below hb.1 us 0 _ _ h.below, fun x hx => ?_, h.apart⟩
  rcases List.mem_cons.1 hx with rfl | hx
  · exact ⟨hb.1, hb.2.same hl ht hF⟩
  · have hx2 := h.boxes x (List.mem_cons_of_mem _ hx)
    refine ⟨hx2.1, hx2.2.other hb.2 (fun e => ?_) hl⟩
    have hn := h.apart
    rw [List.map_cons, List.nodup_cons] at hn
    exact hn.1 (by rw [show (b, m, F).1 = x.1 from e.symm]; exact List.mem_map.2 ⟨x, hx, rfl⟩)

section
variable {os : List Oper} {Q : Exit → Act → World → Prop} {a : Act} {p : Pq} {B B0 : Nat} {w0 : World}
variable {i s : Nat} {d : Option Tmp} {ty : TypeId} {ps : String} {af : Array Edge} {gd : Option (Nat × Bool)}
end

end Go.Proofs.YthgpcgijhmgenaaDoor

/- Walks: Between; the examples of the laws on fractions. -/
namespace Go.Proofs.YthgpcgijhmgenaaDoor
open Go Go.RowKit

end Go.Proofs.YthgpcgijhmgenaaDoor

/- Steps of a region over slices of fractions. -/
namespace Go.Proofs.YthgpcgijhmgenaaDoor
open Go Go.RowKit

section
variable {os : List Oper} {Q : Exit → Act → World → Prop} {a : Act} {p : Pq} {B B0 : Nat} {w0 : World}
variable {i s : Nat} {d : Option Tmp} {ty : TypeId} {ps : String} {af : Array Edge} {gd : Option (Nat × Bool)}

end

theorem newks_ne {C : List Fq} {bs : List (Nat × Nat × Fq)} {ks : List (Option (Nat × Fq))} {new : List Nb} {len i : Nat} (h : new.all (fun n => n.i == i || n.k != i) = true) : ∀ n ∈ (plq C bs ks new len).new, n.i ≠ i → n.k ≠ i := fun n hn hi e => by
  have := List.all_eq_true.1 h n hn
  simp [e, hi] at this

end Go.Proofs.YthgpcgijhmgenaaDoor

/- Steps of a region over functions that hold a box. -/
namespace Go.Proofs.YthgpcgijhmgenaaDoor
open Go Go.RowKit

section
variable {os : List Oper} {Q : Exit → Act → World → Prop} {a : Act} {p : Pq} {B B0 : Nat} {w0 : World}
variable {i s : Nat} {d : Option Tmp} {ty : TypeId} {ps : String} {af : Array Edge} {gd : Option (Nat × Bool)}

end

end Go.Proofs.YthgpcgijhmgenaaDoor

/- The symbol of Jacobi, by Gauss's count: products, the second law, reciprocity, Euler. -/
namespace Go.Proofs.YthgpcgijhmgenaaDoor
open Go Go.RowKit

/-- A product over a list, a sum over a list. -/
def prodL (f : Nat → Int) (l : List Nat) : Int := l.foldr (fun k z => f k * z) 1
/-- The numbers from 1 to h. -/
def up1 (h : Nat) : List Nat := List.range' 1 h
/-- The sign of the least absolute residue, and its size. -/
def sg (n : Nat) (x : Int) : Int := if 2 * (x % n) < n then 1 else -1
/-- Jacobi's symbol, for odd n. -/
def J (a : Int) (n : Nat) : Int := if Int.gcd a n = 1 then prodL (fun k => sg n (a * k)) (up1 ((n - 1) / 2)) else 0
/-- A prime number. -/
def Pr (p : Nat) : Prop := 2 ≤ p ∧ ∀ d, d ∣ p → d = 1 ∨ d = p
end Go.Proofs.YthgpcgijhmgenaaDoor

/- Residues: the sum that Bezout says, inverses, powers, two congruences. -/
namespace Go.Proofs.YthgpcgijhmgenaaDoor
open Go Go.RowKit

end Go.Proofs.YthgpcgijhmgenaaDoor

/- Walks: package modular: residues, inverses, two congruences. -/
namespace Go.Proofs.YthgpcgijhmgenaaDoor
open Go Go.RowKit

theorem enq_Bits (args : Array Value) (w : World) : (callFunc 31 args).run Tryd.prog w = .ok (.enter 31 args) w := enter_of Tryd.func31 (by kernel_rfl) rfl args w
end Go.Proofs.YthgpcgijhmgenaaDoor

/- Walks of the reference: Power. Walk of the reference: Pow. Walk of the reference: Sqrt. Walk of the reference: Root. -/
namespace Go.Proofs.YthgpcgijhmgenaaDoor
open Go Go.RowKit

end Go.Proofs.YthgpcgijhmgenaaDoor

namespace Go.Proofs.YthgpcgijhmgenaaDoor
open Go Go.RowKit

theorem bits_uniq {v : Int} {m m' : Nat} (h : IsBits v m) (h' : IsBits v m') : m = m' := by
  rcases h with ⟨h1, h2⟩ | ⟨h1, h2, h3⟩ <;> rcases h' with ⟨h4, h5⟩ | ⟨h4, h5, h6⟩
  · omega
  · have := pow_two_pos (m' - 1); omega
  · have := pow_two_pos (m - 1); omega
  · rcases Nat.lt_trichotomy m m' with h | h | h
    · have := two_pow_le (show m ≤ m' - 1 by omega); omega
    · exact h
    · have := two_pow_le (show m' ≤ m - 1 by omega); omega

end Go.Proofs.YthgpcgijhmgenaaDoor

namespace Go.Proofs.YthgpcgijhmgenaaDoor
open Go Go.RowKit

end Go.Proofs.YthgpcgijhmgenaaDoor

namespace Go.Proofs.YthgpcgijhmgenaaDoor
open Go Go.RowKit

theorem exRCmp' {w : World} {v v' : Value} {z z' : Int} (h : Num w v z) (h' : Num w v' z') : Calls Tryd.prog 22 #[v, v'] w fun e w' => ∃ v', e = .returned v' ∧ Below w.heap.size w w' ∧ v' = .int .i64 (cmpI z z') :=
  (RCmpV h h').mono fun _ _ hh => ⟨_, hh.1, hh.2, rfl⟩

end Go.Proofs.YthgpcgijhmgenaaDoor

/- Walk: a binary digit of a number; how many there are. -/
namespace Go.Proofs.YthgpcgijhmgenaaDoor
open Go Go.RowKit

/-- How many binary digits a number has. -/
def nbits (z : Int) : Nat := if z = 0 then 0 else z.natAbs.log2 + 1
theorem nbits_isBits (z : Int) : IsBits (ab z) (nbits z) := by
  unfold nbits IsBits ab
  by_cases h : z = 0
  · rw [if_pos h, h]; exact .inl ⟨rfl, rfl⟩
  · rw [if_neg h]
    right
    have h0 : z.natAbs ≠ 0 := by omega
    have h1 := Nat.log2_self_le h0
    have h2 := Nat.lt_log2_self (n := z.natAbs)
    refine ⟨by omega, ?_, ?_⟩
    · rw [show z.natAbs.log2 + 1 - 1 = z.natAbs.log2 by omega]
      exact_mod_cast h1
    · exact_mod_cast h2
theorem nbits_le {z : Int} {k : Nat} (h : ab z < pw k) : nbits z ≤ 32 * k := by
  rcases nbits_isBits z with ⟨_, h2⟩ | ⟨h1, h2, _⟩
  · omega
  · rw [pw_two] at h
    by_cases hc : nbits z ≤ 32 * k
    · exact hc
    · exfalso
      have h3 : (2 : Int) ^ (32 * k) ≤ 2 ^ (nbits z - 1) := two_pow_le (by omega)
      omega
theorem exBits {w : World} {v : Value} {z : Int} (h : Num w v z) : Calls Tryd.prog 31 #[v] w fun e w' => ∃ v', e = .returned v' ∧ Below w.heap.size w w' ∧ v' = .int .i64 ((nbits z : Nat) : Int) := by
  obtain ⟨neg, ao, n, c, xs, rfl, hs, hn, rfl, hc, _⟩ := h
  refine (Bits_any _ _ _ _ _ _ hs (by omega)).mono fun e w' hh => ?_
  obtain ⟨m, rfl, hm, _, hb⟩ := hh
  refine ⟨_, rfl, hb, ?_⟩
  have h2 := nbits_isBits (sgn neg (val xs))
  rw [ab_sgn, ab_of (val_nonneg hs.digs)] at h2
  rw [bits_uniq hm h2]
end Go.Proofs.YthgpcgijhmgenaaDoor

/- Walk: powers modulo a number. -/
namespace Go.Proofs.YthgpcgijhmgenaaDoor
open Go Go.RowKit

end Go.Proofs.YthgpcgijhmgenaaDoor

/- Walks: trailing zeros, the last word, the symbols of 2 and of the second law, by words. -/
namespace Go.Proofs.YthgpcgijhmgenaaDoor
open Go Go.RowKit

theorem tz64_core (x k idx : Nat) (w : World) (hx0 : ((x : Int) == 0) = false)
    (key : IntKind.u64.wrap (bits BinOp.and IntKind.u64 (x : Int) (IntKind.u64.wrap (-(x : Int))) * 285870213051353865) / 288230376151711744 = (idx : Int))
    (hi : idx < 64) (hk : k < 64) (hcell : w.cell? ⟨1, idx, none⟩ = some (.int .u8 k)) :
    Calls Tryd.prog 63 #[.int .u64 x] w fun e w' => e = .returned (.int .i64 k) ∧ w' = w := by
  go_enter Tryd.func63, Tryd.ntmps63
  go_wp2_with (simp only [key])
  go_ret
  exact ⟨rfl, rfl⟩
end Go.Proofs.YthgpcgijhmgenaaDoor

/- Walk: the symbol of words. -/
namespace Go.Proofs.YthgpcgijhmgenaaDoor
open Go Go.RowKit

end Go.Proofs.YthgpcgijhmgenaaDoor

/- Walk: the odd part of a number. -/
namespace Go.Proofs.YthgpcgijhmgenaaDoor
open Go Go.RowKit

/-- How often 2 divides a number. -/
def v2 (z : Int) : Nat := Lib.ctzFrom (nbits z) z.natAbs
section
variable {os : List Oper} {Q : Exit → Act → World → Prop} {a : Act} {p : Pq} {B B0 : Nat} {w0 : World}
variable {i s : Nat} {d : Option Tmp} {ty : TypeId} {ps : String} {af : Array Edge} {gd : Option (Nat × Bool)}
end
end Go.Proofs.YthgpcgijhmgenaaDoor

/- Walks: the symbol of Jacobi, the symbol of Kronecker. -/
namespace Go.Proofs.YthgpcgijhmgenaaDoor
open Go Go.RowKit

section
variable {os : List Oper} {Q : Exit → Act → World → Prop} {a : Act} {p : Pq} {B B0 : Nat} {w0 : World}
variable {i s : Nat} {d : Option Tmp} {ty : TypeId} {ps : String} {af : Array Edge} {gd : Option (Nat × Bool)}
theorem q_call1W {x : Operand} {F : Value → World → Prop} {f : FuncId} {ts : Array TypeId} (hp : p.Ok B B0) (hF : p.Free i) (hg : GdQ os a p B B0 w0 af gd) (hen : ∀ args w, (callFunc f args).run Tryd.prog w = .ok (.enter f args) w) (hB : B = w0.heap.size)
    (hx : SrcQ os a p B B0 w0 af x F) (hC : ∀ v w, Below w0.heap.size w0 w → F v w → Calls Tryd.prog f #[v] w fun e w' => ∃ v', e = .returned v' ∧ Below w.heap.size w w' ∧ (p.c i).P v' w') :
    StepQ os Q a p B B0 w0 i { dst := d, op := .call { callee := .value (.func f), args := #[x], argTypes := ts }, type := ty, pos := ps, after := af, guard := gd } := by
  subst hB
  exact stq_call hp hF hg hen fun L vs w hG hd => ⟨#[_], by simp, hC _ _ hG.below (hx L vs w hG hd)⟩
theorem q_call2W {x y : Operand} {F G : Value → World → Prop} {f : FuncId} {ts : Array TypeId} (hp : p.Ok B B0) (hF : p.Free i) (hg : GdQ os a p B B0 w0 af gd) (hen : ∀ args w, (callFunc f args).run Tryd.prog w = .ok (.enter f args) w) (hB : B = w0.heap.size)
    (hx : SrcQ os a p B B0 w0 af x F) (hy : SrcQ os a p B B0 w0 af y G) (hC : ∀ v v' w, Below w0.heap.size w0 w → F v w → G v' w → Calls Tryd.prog f #[v, v'] w fun e w' => ∃ v', e = .returned v' ∧ Below w.heap.size w w' ∧ (p.c i).P v' w') :
    StepQ os Q a p B B0 w0 i { dst := d, op := .call { callee := .value (.func f), args := #[x, y], argTypes := ts }, type := ty, pos := ps, after := af, guard := gd } := by
  subst hB
  exact stq_call hp hF hg hen fun L vs w hG hd => ⟨#[_, _], by simp, hC _ _ _ hG.below (hx L vs w hG hd) (hy L vs w hG hd)⟩
theorem q_moveB (m f : Nat) {v : Value} (hp : p.Ok B B0) (hF : p.Free i) (hg : GdQ os a p B B0 w0 af gd) (ha : apartB (os.map (·.dst)) = true) (hj : (os.map (·.dst))[m]? = some (some s)) (hl : leadsB os f m i = true) (hx : a.eval (.tmp s) = v) (hv : ∀ w, (p.c i).P v w) :
    StepQ os Q a p B B0 w0 i { dst := d, op := .move (.tmp s), type := ty, pos := ps, after := af, guard := gd } := by
  refine stq_val hp hF hg fun L vs w hG hL hc hd => ⟨v, ?_, hv _⟩
  have hm := not_yet hc hl hL
  have e : (lay os.toArray L vs os.toArray.size a).eval (.tmp s) = a.eval (.tmp s) := by
    refine lay_eval_out _ _ fun j _ hj2 hd2 => ?_
    have hjm : j = m := Classical.byContradiction fun hne => apart_of ha j m s hne hd2 (by
      unfold dstOf
      simp at hj ⊢
      cases ho : os[m]? with
      | none => simp [ho] at hj
      | some o => simp [ho] at hj ⊢; exact hj)
    rw [hjm, hm] at hj2
    cases hj2
  rw [hx] at e
  have e2 : (lay os.toArray L vs os.toArray.size a).tmps.getD s undef = v := e
  simp only [execOp, go_sem]
  rw [e2]
  rfl
end
end Go.Proofs.YthgpcgijhmgenaaDoor

/- Walk: math/bits.Mul64. -/
namespace Go.Proofs.YthgpcgijhmgenaaDoor
open Go Go.RowKit

set_option maxHeartbeats 1000000 in
theorem mul64_any (x y : Nat) (hx : x < 18446744073709551616) (hy : y < 18446744073709551616) (w : World) :
    Calls Tryd.prog 80 #[.int .u64 x, .int .u64 y] w fun e w' => e = .returned (.tuple #[.int .u64 ((x * y / 18446744073709551616 : Nat) : Int), .int .u64 ((x * y % 18446744073709551616 : Nat) : Int)]) ∧ w' = w := by
  obtain ⟨bd, bt, bw, hhi⟩ := Lib.mul64_hi x y hx hy
  have ba := Lib.half_mul_le (a := x / 4294967296) (b := y / 4294967296) (by omega) (by omega)
  have bb := Lib.half_mul_le (a := x / 4294967296) (b := y % 4294967296) (by omega) (by omega)
  have bc := Lib.half_mul_le (a := x % 4294967296) (b := y / 4294967296) (by omega) (by omega)
  have pa : x / 4294967296 * (y / 4294967296) < 18446744073709551616 := by omega
  have pb : x / 4294967296 * (y % 4294967296) < 18446744073709551616 := by omega
  have pc : x % 4294967296 * (y / 4294967296) < 18446744073709551616 := by omega
  have pd : x / 4294967296 * (y / 4294967296) + (x / 4294967296 * (y % 4294967296) + x % 4294967296 * (y % 4294967296) / 4294967296) / 4294967296 < 18446744073709551616 := by omega
  have pe : x / 4294967296 * (y / 4294967296) + (x / 4294967296 * (y % 4294967296) + x % 4294967296 * (y % 4294967296) / 4294967296) / 4294967296 + ((x / 4294967296 * (y % 4294967296) + x % 4294967296 * (y % 4294967296) / 4294967296) % 4294967296 + x % 4294967296 * (y / 4294967296)) / 4294967296 < 18446744073709551616 := by
    rw [hhi]
    have := Nat.mul_le_mul (show x ≤ 18446744073709551615 by omega) (show y ≤ 18446744073709551615 by omega)
    omega
  go_enter Tryd.func80, Tryd.ntmps80
  go_wp2
  simp only [Mul64.maskN x hx, Mul64.maskN y hy, Mul64.divN, Mul64.mulN, Mul64.addN, Mul64.wrapN _ bd, Mul64.wrapN _ pb, Mul64.wrapN _ bt, Mul64.maskN _ bt, Mul64.wrapN _ pc, Mul64.wrapN _ bw, Mul64.wrapN _ pa, Mul64.wrapN _ pd, Mul64.wrapN _ pe, Mul64.wrapM]
  rw [hhi]
  refine bodyPost_ret (v := .tuple #[.int .u64 ((x * y / 18446744073709551616 : Nat) : Int), .int .u64 ((x * y % 18446744073709551616 : Nat) : Int)]) (by simp [results, Tryd.results80, go_sem]) rfl ⟨rfl, rfl⟩
end Go.Proofs.YthgpcgijhmgenaaDoor

/- Walks: the length of a word, its leading zeros. -/
namespace Go.Proofs.YthgpcgijhmgenaaDoor
open Go Go.RowKit

/-- The table's byte at what is left of a word, and what was cut off before. -/
theorem len_tab {x : Int} (s : Nat) {y : Int} (h0 : 0 ≤ x) (hx : x < 18446744073709551616) (hy : y = x / 2 ^ s) (h1 : y < 256) (hs : s = 0 ∨ (2 : Int) ^ s ≤ x) : (s : Int) + Lib.len8 (y % 256) = (Lib.bitLen x.toNat : Int) := by
  obtain ⟨n, rfl⟩ := Int.eq_ofNat_of_zero_le h0
  have e : y = ((n / 2 ^ s : Nat) : Int) := by rw [hy, Int.natCast_ediv, Int.natCast_pow]; rfl
  have h2 : 0 ≤ y := by rw [e]; exact Int.natCast_nonneg _
  rw [show y % 256 = y by omega, Lib.len8_of y h2 (by omega), e, Int.toNat_natCast, Int.toNat_natCast]
  rcases hs with hs | hs
  · subst hs; simp
  · have h2 : 2 ^ s ≤ n := by exact_mod_cast hs
    rw [Lib.bitLen_shift s n h2 (by omega)]
    omega
theorem len_out {x : Int} (s : Nat) {y : Int} (h : y.toNat < Lib.len8tab.size) (h56 : s ≤ 56) (h0 : 0 ≤ x) (hx : x < 18446744073709551616) (hy : y = x / 2 ^ s) (hy0 : 0 ≤ y) (h1 : y < 256) (hs : s = 0 ∨ (2 : Int) ^ s ≤ x) :
    wrap64 ((s : Int) + wrap64 (((Lib.len8tab[y.toNat]'h).toNat : Nat) : Int)) = (Lib.bitLen x.toNat : Int) := by
  have e := len_tab s h0 hx hy h1 hs
  have e1 : y % 256 = y := by omega
  have e2 : Lib.len8 y = (((Lib.len8tab[y.toNat]'h).toNat : Nat) : Int) := by simp [Lib.len8, h]
  have e3 := Lib.bitLen_le8' y hy0 (by omega)
  have e4 := Lib.len8_of y hy0 (by omega)
  rw [e1, e2] at e
  rw [e2] at e4
  generalize (((Lib.len8tab[y.toNat]'h).toNat : Nat) : Int) = b at *
  simp only [wrap64]
  omega
set_option maxRecDepth 1000000 in
set_option maxHeartbeats 1000000 in
theorem len64_any (x : Int) (w : World) (h0 : 0 ≤ x) (h1 : x < 18446744073709551616) :
    Calls Tryd.prog 97 #[.int .u64 x] w fun e w' => e = .returned (.int .i64 (Lib.bitLen x.toNat)) ∧ w' = w := by
  have hsz : ((Lib.len8tab.size : Nat) : Int) = 256 := by rw [Lib.len8tab_size]; rfl
  go_enter Tryd.func97, Tryd.ntmps97
  go_wp2
  all_goals first | (go_ret; refine ⟨congrArg Ending.returned (congrArg (Value.int IntKind.i64) ?_), rfl⟩) | (exfalso; omega)
  · exact len_out 56 _ (by omega) h0 h1 (by omega) (by omega) (by omega) (.inr (by omega))
  · exact len_out 48 _ (by omega) h0 h1 (by omega) (by omega) (by omega) (.inr (by omega))
  · exact len_out 40 _ (by omega) h0 h1 (by omega) (by omega) (by omega) (.inr (by omega))
  · exact len_out 32 _ (by omega) h0 h1 (by omega) (by omega) (by omega) (.inr (by omega))
  · exact len_out 24 _ (by omega) h0 h1 (by omega) (by omega) (by omega) (.inr (by omega))
  · exact len_out 16 _ (by omega) h0 h1 (by omega) (by omega) (by omega) (.inr (by omega))
  · exact len_out 8 _ (by omega) h0 h1 (by omega) (by omega) (by omega) (.inr (by omega))
  · have e := len_out 0 (x := x) (y := x) (by omega) (by omega) h0 h1 (by omega) h0 (by omega) (.inl rfl)
    simpa using e
theorem lead64_any (x : Int) (w : World) (h0 : 0 ≤ x) (h1 : x < 18446744073709551616) :
    Calls Tryd.prog 92 #[.int .u64 x] w fun e w' => e = .returned (.int .i64 (64 - Lib.bitLen x.toNat)) ∧ w' = w := by
  have hb : Lib.bitLen x.toNat ≤ 64 := Lib.bitLen_le x.toNat 64 (by omega) (by omega)
  have hw : IntKind.i64.wrap (64 - (Lib.bitLen x.toNat : Int)) = 64 - (Lib.bitLen x.toNat : Int) := IntWalk.i64_in _ (by omega)
  have hw2 : wrap64 (64 - (Lib.bitLen x.toNat : Int)) = 64 - (Lib.bitLen x.toNat : Int) := by simp only [wrap64]; omega
  go_enter Tryd.func92, Tryd.ntmps92
  go_wp2_with (go_at_call 97; refine (len64_any x w h0 h1).mono ?_; rintro e w' ⟨rfl, rfl⟩)
  go_ret
  exact ⟨by first | rfl | rw [hw2], rfl⟩
end Go.Proofs.YthgpcgijhmgenaaDoor

/- Division of two digits by a number of two digits, digit for digit: nothing of the program is used. -/
namespace Go.Proofs.YthgpcgijhmgenaaDoor
open Go Go.RowKit

section
variable {U Y y1 y0 B u q r : Nat}
/-- The digit of a quotient lies below the base. -/
theorem kd_lt (hU : U < Y) (hu : u < B) : (U * B + u) / Y < B := by
  rw [Nat.div_lt_iff_lt_mul (by omega)]
  have h := Nat.mul_le_mul_right B (show U + 1 ≤ Y by omega)
  rw [Nat.add_mul, Nat.one_mul, Nat.mul_comm Y B] at h
  omega
theorem kd_split (hY : Y = y1 * B + y0) (hq : q * y1 + r = U) : U * B + u = q * y1 * B + (B * r + u) ∧ q * Y = q * y1 * B + q * y0 := by
  constructor
  · rw [← hq, Nat.add_mul, Nat.mul_comm r B, Nat.add_assoc]
  · rw [hY, Nat.mul_add, Nat.mul_assoc]
/-- The estimate is not too small. -/
theorem kd_start (hY : Y = y1 * B + y0) (h1 : 0 < y1) (hu : u < B) : (U * B + u) / Y ≤ U / y1 := by
  have hB : 0 < B := by omega
  have hYB : y1 * B ≤ Y := by omega
  have h2 : (U * B + u) / Y ≤ (U * B + u) / (y1 * B) := Nat.div_le_div_left hYB (Nat.mul_pos h1 hB)
  have h3 : (U * B + u) / (B * y1) = U / y1 := by rw [← Nat.div_div_eq_div_mul, Nat.mul_comm U B, Nat.mul_add_div hB, Nat.div_eq_of_lt hu, Nat.add_zero]
  rw [Nat.mul_comm y1 B, h3] at h2
  exact h2
/-- .. and too great by two at most. -/
theorem kd_top (hY : Y = y1 * B + y0) (h0 : y0 < B) (h1 : B ≤ 2 * y1) (hU : U < Y) : U / y1 ≤ B + 1 := by
  have hp : 0 < y1 := by omega
  refine Nat.le_of_lt_succ ((Nat.div_lt_iff_lt_mul hp).2 ?_)
  rw [show (B + 1 + 1) * y1 = y1 * B + 2 * y1 by rw [Nat.add_mul, Nat.add_mul, Nat.mul_comm B y1]; omega]
  omega
theorem kd_true (hY : Y = y1 * B + y0) (hq : q * y1 + r = U) (hU : U < Y) (hu : u < B) (h : B ≤ q ∨ B * r + u < q * y0) : (U * B + u) / Y ≤ q - 1 ∧ 0 < q := by
  have h3 : (U * B + u) / Y < q := by
    rcases h with h | h
    · exact Nat.lt_of_lt_of_le (kd_lt hU hu) h
    · obtain ⟨e1, e2⟩ := kd_split (u := u) hY hq
      rw [Nat.div_lt_iff_lt_mul (by omega)]
      omega
  generalize (U * B + u) / Y = t at *
  omega
theorem kd_false (hY : Y = y1 * B + y0) (hq : q * y1 + r = U) (hU : U < Y) (hl : (U * B + u) / Y ≤ q) (h : q * y0 ≤ B * r + u) : q = (U * B + u) / Y := by
  obtain ⟨e1, e2⟩ := kd_split (u := u) hY hq
  have h3 : q ≤ (U * B + u) / Y := (Nat.le_div_iff_mul_le (by omega)).2 (by omega)
  omega
theorem kd_big (hY : Y = y1 * B + y0) (hq : q * y1 + r = U) (hU : U < Y) (h0 : y0 < B) (hl : (U * B + u) / Y ≤ q) (hr : B ≤ r) (hqB : q ≤ B) : q = (U * B + u) / Y := by
  refine kd_false hY hq hU hl ?_
  have h1 := Nat.mul_le_mul hqB (Nat.le_of_lt h0)
  have h2 := Nat.mul_le_mul_left B hr
  omega
/-- Two digits make the quotient, and the remainder. -/
theorem kd_two {v : Nat} (hY : 0 < Y) : (U * B + u) / Y * B + ((U * B + u) % Y * B + v) / Y = ((U * B + u) * B + v) / Y ∧ ((U * B + u) % Y * B + v) % Y = ((U * B + u) * B + v) % Y := by
  generalize U * B + u = W
  have h := Nat.div_add_mod W Y
  have e : W * B + v = Y * (W / Y * B) + (W % Y * B + v) := by
    conv => lhs; rw [← h]
    rw [Nat.add_mul, Nat.mul_assoc, Nat.add_assoc]
  rw [e, Nat.mul_add_div hY, Nat.mul_add_mod]
  exact ⟨rfl, rfl⟩
/-- Shifting both leaves the quotient, and shifts the remainder. -/
theorem kd_shift {a y s : Nat} (_hy : 0 < y) : a * 2 ^ s / (y * 2 ^ s) = a / y ∧ a * 2 ^ s % (y * 2 ^ s) / 2 ^ s = a % y := by
  have hp := Nat.two_pow_pos s
  constructor
  · exact Nat.mul_div_mul_right a y hp
  · rw [Nat.mul_mod_mul_right, Nat.mul_div_cancel _ hp]
end
end Go.Proofs.YthgpcgijhmgenaaDoor

/- What math/bits.Div64 divides: both numbers shifted. -/
namespace Go.Proofs.YthgpcgijhmgenaaDoor
open Go Go.RowKit

theorem bitLen_top {y : Nat} (h0 : 0 < y) (h : y < 18446744073709551616) : y < 2 ^ Lib.bitLen y ∧ 2 ^ (Lib.bitLen y - 1) ≤ y ∧ 0 < Lib.bitLen y ∧ Lib.bitLen y ≤ 64 := by
  have h64 : y < 2 ^ 64 := h
  have hle : Lib.bitLen y ≤ 64 := Lib.bitLen_le y 64 (by omega) h64
  have hpos : 0 < Lib.bitLen y := by rw [Lib.bitLen_half y (by omega) h64]; omega
  refine ⟨?_, ?_, hpos, hle⟩
  · rcases Nat.lt_or_ge y (2 ^ Lib.bitLen y) with h1 | h1
    · exact h1
    · exfalso
      have h2 := Lib.bitLen_shift (Lib.bitLen y) y h1 h64
      have h3 : 0 < y / 2 ^ Lib.bitLen y := Nat.div_pos h1 (Nat.two_pow_pos _)
      have h4 : y / 2 ^ Lib.bitLen y < 2 ^ 64 := Nat.lt_of_le_of_lt (Nat.div_le_self _ _) h64
      have h5 := Lib.bitLen_half _ (by omega) h4
      omega
  · rcases Nat.lt_or_ge y (2 ^ (Lib.bitLen y - 1)) with h1 | h1
    · have := Lib.bitLen_le y (Lib.bitLen y - 1) (by omega) h1
      omega
    · exact h1
/-- The divisor, shifted: its highest digit is 1. -/
theorem dv_norm {y : Nat} (h0 : 0 < y) (h : y < 18446744073709551616) : 9223372036854775808 ≤ y * 2 ^ (64 - Lib.bitLen y) ∧ y * 2 ^ (64 - Lib.bitLen y) < 18446744073709551616 ∧ 64 - Lib.bitLen y < 64 := by
  obtain ⟨h1, h2, h3, h4⟩ := bitLen_top h0 h
  have e1 : 2 ^ Lib.bitLen y * 2 ^ (64 - Lib.bitLen y) = 18446744073709551616 := by rw [← Nat.pow_add, show Lib.bitLen y + (64 - Lib.bitLen y) = 64 by omega]
  have e2 : 2 ^ (Lib.bitLen y - 1) * 2 ^ (64 - Lib.bitLen y) = 9223372036854775808 := by rw [← Nat.pow_add, show Lib.bitLen y - 1 + (64 - Lib.bitLen y) = 63 by omega]
  have hp := Nat.two_pow_pos (64 - Lib.bitLen y)
  refine ⟨?_, ?_, by omega⟩
  · rw [← e2]; exact Nat.mul_le_mul_right _ h2
  · rw [← e1]; exact (Nat.mul_lt_mul_right hp).2 h1
/-- The number, shifted: its two words. -/
theorem dv_split {a b s : Nat} (hs : s < 64) : (a * 18446744073709551616 + b) * 2 ^ s = (a * 2 ^ s + b / 2 ^ (64 - s)) * 18446744073709551616 + b * 2 ^ s % 18446744073709551616 := by
  have e : 18446744073709551616 = 2 ^ (64 - s) * 2 ^ s := by rw [← Nat.pow_add, show 64 - s + s = 64 by omega]
  have e1 : b * 2 ^ s % 18446744073709551616 = b % 2 ^ (64 - s) * 2 ^ s := by
    conv => lhs; rw [e]
    exact Nat.mul_mod_mul_right _ _ _
  have e2 : b / 2 ^ (64 - s) * 18446744073709551616 + b % 2 ^ (64 - s) * 2 ^ s = b * 2 ^ s := by
    conv => lhs; rw [e]
    rw [← Nat.mul_assoc, ← Nat.add_mul, Nat.mul_comm (b / 2 ^ (64 - s)), Nat.div_add_mod]
  rw [e1, Nat.add_mul, Nat.add_mul, Nat.add_assoc, e2, Nat.mul_right_comm]
theorem dv_lt {a b y s : Nat} (h : a < y) (hb : b < 18446744073709551616) (hs : s < 64) : a * 2 ^ s + b / 2 ^ (64 - s) < y * 2 ^ s ∧ b / 2 ^ (64 - s) < 2 ^ s := by
  have e : 18446744073709551616 = 2 ^ s * 2 ^ (64 - s) := by rw [← Nat.pow_add, show s + (64 - s) = 64 by omega]
  have h1 : b / 2 ^ (64 - s) < 2 ^ s := (Nat.div_lt_iff_lt_mul (Nat.two_pow_pos _)).2 (by rw [← e]; exact hb)
  have h2 := Nat.mul_le_mul_right (2 ^ s) (show a + 1 ≤ y by omega)
  rw [Nat.add_mul, Nat.one_mul] at h2
  exact ⟨by omega, h1⟩
end Go.Proofs.YthgpcgijhmgenaaDoor
