/- Uq, Ul, Uo, Ux, Ut. -/
import Derived.Test.YtdhkhedhnolcjaaGreatCh6
set_option linter.unusedSimpArgs false
set_option linter.unusedVariables false
namespace Go.Proofs.YtdhkhedhnolcjaaGreat
open Go Go.RowKit

theorem zJk {w : World} {ops : Array Oper} {rest : List Oper} {o : Oper} {a : Act} {Q : Exit → Act → World → Prop} (hgd : o.guard = none) (T : TypeId) (x : Operand) (ho : o.op = .load T x) {b off l : Nat} {fs : List Fd} (hT : rowB T l = true) (hl : sz fs = l)
  (hx : a.eval x = .pointer (some ⟨b, off, none⟩)) (hS : StAt w b off fs) (h : ∀ v, (Fq.st fs).P v w → wpList Tryz.prog ops Q rest (a.put o.dst v) w) : wpList Tryz.prog ops Q (o :: rest) a w := by
 refine wpList_plain hgd fun K hK => ?_
 obtain ⟨es, hfit, hat⟩ := hS
 obtain ⟨⟨dd, hu, hd'⟩, hi⟩ := rowB_of hT
 have hr : w.rangeAt b off es := by
  intro j v hv
  have hj := (List.getElem?_eq_some_iff.1 hv).1
  rw [hat j hj, List.getD, hv]
  rfl
 have := run_loadVar_mid (P := Tryz.prog) w b off T _ dd hr hu hd' (by rw [hfit.length, hl]; exact hi)
 unfold Oper.wp
 have e : (execOp a.eval o).run Tryz.prog w = .ok (.value (.agg es.toArray)) w := by
  unfold execOp
  simp only [ho, hx, Instr.loadAt, Instr.sureAddr, Sem.run_bind, Sem.run_pure, Result.andThen_ok, this]
 rw [e]
 exact hK _ _ (h _ ⟨_, rfl, hfit⟩)
theorem Fr.addQ {w0 W0 W : World} {bs : List (Nat × Nat × Fq)} (E : Fr w0 bs W0) (hb : Below W0.heap.size W0 W) {g m : Nat} {F : Fq} (hg : W0.heap.size ≤ g) (hB : Bq W g m F) : Fr w0 ((g, m, F) :: bs) W := by
 have h2 := E.later hb
 refine ⟨h2.below, fun x hx => ?_, ?_⟩
 ·rcases List.mem_cons.1 hx with rfl | hx
  ·exact ⟨Nat.le_trans E.below.size hg, hB⟩
  ·exact h2.boxes x hx
 ·rw [List.map_cons, List.nodup_cons]
  refine ⟨fun hm => ?_, E.apart⟩
  obtain ⟨x, hx, e⟩ := List.mem_map.1 hm
  have := (E.boxes x hx).2.lt
  omega
theorem StAt.of_boxQ {w : World} {b m : Nat} {fs : List Fd} (h : Bq w b m (Fq.st fs)) : StAt w b 0 fs := by
 obtain ⟨us, _, h2, h3⟩ := zBh h
 exact ⟨us, h3, fun j hj => by rw [Nat.zero_add]; exact h2 j hj⟩
theorem sixQ {us : List Value} (h : us.length = 6) : ∃ a b c d e f, us = [a, b, c, d, e, f] := by
 match us, h with
 | [a, b, c, d, e, f], _ => exact ⟨a, b, c, d, e, f, rfl⟩
structure F3 where
 a : Int
 b : Int
 c : Int
def frF (P : F3) : List Fd := [.n P.a, .n P.b, .n P.c]
def zEm (a b c : Int) : Bool := (dfB a b c && redB a b c) && decide (cont a b c = 1)
def zBq (n a b : Int) : List F3 := if (b * b + n) % (4 * a) = 0 then (if zEm a b ((b * b + n) / (4 * a)) = true then [⟨a, b, (b * b + n) / (4 * a)⟩] else []) else []
def zCj (n a : Int) : Nat → List F3
 | 0 => []
 | k + 1 => zCj n a k ++ zBq n a (-a + (k : Int))
def zB5 (n : Int) : Nat → List F3
 | 0 => []
 | a + 1 => zB5 n a ++ (if a = 0 then [] else zCj n (a : Int) (2 * a + 1))
def AEnd (n : Int) (a : Nat) : Prop := 1 ≤ a ∧ ¬ 3 * ((a : Int) * a) ≤ n ∧ ∀ j : Nat, 1 ≤ j → j < a → 3 * ((j : Int) * j) ≤ n
theorem AEnd.uniq {n : Int} {a b : Nat} (h : AEnd n a) (g : AEnd n b) : a = b := by
 rcases Nat.lt_trichotomy a b with e | e | e
 ·exact absurd (g.2.2 a h.1 e) h.2.1
 ·exact e
 ·exact absurd (h.2.2 b g.1 e) g.2.1
open Classical in
noncomputable def zB6 (n : Int) : List F3 := if h : ∃ a, AEnd n a then zB5 n (Classical.choose h) else []
theorem zK3 {n : Int} {a : Nat} (h : AEnd n a) : zB6 n = zB5 n a := by
 have he : ∃ a, AEnd n a := ⟨a, h⟩
 unfold zB6
 rw [dif_pos he, (Classical.choose_spec he).uniq h]
theorem AEnd.ex {n : Int} (h0 : 3 ≤ n) (h1 : n ≤ 2004) : ∃ a, AEnd n a := by
 have key : ∀ k a : Nat, 1 ≤ a → a + k = 26 → (∀ j : Nat, 1 ≤ j → j < a → 3 * ((j : Int) * j) ≤ n) → ∃ a, AEnd n a := by
  intro k
  induction k with
  | zero =>
   intro a h2 h3 h4
   obtain rfl : a = 26 := by omega
   exact ⟨26, by omega, by omega, h4⟩
  | succ k ih =>
   intro a h2 h3 h4
   by_cases h : 3 * ((a : Int) * a) ≤ n
   ·refine ih (a + 1) (by omega) (by omega) fun j hj1 hj2 => ?_
    rcases Nat.lt_or_ge j a with g | g
    ·exact h4 j hj1 g
    ·rw [show j = a by omega]; exact h
   ·exact ⟨a, h2, h, h4⟩
 exact key 25 1 (by omega) (by omega) fun j h2 h3 => by omega
def FOk (n : Int) (P : F3) : Prop := 1 ≤ P.a ∧ (dfB P.a P.b P.c && redB P.a P.b P.c) = true ∧ cont P.a P.b P.c = 1 ∧ P.b * P.b - 4 * (P.a * P.c) = -n
theorem formAt_ok {n a b : Int} (ha : 1 ≤ a) : ∀ P ∈ zBq n a b, FOk n P := by
 intro P hP
 unfold zBq at hP
 split at hP
 ·rename_i hm
  split at hP
  ·rename_i hk
   simp at hP
   subst hP
   unfold zEm at hk
   simp only [Bool.and_eq_true, decide_eq_true_eq] at hk
   refine ⟨ha, by simp only [Bool.and_eq_true]; exact hk.1, hk.2, ?_⟩
   have h2 := Int.mul_ediv_add_emod (b * b + n) (4 * a)
   rw [hm, Int.mul_assoc] at h2
   show b * b - 4 * (a * ((b * b + n) / (4 * a))) = -n
   omega
  ·simp at hP
 ·simp at hP
theorem zK2 {n a : Int} (ha : 1 ≤ a) : ∀ k, ∀ P ∈ zCj n a k, FOk n P
 | 0 => fun P hP => by simp [zCj] at hP
 | k + 1 => fun P hP => by
  rw [zCj] at hP
  rcases List.mem_append.1 hP with h | h
  ·exact zK2 ha k P h
  ·exact formAt_ok ha P h
theorem zK1 {n : Int} : ∀ a, ∀ P ∈ zB5 n a, FOk n P
 | 0 => fun P hP => by simp [zB5] at hP
 | a + 1 => fun P hP => by
  rw [zB5] at hP
  rcases List.mem_append.1 hP with h | h
  ·exact zK1 a P h
  ·split at h
   ·simp at h
   ·exact zK2 (by omega) _ P h
theorem zIp {n : Int} : ∀ P ∈ zB6 n, FOk n P := by
 unfold zB6
 split
 ·exact zK1 _
 ·intro P hP; simp at hP
theorem zK0 {n : Int} {a : Nat} : ∀ k, (zB5 n a).length ≤ (zB5 n (a + k)).length
 | 0 => Nat.le_refl _
 | k + 1 => by
  rw [show a + (k + 1) = (a + k) + 1 by omega, zB5, List.length_append]
  have := zK0 (n := n) (a := a) k
  omega
theorem form_len {n a b : Int} : (zBq n a b).length ≤ 1 := by unfold zBq; split <;> (try split) <;> simp
theorem zIo {n a : Int} : ∀ k, (zCj n a k).length ≤ k
 | 0 => by simp [zCj]
 | k + 1 => by rw [zCj, List.length_append]; have := zIo (n := n) (a := a) k; have := form_len (n := n) (a := a) (b := -a + (k : Int)); omega
theorem zIn {n : Int} : ∀ a, a ≤ 26 → (zB5 n a).length ≤ a * 60
 | 0, _ => by simp [zB5]
 | a + 1, h => by
  rw [zB5, List.length_append]
  have := zIn (n := n) a (by omega)
  split
  ·simp; omega
  ·have := zIo (n := n) (a := (a : Int)) (2 * a + 1); omega
theorem listF_pos {n : Int} (h0 : 3 ≤ n) (h1 : n ≤ 2004) (h4 : n % 4 = 0 ∨ n % 4 = 3) : 0 < (zB6 n).length := by
 obtain ⟨a, h⟩ := AEnd.ex h0 h1
 rw [zK3 h]
 have h2 : 2 ≤ a := by
  rcases Nat.lt_or_ge a 2 with g | g
  ·have h5 : a = 1 := by have := h.1; omega
   subst h5
   exact absurd (show (3 * (((1 : Nat) : Int) * (1 : Nat)) : Int) ≤ n by omega) h.2.1
  ·exact g
 obtain ⟨k, rfl⟩ : ∃ k, a = 2 + k := ⟨a - 2, by omega⟩
 refine Nat.lt_of_lt_of_le ?_ (zK0 k)
 have e : zB5 n 2 = zB5 n 1 ++ zCj n ((1 : Nat) : Int) 3 := rfl
 rw [e, List.length_append]
 have key : ∀ b c : Int, 0 ≤ b → b ≤ 1 → b * b + n = 4 * c → 1 ≤ c → 0 < (zBq n 1 b).length := by
  intro b c hb0 hb1 hc hc1
  have hm : (b * b + n) % (4 * 1) = 0 := by rw [hc]; omega
  have hq : (b * b + n) / (4 * 1) = c := by rw [hc]; omega
  unfold zBq
  rw [if_pos hm, hq, if_pos]
  ·simp
  ·unfold zEm
   have hrd : Rdf 1 b c := ⟨by decide, by omega, by omega, hc1, fun _ => hb0⟩
   rw [(zEe (by decide)).2 hrd, Bool.and_true]
   have hd : dfB 1 b c = true := by
    unfold dfB
    exact decide_eq_true ⟨by omega, by decide⟩
   rw [hd, Bool.true_and]
   refine decide_eq_true ?_
   unfold cont
   simp
 have e2 : zCj n ((1 : Nat) : Int) 3 = ((([] : List F3) ++ zBq n ((1 : Nat) : Int) (-((1 : Nat) : Int) + ((0 : Nat) : Int))) ++ zBq n ((1 : Nat) : Int) (-((1 : Nat) : Int) + ((1 : Nat) : Int))) ++ zBq n ((1 : Nat) : Int) (-((1 : Nat) : Int) + ((2 : Nat) : Int)) := rfl
 rw [e2, List.length_append, List.length_append]
 rcases h4 with h5 | h5
 ·have := key 0 (n / 4) (by decide) (by decide) (by omega) (by omega)
  have e3 : zBq n ((1 : Nat) : Int) (-((1 : Nat) : Int) + ((1 : Nat) : Int)) = zBq n 1 0 := rfl
  rw [e3]
  omega
 ·have := key 1 ((n + 1) / 4) (by decide) (by decide) (by omega) (by omega)
  have e3 : zBq n ((1 : Nat) : Int) (-((1 : Nat) : Int) + ((2 : Nat) : Int)) = zBq n 1 1 := rfl
  rw [e3]
  omega
def rowQ : List F3 → List Fd
 | [] => []
 | P :: ps => frF P ++ rowQ ps
theorem zL3 : ∀ (ps qs : List F3), rowQ (ps ++ qs) = rowQ ps ++ rowQ qs
 | [], _ => rfl
 | P :: ps, qs => by
  show frF P ++ rowQ (ps ++ qs) = (frF P ++ rowQ ps) ++ rowQ qs
  rw [zL3 ps qs, List.append_assoc]
theorem zJb : ∀ {ps : List F3} {i : Nat} {P : F3}, ps[i]? = some P → subF (i * 6) 6 (rowQ ps) = some (frF P)
 | [], _, _, h => by simp at h
 | Q :: ps, 0, P, h => by
  simp at h
  subst h
  rfl
 | Q :: ps, i + 1, P, h => by
  have ih := zJb (ps := ps) (i := i) (P := P) (by simpa using h)
  rw [show (i + 1) * 6 = i * 6 + 6 by omega]
  exact ih
theorem Ls.box6 {T : Nat} {w : World} {B : Nat} {v : Value} {Ps : List F3} (h : Ls T 6 w B v (Ps.map frF)) (h0 : 0 < Ps.length) : ∃ g cap, v = .slice (some ⟨g, 0, none⟩) Ps.length cap ∧ B ≤ g ∧ Bq w g (Ps.length * 6) (Fq.st (rowQ Ps)) := by
 obtain ⟨us, h, hE⟩ := h
 have h5 := h
 have hul := h5.1
 rw [List.length_map] at hul
 rcases h.2 with ⟨rfl, h1⟩ | ⟨g, cap, cur, rfl, h1, h2, h3⟩
 ·rw [List.length_map] at h1; omega
 ·rw [List.length_map] at h5 ⊢
  have hat : At w g us := fun j hj => ⟨by rw [World.ownsRow.cellAt h5 j (by omega)]; simp [List.getD, List.getElem?_eq_getElem hj], by simp [World.frozen?, h2]⟩
  have all : ∀ n, n ≤ Ps.length → Fits w (rowQ (Ps.take n)) (us.take (n * 6)) := by
   intro n
   induction n with
   | zero => exact fun _ => by rw [Nat.zero_mul, List.take_zero, List.take_zero]; rfl
   | succ n ih =>
    intro hn
    obtain ⟨es, g1, g2, _, g4, _⟩ := hE n (frF (Ps[n]'(by omega))) (by simp [List.getElem?_map, List.getElem?_eq_getElem (show n < Ps.length by omega)])
    have e : us.take ((n + 1) * 6) = us.take (n * 6) ++ es := by
     rw [Nat.add_mul, Nat.one_mul, List.take_add]
     congr 1
     refine List.ext_getElem? fun j => ?_
     rcases Nat.lt_or_ge j 6 with hj | hj
     ·rw [List.getElem?_take_of_lt hj, List.getElem?_drop]
      exact g2 j hj
     ·rw [List.getElem?_eq_none (by rw [List.length_take]; omega), List.getElem?_eq_none (by omega)]
    rw [e, List.take_add_one, List.getElem?_eq_getElem (by omega), Option.toList_some, zL3]
    refine (ih (by omega)).append ?_
    show Fits w (frF _ ++ []) es
    rw [List.append_nil]
    exact g4
  have hf := all Ps.length (Nat.le_refl _)
  rw [List.take_length, ← hul, List.take_length] at hf
  exact ⟨g, cap, rfl, h1, us, hul, by omega, hat, hf.tame, us, rfl, hf⟩
theorem Ls.stepF {T m B : Nat} {w wr w1 w2 : World} {v : Value} {fss : List (List Fd)} {us es : List Value} {fs : List Fd} {o : Obj} {g cap H : Nat}
  (hO : wr.ownsRow B T m v fss.length us) (hE : ∀ i z, fss[i]? = some z → StCell m us wr v.ownBlock i z) (hB : B ≤ wr.heap.size) (hnx : Below B w wr) (hb : Below wr.heap.size wr w1)
  (hfar : FarC v.ownBlock es) (hF : Fits w1 fs es) (hn : noSl fs = true) (hm : es.length = m)
  (hown' : w2.ownsRow B T m (.slice (some ⟨g, 0, none⟩) (fss.length + 1) cap) (fss.length + 1) (us ++ es)) (hgrow : (w1.alloc o).grownBy w2 v.ownBlock) (hat : v.ownBlock = some g ∨ g = H) (hH : (w1.alloc o).heap.size = H) :
  Ls T m w2 B (.slice (some ⟨g, 0, none⟩) (fss.length + 1) cap) (fss ++ [fs]) ∧ Below B w w2 := by
 have hsz := hb.size
 have hH2 : w1.heap.size + 1 = H := by rw [← hH]; simp
 have hul := hO.1
 refine ⟨⟨us ++ es, by simpa using hown', fun i y hi => ?_⟩, ?_⟩
 ·have hne : ∀ {a : Addr} {k c : Nat} {xs : List Value} {gs : List Fd}, Fits w1 gs xs → noSl gs = true → Value.slice (some a) k c ∈ xs → k ≠ 0 → some a.block ≠ v.ownBlock → a.block ≠ g := by
   intro a k c xs gs hx hnx2 hmx hk hr e
   have h1 := hx.blk hnx2 hmx hk
   rcases hat with h | h
   ·rw [h, e] at hr; exact hr rfl
   ·omega
  by_cases hil : i < fss.length
  ·rw [List.getElem?_append_left hil] at hi
   obtain ⟨xs, g1, g2, g3, g4, g5⟩ := hE i y hi
   refine ⟨xs, g1, fun j hj => ?_, fun a k c hs hk e => ?_, ((g4.mono hb).mono (zAx w1 o)).grown hgrow g3, g5⟩
   ·have hm1 : (i + 1) * m ≤ fss.length * m := Nat.mul_le_mul_right m (by omega)
    rw [Nat.add_mul, Nat.one_mul] at hm1
    rw [List.getElem?_append_left (by omega)]
    exact g2 j hj
   ·exact hne (g4.mono hb) g5 hs hk (g3 a k c hs hk) (by simpa [Value.ownBlock] using e)
  ·have hi2 : i = fss.length := by
    rcases Nat.lt_or_ge i (fss ++ [fs]).length with h | h
    ·simp at h; omega
    ·rw [List.getElem?_eq_none h] at hi; cases hi
   subst hi2
   rw [List.getElem?_append_right (Nat.le_refl _), Nat.sub_self] at hi
   simp only [List.getElem?_cons_zero, Option.some.injEq] at hi
   subst hi
   refine ⟨es, hm, fun j hj => ?_, fun a k c hs hk e => ?_, (hF.mono (zAx w1 o)).grown hgrow hfar, hn⟩
   ·rw [List.getElem?_append_right (by omega), show fss.length * m + j - us.length = j by omega]
   ·exact hne hF hn hs hk (hfar a k c hs hk) (by simpa [Value.ownBlock] using e)
 ·exact ((hnx.trans (hb.mono hB)).alloc (by omega) o).grown hgrow (by simp; omega) (fun j hj => (hO.lt j hj).1)
theorem Ls.nil {T m : Nat} (w : World) {B : Nat} (hB : B ≤ w.heap.size) : Ls T m (w.alloc (.cells #[] T)) B (.slice (some ⟨w.heap.size, 0, none⟩) 0 0) [] :=
 ⟨[], ⟨by simp, .inr ⟨w.heap.size, 0, #[], rfl, hB, heap_alloc_new w _, by simp, by unfold maxLen; omega, by simp, by simp⟩⟩, fun i z hi => by simp at hi⟩
theorem TameRow.nil {w : World} {T : Nat} : TameRow (w.alloc (.cells #[] T)) (.slice (some ⟨w.heap.size, 0, none⟩) 0 0) := ⟨_, _, _, #[], T, rfl, heap_alloc_new w _, fun u hu => by simp at hu⟩
theorem zPu {w : World} {ops : Array Oper} {rest : List Oper} {o : Oper} {a : Act} {Q : Exit → Act → World → Prop} (hgd : o.guard = none) (x : Operand) (ho : o.op = .move x) (h : wpList Tryz.prog ops Q rest (a.put o.dst (a.eval x)) w) : wpList Tryz.prog ops Q (o :: rest) a w := by
 refine wpList_plain hgd fun K hK => ?_
 unfold Oper.wp
 have e : (execOp a.eval o).run Tryz.prog w = .ok (.value (a.eval x)) w := by
  unfold execOp
  simp only [ho]
  simp [go_sem]
 rw [e]
 exact hK _ _ h
theorem info_form : (Tryz.prog.info? 33).map (fun i => (i.zero, i.size, i.bytes)) = some (some (.agg #[.bool false, .slice none 0 0, .bool false, .slice none 0 0, .bool false, .slice none 0 0]), 6, 96) := by kernel_rfl
theorem frF_snoc (Ps : List F3) (P : F3) : (Ps ++ [P]).map frF = Ps.map frF ++ [frF P] := by simp
theorem sq_bd {a : Nat} {n : Int} (h : 3 * ((a : Int) * a) ≤ n) (hn : n ≤ 2004) : a ≤ 25 := by
 rcases Nat.lt_or_ge 25 a with g | g
 ·have h1 := Nat.mul_le_mul (show 26 ≤ a by omega) (show 26 ≤ a by omega)
  have h2 : ((a * a : Nat) : Int) = (a : Int) * a := by rw [Int.natCast_mul]
  omega
 ·exact g
theorem zPl {x y : Int} {m n : Nat} (hx : x.natAbs ≤ m) (hy : y.natAbs ≤ n) : (x * y).natAbs ≤ m * n := by
 rw [Int.natAbs_mul]
 exact Nat.mul_le_mul hx hy
theorem sq_nn {b : Int} {m : Nat} (h : b.natAbs ≤ m) : 0 ≤ b * b ∧ b * b ≤ m * m := by
 have h1 := zPl h h
 have h2 := zD0 b
 have h3 : ((m * m : Nat) : Int) = (m : Int) * m := by rw [Int.natCast_mul]
 omega
set_option maxRecDepth 100000 in
set_option maxHeartbeats 4000000 in
theorem exQList {w : World} {n : Int} (h0 : 3 ≤ n) (h1 : n ≤ 2004) :
  Calls Tryz.prog 72 #[.int .i64 n] w fun e w' => ∃ v', e = .returned v' ∧ Below w.heap.size w w' ∧ Ls 33 6 w' w.heap.size v' ((zB6 n).map frF) := by
 have HN := hidd (And.intro h0 h1)
 clear h0 h1
 obtain ⟨i0, hi, hz0, hz1, hz2⟩ := info_parts info_form
 go_enter Tryz.func72, Tryz.ntmps72
 obtain ⟨W0, rfl⟩ : ∃ W0, W0 = w := ⟨_, rfl⟩
 go_wp2
 go_loopw [3, 4] (fun vl va W => ∃ (a : Nat) (A : Int) (Ps : List F3), va = .int .i64 A ∧ A = (a : Int) ∧ 1 ≤ a ∧ a ≤ 26 ∧ (∀ j : Nat, 1 ≤ j → j < a → 3 * ((j : Int) * j) ≤ n) ∧ Ps = zB5 n a ∧ Ls 33 6 W W0.heap.size vl (Ps.map frF) ∧ TameRow W vl ∧ Below W0.heap.size W0 W) (fun _ va _ => (27 - intOf va).toNat)
 case atStart => exact ⟨1, 1, [], rfl, rfl, by omega, by omega, fun j h2 h3 => by omega, rfl, Ls.nil W0 (Nat.le_refl _), TameRow.nil, zAx _ _⟩
 case round =>
  obtain ⟨V2, rfl⟩ : ∃ V2, V2 = wr := ⟨_, rfl⟩
  obtain ⟨a, A, Ps, rfl, hA, ha1, ha2, hrun, hPE, HL, HT, HBW⟩ := hrel
  have HPE := hidd hPE
  have HAA := hidd hA
  have HRUN := hidd hrun
  have hPl : Ps.length ≤ a * 60 := by rw [hPE]; exact zIn a ha2
  clear hPE
  have hml : (Ps.map frF).length = Ps.length := List.length_map ..
  obtain ⟨ao2, cap2, rfl⟩ := id HL.shape
  rw [hml] at HL HT ⊢
  by_cases hx : 3 * ((a : Int) * a) ≤ n
  ·have hae : 3 * ((a : Int) * a) ≤ n := hx
   have ha25 := sq_bd hae (by have := HN.out; omega)
   have HQ0 := hidd (And.intro ha1 (And.intro ha25 hPl))
   have HXE := hidd hae
   have HLH := hidd HL
   have HTH := hidd HT
   have HBH := hidd HBW
   have hV := HBW.size
   have haa : A * A = (a : Int) * a := by rw [hA]
   have hs := sq_nn (b := A) (m := 25) (by omega)
   obtain ⟨t3, ht3⟩ : ∃ t3, t3 = 3 * A := ⟨_, rfl⟩
   obtain ⟨t4, ht4⟩ : ∃ t4, t4 = t3 * A := ⟨_, rfl⟩
   have hq4 : t4 = 3 * ((a : Int) * a) := by rw [ht4, ht3, Int.mul_assoc, haa]
   have W3 : Hid (IntKind.i64.wrap (3 * A) = t3) := by show _ = _; rw [ht3]; exact IntWalk.i64_in _ (by omega)
   have W4 : Hid (IntKind.i64.wrap (t3 * A) = t4) := by show _ = _; rw [← ht4]; exact IntWalk.i64_in _ (by omega)
   have T4 : Hid (t4 ≤ n) := by show _ ≤ _; omega
   have WN : Hid (IntKind.i64.wrap (-A) = -A) := IntWalk.i64_in _ (by omega)
   clear ha1 ha2 hPl HL HT HBW hx hae ha25 haa hs ht3 ht4 hq4 hA hrun hV hml
   have E := Fr.start V2
   go_upto_region 3 with (fail)
   refine rg [Fq.is (.int .i64 A), Fq.is (.int .i64 t3), Fq.is (.int .i64 A), Fq.is (.int .i64 t4), Fq.is (.int .i64 n), yT] [] [] E (fun hp => ⟨?_, ?_, ?_, ?_, ?_, ?_, tv⟩) ?_
   ·exact zAa hp fo tv (sqo 4)
   ·exact zAe (F := fun v _ => v = .int .i64 A) hp fo tv (sqi 0) (fun ρ w hc h => ⟨.int .i64 t3, by simp [execOp, go_sem, h, hc, W3.out], rfl⟩)
   ·exact zAa hp fo tv (sqo 4)
   ·exact zAg (F := fun v _ => v = .int .i64 t3) (G := fun v _ => v = .int .i64 A) hp fo tv (sqi 1) (sqi 2) (fun ρ w hc h h' => ⟨.int .i64 t4, by simp [execOp, go_sem, h, h', W4.out], rfl⟩)
   ·exact zAa hp fo tv (sqo 0)
   ·exact zAg (F := fun v _ => v = .int .i64 t4) (G := fun v _ => v = .int .i64 n) hp fo tv (sqi 3) (sqi 4) (fun ρ w hc h h' => ⟨.bool true, by simp [execOp, go_sem, h, h', T4.out], rfl⟩)
   intro L vs w1 nb hL hC hn E1
   have e0 := wXi hC 0
   have e1 := wXi hC 1
   have e2 := wXi hC 2
   have e3 := wXi hC 3
   have e4 := wXi hC 4
   have e5 := wXi hC 5
   have E := E1; try simp only [LM, zAb] at E
   rw [zAd hL]
   simp only [SP, Nat.zero_add, Nat.reduceAdd]
   rw [e0, e1, e2, e3, e4, e5]
   clear e0 e1 e2 e3 e4 e5 hC hn E1 hL vs L nb
   go_upto_region 5 with (fail)
   refine rg [Fq.is (.int .i64 A), Fq.is (.int .i64 (-A)), Fq.is (.int .i64 (-A))] [] [] E (fun hp => ⟨?_, ?_, ?_, tv⟩) ?_
   ·exact zAa hp fo tv (sqo 4)
   ·exact zAe (F := fun v _ => v = .int .i64 A) hp fo tv (sqi 0) (fun ρ w _ h => ⟨.int .i64 (-A), by simp [execOp, go_sem, h, WN.out], rfl⟩)
   ·exact zAh hp fo tv (sqi 1)
   intro L vs w2 nb hL hC hn E2
   have e0 := wXi hC 0
   have e1 := wXi hC 1
   have e2 := wXi hC 2
   have E := E2; try simp only [LM, zAb] at E
   rw [zAd hL]
   simp only [SP, Nat.zero_add, Nat.reduceAdd]
   rw [e0, e1, e2]
   clear e0 e1 e2 hC hn E2 hL vs L nb
   clear W3 W4 T4 WN
   have HL3 := hidd (HLH.out.mono E.below)
   have HT3 := hidd (HTH.out.mono E.below)
   have HB3 := hidd (HBH.out.trans (E.below.mono HBH.out.size))
   clear E HLH HTH HBH
   obtain ⟨V3, rfl⟩ : ∃ V3, V3 = w2 := ⟨_, rfl⟩
   go_wp2
   go_loopw [3, 5] (fun vl vb W => ∃ (k : Nat) (b : Int) (Qs : List F3), vb = .int .i64 b ∧ b = -A + (k : Int) ∧ k ≤ 2 * a + 1 ∧ Qs = zB5 n a ++ zCj n A k ∧ Ls 33 6 W W0.heap.size vl (Qs.map frF) ∧ TameRow W vl ∧ Below W0.heap.size W0 W) (fun _ vb _ => (27 - intOf vb).toNat)
   case atStart => exact ⟨0, -A, Ps, rfl, by omega, by omega, by rw [HPE.out]; exact (List.append_nil _).symm, HL3.out, HT3.out, HB3.out⟩
   case round =>
    clear HL3 HT3 HB3
    obtain ⟨V4, rfl⟩ : ∃ V4, V4 = wr := ⟨_, rfl⟩
    obtain ⟨k, b, Qs, rfl, hb, hk, hQE, HL, HT, HBW⟩ := hrel
    have HQE2 := hidd hQE
    have hQl : Qs.length ≤ 2000 := by have h8 := zIn (n := n) a (by have := HQ0.out.2.1; omega); have h9 := zIo (n := n) (a := A) k; have := HQ0.out.2.1; rw [hQE, List.length_append]; omega
    clear hQE
    have hml : (Qs.map frF).length = Qs.length := List.length_map ..
    obtain ⟨ao4, cap4, rfl⟩ := id HL.shape
    rw [hml] at HL HT ⊢
    by_cases hy : b ≤ A
    ·have hb0 : b.natAbs ≤ 25 := by have := HQ0.out.2.1; have := HAA.out; omega
     have hs := sq_nn hb0
     have TB := hidd hy
     have HQL := hidd hQl
     have HKE := hidd (And.intro hb (show k < 2 * a + 1 by have := HAA.out; omega))
     have HLH := hidd HL
     have HTH := hidd HT
     have HBH := hidd HBW
     have hn := HN.out
     have hA := HAA.out
     have ha := HQ0.out
     obtain ⟨bb, hbb⟩ : ∃ x, x = b * b := ⟨_, rfl⟩
     obtain ⟨s, hs2⟩ : ∃ x, x = bb + n := ⟨_, rfl⟩
     obtain ⟨d4, hd4⟩ : ∃ x, x = 4 * A := ⟨_, rfl⟩
     obtain ⟨r, hr⟩ : ∃ x, x = s % d4 := ⟨_, rfl⟩
     obtain ⟨c, hc⟩ : ∃ x, x = s / d4 := ⟨_, rfl⟩
     rw [← hbb] at hs
     have hs0 : 3 ≤ s ∧ s ≤ 3000 := by omega
     have hd0 : 4 ≤ d4 ∧ d4 ≤ 100 := by omega
     have hc0 : 0 ≤ c ∧ c ≤ 3000 := by rw [hc]; exact ⟨Int.ediv_nonneg (by omega) (by omega), Int.le_trans (Int.ediv_le_self _ (by omega)) hs0.2⟩
     have hr0 : 0 ≤ r ∧ r < d4 := by rw [hr]; exact ⟨Int.emod_nonneg _ (by omega), Int.emod_lt_of_pos _ (by omega)⟩
     have W2 : Hid (IntKind.i64.wrap (b * b) = bb) := by show _ = _; rw [← hbb]; exact IntWalk.i64_in _ (by omega)
     have W5 : Hid (IntKind.i64.wrap (bb + n) = s) := by show _ = _; rw [← hs2]; exact IntWalk.i64_in _ (by omega)
     have W6 : Hid (IntKind.i64.wrap (4 * A) = d4) := by show _ = _; rw [← hd4]; exact IntWalk.i64_in _ (by omega)
     have WR : Hid (Int.tmod s d4 = r) := by show _ = _; rw [Int.tmod_eq_emod_of_nonneg (by omega), hr]
     have WQ : Hid (Int.tdiv s d4 = c) := by show _ = _; rw [Int.tdiv_eq_ediv_of_nonneg (by omega), hc]
     have WC : Hid (IntKind.i64.wrap c = c) := IntWalk.i64_in _ (by omega)
     have D0 : Hid (¬ d4 = 0) := by show ¬ _; omega
     have FE : Hid (zBq n A b = if r = 0 then (if zEm A b c = true then [⟨A, b, c⟩] else []) else []) := by show _ = _; unfold zBq; rw [← hbb, ← hs2, ← hd4, ← hr, ← hc]
     have RA : Hid (-9223372036854775808 ≤ A ∧ A ≤ 9223372036854775807) := by show _ ∧ _; omega
     have RB_ : Hid (-9223372036854775808 ≤ b ∧ b ≤ 9223372036854775807) := by show _ ∧ _; omega
     have RC : Hid (-9223372036854775808 ≤ c ∧ c ≤ 9223372036854775807) := by show _ ∧ _; omega
     have BA : Hid (ab A < pw 3) := zAt RA.out.1 RA.out.2
     have BB : Hid (ab b < pw 3) := zAt RB_.out.1 RB_.out.2
     have BC : Hid (ab c < pw 3) := zAt RC.out.1 RC.out.2
     have HBB := hidd hb0
     clear hb0 hs hn hA ha hbb hs2 hd4 hr hc hs0 hd0 hc0 hr0 hb hk hQl HL HT HBW hy hml
     have E := Fr.start V4
     go_upto_region 6 with (fail)
     refine rg [Fq.is (.int .i64 b), Fq.is (.int .i64 A), yT] [] [] E (fun hp => ⟨?_, ?_, ?_, tv⟩) ?_
     ·exact zAa hp fo tv (sqo 5)
     ·exact zAa hp fo tv (sqo 4)
     ·exact zAg (F := fun v _ => v = .int .i64 b) (G := fun v _ => v = .int .i64 A) hp fo tv (sqi 0) (sqi 1) (fun ρ w hc h h' => ⟨.bool true, by simp [execOp, go_sem, h, h', TB.out], rfl⟩)
     intro L vs w3 nb hL hC hn E3
     have e0 := wXi hC 0
     have e1 := wXi hC 1
     have e2 := wXi hC 2
     have E := E3; try simp only [LM, zAb] at E
     rw [zAd hL]
     simp only [SP, Nat.zero_add, Nat.reduceAdd]
     rw [e0, e1, e2]
     clear e0 e1 e2 hC hn E3 hL vs L nb
     clear TB
     go_upto_region 8 with (fail)
     by_cases hr0 : r = 0
     ·have T8 : Hid (¬ ¬ r = 0) := fun e => e hr0
      have FD : Hid (zBq n A b = if zEm A b c = true then [⟨A, b, c⟩] else []) := FE.out.trans (if_pos hr0)
      have T8b := hidd hr0
      clear hr0 FE
      refine rg [Fq.is (.int .i64 b), Fq.is (.int .i64 b), Fq.is (.int .i64 bb), Fq.is (.int .i64 n), Fq.is (.int .i64 s), Fq.is (.int .i64 A), Fq.is (.int .i64 d4), Fq.is (.int .i64 r), yF] [] [] E (fun hp => ⟨?_, ?_, ?_, ?_, ?_, ?_, ?_, ?_, ?_, tv⟩) ?_
      ·exact zAa hp fo tv (sqo 5)
      ·exact zAa hp fo tv (sqo 5)
      ·exact zAg (F := fun v _ => v = .int .i64 b) (G := fun v _ => v = .int .i64 b) hp fo tv (sqi 0) (sqi 1) (fun ρ w hc h h' => ⟨.int .i64 bb, by simp [execOp, go_sem, h, h', W2.out], rfl⟩)
      ·exact zAa hp fo tv (sqo 0)
      ·exact zAg (F := fun v _ => v = .int .i64 bb) (G := fun v _ => v = .int .i64 n) hp fo tv (sqi 2) (sqi 3) (fun ρ w hc h h' => ⟨.int .i64 s, by simp [execOp, go_sem, h, h', W5.out], rfl⟩)
      ·exact zAa hp fo tv (sqo 4)
      ·exact zAe (F := fun v _ => v = .int .i64 A) hp fo tv (sqi 5) (fun ρ w hc h => ⟨.int .i64 d4, by simp [execOp, go_sem, h, hc, W6.out], rfl⟩)
      ·exact zAg (F := fun v _ => v = .int .i64 s) (G := fun v _ => v = .int .i64 d4) hp fo tv (sqi 4) (sqi 6) (fun ρ w hc h h' => ⟨.int .i64 r, by simp [execOp, go_sem, h, h', D0.out, WR.out], rfl⟩)
      ·exact zAe (F := fun v _ => v = .int .i64 r) hp fo tv (sqi 7) (fun ρ w hc h => ⟨.bool false, by simp [execOp, go_sem, h, hc, T8b.out], rfl⟩)
      intro L vs w4 nb hL hC hn E4
      have e0 := wXi hC 0
      have e1 := wXi hC 1
      have e2 := wXi hC 2
      have e3 := wXi hC 3
      have e4 := wXi hC 4
      have e5 := wXi hC 5
      have e6 := wXi hC 6
      have e7 := wXi hC 7
      have e8 := wXi hC 8
      have E := E4; try simp only [LM, zAb] at E
      rw [zAd hL]
      simp only [SP, Nat.zero_add, Nat.reduceAdd]
      rw [e0, e1, e2, e3, e4, e5, e6, e7, e8]
      clear e0 e1 e2 e3 e4 e5 e6 e7 e8 hC hn E4 hL vs L nb
      go_upto_region 9 with (fail)
      refine rg [Fq.is (.int .i64 A), Fq.is (.int .i64 b), Fq.is (.int .i64 b), Fq.is (.int .i64 b), Fq.is (.int .i64 bb), Fq.is (.int .i64 n), Fq.is (.int .i64 s), Fq.is (.int .i64 A), Fq.is (.int .i64 d4), Fq.is (.int .i64 c), Fq.st [.n A, .n b, .n c], Fq.any, Fq.any] [] [⟨11, 12, 6, Fq.st [.n 0, .n 0, .n 0], Fq.st [.n A, .n b, .n c], none⟩] E (fun hp => ⟨?_, ?_, ?_, ?_, ?_, ?_, ?_, ?_, ?_, ?_, ?_, ?_, ?_, tv⟩) ?_
      ·exact zAa hp fo tv (sqo 4)
      ·exact zAa hp fo tv (sqo 5)
      ·exact zAa hp fo tv (sqo 5)
      ·exact zAa hp fo tv (sqo 5)
      ·exact zAg (F := fun v _ => v = .int .i64 b) (G := fun v _ => v = .int .i64 b) hp fo tv (sqi 2) (sqi 3) (fun ρ w hc h h' => ⟨.int .i64 bb, by simp [execOp, go_sem, h, h', W2.out], rfl⟩)
      ·exact zAa hp fo tv (sqo 0)
      ·exact zAg (F := fun v _ => v = .int .i64 bb) (G := fun v _ => v = .int .i64 n) hp fo tv (sqi 4) (sqi 5) (fun ρ w hc h h' => ⟨.int .i64 s, by simp [execOp, go_sem, h, h', W5.out], rfl⟩)
      ·exact zAa hp fo tv (sqo 4)
      ·exact zAe (F := fun v _ => v = .int .i64 A) hp fo tv (sqi 7) (fun ρ w hc h => ⟨.int .i64 d4, by simp [execOp, go_sem, h, hc, W6.out], rfl⟩)
      ·exact zAg (F := fun v _ => v = .int .i64 s) (G := fun v _ => v = .int .i64 d4) hp fo tv (sqi 6) (sqi 8) (fun ρ w hc h h' => ⟨.int .i64 c, by simp [execOp, go_sem, h, h', D0.out, WQ.out, WC.out], rfl⟩)
      ·exact zCt (F := (Fq.is (.int .i64 A)).P) (G := (Fq.is (.int .i64 b)).P) (F3 := (Fq.is (.int .i64 c)).P) hp fo tv (zDt) (sqi 0) (sqi 1) (sqi 9) (fun v v' u w h h' g => (by subst h h' g; exact zDu RA.out RB_.out RC.out))
      ·exact aS hp (mq 0 rfl) zA3 zBj
      ·exact sS 10 hp (mq 0 rfl) zA0
      intro L vs w5 nb hL hC hn E5
      have e0 := wXi hC 0
      have e1 := wXi hC 1
      have e2 := wXi hC 2
      have e3 := wXi hC 3
      have e4 := wXi hC 4
      have e5 := wXi hC 5
      have e6 := wXi hC 6
      have e7 := wXi hC 7
      have e8 := wXi hC 8
      have e9 := wXi hC 9
      have e11 : vs 11 = .pointer (some ⟨nb 11, 0, none⟩) := hn _ (mq 0 rfl)
      have E := E5; try simp only [LM, zAb] at E
      rw [zAd hL]
      simp only [SP, Nat.zero_add, Nat.reduceAdd]
      rw [e0, e1, e2, e3, e4, e5, e6, e7, e8, e9, e11]
      generalize nb 11 = b5_11 at E ⊢
      generalize vs 10 = u5_10
      clear e0 e1 e2 e3 e4 e5 e6 e7 e8 e9 e11 hC hn E5 hL vs L nb
      clear W2 W5 W6 WR WQ WC D0 T8 T8b RA RB_ RC
      go_upto_region 10 with (fail)
      by_cases hk1 : (dfB A b c && redB A b c) = true
      ·by_cases hk2 : cont A b c = 1
       ·have K1 := hidd hk1
        have K2 : Hid (decide (cont A b c = 1) = true) := decide_eq_true hk2
        have FN : Hid (zBq n A b = [⟨A, b, c⟩]) := FD.out.trans (if_pos (by unfold zEm; rw [K1.out, K2.out]; simp))
        clear hk1 hk2
        refine rg [Fq.st [.n A, .n b, .n c], yT, yT, Fq.st [.n A, .n b, .n c], yT, yT] [none] [] E (fun hp => ⟨?_, ?_, ?_, ?_, ?_, ?_, tv⟩) ?_
        ·exact lS 0 6 hp (mq 0 rfl) zAk (sqo 6)
        ·exact wXa (Fq.st [.n A, .n b, .n c]) hp zEu (sqi 0) fun v w h => zEx h (Int.lt_of_lt_of_le BA.out (zAc (by omega))) (Int.lt_of_lt_of_le BB.out (zAc (by omega))) (Int.lt_of_lt_of_le BC.out (zAc (by omega))) K1.out
        ·exact zAa hp fo tv (sqi 1)
        ·exact lG 0 6 hp gqi (mq 0 rfl) zAk (sqo 6) fun v w h => h
        ·exact zAn (F := (Fq.st [.n A, .n b, .n c]).P) hp fo gqi (zJ3) (sqi 3) (fun v w h => zKn h (Int.lt_of_lt_of_le BA.out (zAc (by omega))) (Int.lt_of_lt_of_le BB.out (zAc (by omega))) (Int.lt_of_lt_of_le BC.out (zAc (by omega))) K2.out)
        ·exact zAg (F := fun v _ => v = .bool true) (G := fun v _ => v = .bool true) hp fo tv (sqi 2) (sqi 4) (fun ρ w hc h h' => ⟨_, by simp [execOp, go_sem, h, h'], rfl⟩)
        intro L vs w6 nb hL hC hn E6
        have e1 := wXi hC 1
        have e2 := wXi hC 2
        have e4 := wXi hC 4
        have e5 := wXi hC 5
        have E := E6; try simp only [LM, zAb] at E
        rw [zAd hL]
        simp only [SP, Nat.zero_add, Nat.reduceAdd]
        rw [e1, e2, e4, e5]
        generalize vs 0 = u6_0
        generalize vs 3 = u6_3
        clear e1 e2 e4 e5 hC hn E6 hL vs L nb
        clear K1 K2 HBB FD
        clear BA BB BC
        have HST := hidd (StAt.of_boxQ (E.box 0 rfl))
        have HL5 := HLH.out.mono E.below
        have HT5 := hidd (HTH.out.mono E.below)
        have HB5 := hidd (HBH.out.trans (E.below.mono HBH.out.size))
        clear HLH HTH HBH E
        obtain ⟨V5, rfl⟩ : ∃ V5, V5 = w6 := ⟨_, rfl⟩
        obtain ⟨us, hO, hE⟩ := HL5
        have HO := hidd hO
        have HE2 := hidd hE
        clear hO hE
        have hsz3 := HB5.out.size
        go_upto_region 11 with (fail)
        refine wp_region_list ?_
        refine zPu rfl (.tmp 3) rfl ?_
        refine zJk rfl 33 (.tmp 6) rfl zAk rfl rfl HST.out fun vc hvc => ?_
        obtain ⟨es, rfl, hfit⟩ := hvc
        have hlen := hfit.length
        obtain ⟨c0, c1, c2, c3, c4, c5, rfl⟩ := sixQ hlen
        have HFT := hidd hfit
        clear hfit hlen
        have hQl := HQL.out
        go_wp2_with (first | (at_builtin; (refine zPq (n := Qs.length) (xs := us) rfl _ _ 85 rfl W0.heap.size 33 i0 (.agg #[.bool false, .slice none 0 0, .bool false, .slice none 0 0, .bool false, .slice none 0 0]) 6 96 Tryz.underlying85 hi hz0 hz1 hz2 rfl (by decide) _ rfl (World.ownsRow.alloc (by have h9 := HO.out; rwa [List.length_map] at h9) _) (HT5.out.mono (zAx _ _)) (List.all_eq_true.1 rfl) ⟨_, 0, none⟩ 1 1 [c0, c1, c2, c3, c4, c5] rfl rfl (World.news_of_block (heap_alloc_new _ _)) HFT.out.all (by decide) (by unfold maxLen; omega) (by omega) (Nat.le_trans hsz3 (by simp)) _ rfl ?_; intro g9 cap w8 hown' hgrow hat hlt htm)) | fail)
        have hS := Ls.stepF (fs := frF ⟨A, b, c⟩) (es := [c0, c1, c2, c3, c4, c5]) HO.out HE2.out hsz3 HB5.out (Below.refl _ _) (HT5.out.far HFT.out rfl) HFT.out rfl rfl (by rw [List.length_map]; exact hown') hgrow hat rfl
        rw [List.length_map] at hS
        have hS4 := hidd hS.1
        have hS5 := hidd hS.2
        have hS6 := hidd htm
        clear hown' hgrow hat hlt htm hS HO HE2 HT5 HST HFT
        have g9 : IntKind.i64.wrap (b + 1) = b + 1 := IntWalk.i64_in _ (by have := HKE.out; have := HAA.out; have := HQ0.out.2.1; omega)
        have hw : wrap64 (b + 1) = b + 1 := by have := HKE.out; have := HAA.out; have := HQ0.out.2.1; simp only [wrap64]; omega
        go_wp2
        go_roundw
        case rel => exact ⟨k + 1, b + 1, Qs ++ [⟨A, b, c⟩], by first | go_num | (rw [hw]; go_num), by have := HKE.out.1; omega, by have := HKE.out.2; omega, by rw [HQE2.out, zCj, ← HKE.out.1, FN.out, List.append_assoc], by rw [frF_snoc]; simpa using hS4.out, by simpa using hS6.out, hS5.out⟩
        case measure => have := HKE.out; have := HAA.out; have := HQ0.out.2.1; first | (rw [hw]; simp [intOf]; omega) | (simp [intOf]; omega)
       ·have K1 := hidd hk1
        have K2 : Hid (decide (cont A b c = 1) = false) := decide_eq_false hk2
        have FN : Hid (zBq n A b = []) := FD.out.trans (if_neg (by unfold zEm; rw [K1.out, K2.out]; simp))
        clear hk1 hk2
        refine rg [Fq.st [.n A, .n b, .n c], yT, yT, Fq.st [.n A, .n b, .n c], yF, yF] [none] [] E (fun hp => ⟨?_, ?_, ?_, ?_, ?_, ?_, tv⟩) ?_
        ·exact lS 0 6 hp (mq 0 rfl) zAk (sqo 6)
        ·exact wXa (Fq.st [.n A, .n b, .n c]) hp zEu (sqi 0) fun v w h => zEx h (Int.lt_of_lt_of_le BA.out (zAc (by omega))) (Int.lt_of_lt_of_le BB.out (zAc (by omega))) (Int.lt_of_lt_of_le BC.out (zAc (by omega))) K1.out
        ·exact zAa hp fo tv (sqi 1)
        ·exact lG 0 6 hp gqi (mq 0 rfl) zAk (sqo 6) fun v w h => h
        ·exact zAn (F := (Fq.st [.n A, .n b, .n c]).P) hp fo gqi (zJ3) (sqi 3) (fun v w h => zKn h (Int.lt_of_lt_of_le BA.out (zAc (by omega))) (Int.lt_of_lt_of_le BB.out (zAc (by omega))) (Int.lt_of_lt_of_le BC.out (zAc (by omega))) K2.out)
        ·exact zAg (F := fun v _ => v = .bool true) (G := fun v _ => v = .bool false) hp fo tv (sqi 2) (sqi 4) (fun ρ w hc h h' => ⟨_, by simp [execOp, go_sem, h, h'], rfl⟩)
        intro L vs w7 nb hL hC hn E7
        have e1 := wXi hC 1
        have e2 := wXi hC 2
        have e4 := wXi hC 4
        have e5 := wXi hC 5
        have E := E7; try simp only [LM, zAb] at E
        rw [zAd hL]
        simp only [SP, Nat.zero_add, Nat.reduceAdd]
        rw [e1, e2, e4, e5]
        generalize vs 0 = u7_0
        generalize vs 3 = u7_3
        clear e1 e2 e4 e5 hC hn E7 hL vs L nb
        clear K1 HBB FD K2
        clear BA BB BC
        have HL6 := hidd (HLH.out.mono E.below)
        have HT6 := hidd (HTH.out.mono E.below)
        have HB6 := hidd (HBH.out.trans (E.below.mono HBH.out.size))
        clear HLH HTH HBH E
        have g9 : IntKind.i64.wrap (b + 1) = b + 1 := IntWalk.i64_in _ (by have := HKE.out; have := HAA.out; have := HQ0.out.2.1; omega)
        have hw : wrap64 (b + 1) = b + 1 := by have := HKE.out; have := HAA.out; have := HQ0.out.2.1; simp only [wrap64]; omega
        go_wp2
        go_roundw
        case rel => exact ⟨k + 1, b + 1, Qs, by first | go_num | (rw [hw]; go_num), by have := HKE.out.1; omega, by have := HKE.out.2; omega, by rw [HQE2.out, zCj, ← HKE.out.1, FN.out, List.append_nil], HL6.out, HT6.out, HB6.out⟩
        case measure => have := HKE.out; have := HAA.out; have := HQ0.out.2.1; first | (rw [hw]; simp [intOf]; omega) | (simp [intOf]; omega)
      ·have K1 := hidd (Bool.eq_false_iff.2 hk1)
       have FN : Hid (zBq n A b = []) := FD.out.trans (if_neg (by unfold zEm; rw [K1.out]; simp))
       clear hk1
       refine rg [Fq.st [.n A, .n b, .n c], yF, yF, Fq.is (undef), Fq.is (undef), yF] [none] [] E (fun hp => ⟨?_, ?_, ?_, ?_, ?_, ?_, tv⟩) ?_
       ·exact lS 0 6 hp (mq 0 rfl) zAk (sqo 6)
       ·exact wXa (Fq.st [.n A, .n b, .n c]) hp zEu (sqi 0) fun v w h => zEx h (Int.lt_of_lt_of_le BA.out (zAc (by omega))) (Int.lt_of_lt_of_le BB.out (zAc (by omega))) (Int.lt_of_lt_of_le BC.out (zAc (by omega))) K1.out
       ·exact zAa hp fo tv (sqi 1)
       ·exact zAi hp fo rfl gqi (fun _ => rfl)
       ·exact zAi hp fo rfl gqi (fun _ => rfl)
       ·exact zAg (F := fun v _ => v = .bool false) (G := fun v _ => v = .bool false) hp fo tv (sqi 2) (zAj (fun _ => rfl)) (fun ρ w hc h h' => ⟨_, by simp [execOp, go_sem, h, h'], rfl⟩)
       intro L vs w8 nb hL hC hn E8
       have e1 := wXi hC 1
       have e2 := wXi hC 2
       have e3 := wXi hC 3
       have e4 := wXi hC 4
       have e5 := wXi hC 5
       have E := E8; try simp only [LM, zAb] at E
       rw [zAd hL]
       simp only [SP, Nat.zero_add, Nat.reduceAdd]
       rw [e1, e2, e3, e4, e5]
       generalize vs 0 = u8_0
       clear e1 e2 e3 e4 e5 hC hn E8 hL vs L nb
       clear K1 HBB FD
       clear BA BB BC
       have HL6 := hidd (HLH.out.mono E.below)
       have HT6 := hidd (HTH.out.mono E.below)
       have HB6 := hidd (HBH.out.trans (E.below.mono HBH.out.size))
       clear HLH HTH HBH E
       have g9 : IntKind.i64.wrap (b + 1) = b + 1 := IntWalk.i64_in _ (by have := HKE.out; have := HAA.out; have := HQ0.out.2.1; omega)
       have hw : wrap64 (b + 1) = b + 1 := by have := HKE.out; have := HAA.out; have := HQ0.out.2.1; simp only [wrap64]; omega
       go_wp2
       go_roundw
       case rel => exact ⟨k + 1, b + 1, Qs, by first | go_num | (rw [hw]; go_num), by have := HKE.out.1; omega, by have := HKE.out.2; omega, by rw [HQE2.out, zCj, ← HKE.out.1, FN.out, List.append_nil], HL6.out, HT6.out, HB6.out⟩
       case measure => have := HKE.out; have := HAA.out; have := HQ0.out.2.1; first | (rw [hw]; simp [intOf]; omega) | (simp [intOf]; omega)
     ·have T8 : Hid (¬ r = 0) := hr0
      have FN : Hid (zBq n A b = []) := FE.out.trans (if_neg hr0)
      clear hr0 FE
      refine rg [Fq.is (.int .i64 b), Fq.is (.int .i64 b), Fq.is (.int .i64 bb), Fq.is (.int .i64 n), Fq.is (.int .i64 s), Fq.is (.int .i64 A), Fq.is (.int .i64 d4), Fq.is (.int .i64 r), yT] [] [] E (fun hp => ⟨?_, ?_, ?_, ?_, ?_, ?_, ?_, ?_, ?_, tv⟩) ?_
      ·exact zAa hp fo tv (sqo 5)
      ·exact zAa hp fo tv (sqo 5)
      ·exact zAg (F := fun v _ => v = .int .i64 b) (G := fun v _ => v = .int .i64 b) hp fo tv (sqi 0) (sqi 1) (fun ρ w hc h h' => ⟨.int .i64 bb, by simp [execOp, go_sem, h, h', W2.out], rfl⟩)
      ·exact zAa hp fo tv (sqo 0)
      ·exact zAg (F := fun v _ => v = .int .i64 bb) (G := fun v _ => v = .int .i64 n) hp fo tv (sqi 2) (sqi 3) (fun ρ w hc h h' => ⟨.int .i64 s, by simp [execOp, go_sem, h, h', W5.out], rfl⟩)
      ·exact zAa hp fo tv (sqo 4)
      ·exact zAe (F := fun v _ => v = .int .i64 A) hp fo tv (sqi 5) (fun ρ w hc h => ⟨.int .i64 d4, by simp [execOp, go_sem, h, hc, W6.out], rfl⟩)
      ·exact zAg (F := fun v _ => v = .int .i64 s) (G := fun v _ => v = .int .i64 d4) hp fo tv (sqi 4) (sqi 6) (fun ρ w hc h h' => ⟨.int .i64 r, by simp [execOp, go_sem, h, h', D0.out, WR.out], rfl⟩)
      ·exact zAe (F := fun v _ => v = .int .i64 r) hp fo tv (sqi 7) (fun ρ w hc h => ⟨.bool true, by simp [execOp, go_sem, h, hc, T8.out], rfl⟩)
      intro L vs w9 nb hL hC hn E9
      have e0 := wXi hC 0
      have e1 := wXi hC 1
      have e2 := wXi hC 2
      have e3 := wXi hC 3
      have e4 := wXi hC 4
      have e5 := wXi hC 5
      have e6 := wXi hC 6
      have e7 := wXi hC 7
      have e8 := wXi hC 8
      have E := E9; try simp only [LM, zAb] at E
      rw [zAd hL]
      simp only [SP, Nat.zero_add, Nat.reduceAdd]
      rw [e0, e1, e2, e3, e4, e5, e6, e7, e8]
      clear e0 e1 e2 e3 e4 e5 e6 e7 e8 hC hn E9 hL vs L nb
      clear W2 W5 W6 WR WQ WC D0 T8 RA RB_ RC HBB
      clear BA BB BC
      have HL6 := hidd (HLH.out.mono E.below)
      have HT6 := hidd (HTH.out.mono E.below)
      have HB6 := hidd (HBH.out.trans (E.below.mono HBH.out.size))
      clear HLH HTH HBH E
      have g9 : IntKind.i64.wrap (b + 1) = b + 1 := IntWalk.i64_in _ (by have := HKE.out; have := HAA.out; have := HQ0.out.2.1; omega)
      have hw : wrap64 (b + 1) = b + 1 := by have := HKE.out; have := HAA.out; have := HQ0.out.2.1; simp only [wrap64]; omega
      go_wp2
      go_roundw
      case rel => exact ⟨k + 1, b + 1, Qs, by first | go_num | (rw [hw]; go_num), by have := HKE.out.1; omega, by have := HKE.out.2; omega, by rw [HQE2.out, zCj, ← HKE.out.1, FN.out, List.append_nil], HL6.out, HT6.out, HB6.out⟩
      case measure => have := HKE.out; have := HAA.out; have := HQ0.out.2.1; first | (rw [hw]; simp [intOf]; omega) | (simp [intOf]; omega)
    ·have hA := HAA.out
     have t0 : decide (b ≤ A) = false := by simp; omega
     have HKE := hidd (show k = 2 * a + 1 by omega)
     have HLH := hidd HL
     have HTH := hidd HT
     have HBH := hidd HBW
     have ha9 := HQ0.out
     have hw : wrap64 (A + 1) = A + 1 := by simp only [wrap64]; omega
     have g9 : IntKind.i64.wrap (A + 1) = A + 1 := IntWalk.i64_in _ (by omega)
     clear HL HT HBW hb hk hQl hml
     have hli : ¬ b ≤ A := hy
     clear hy
     go_wp2
     go_roundw
     case rel => exact ⟨a + 1, A + 1, Qs, by first | go_num | (rw [hw]; go_num), by omega, by omega, by omega, fun j h2 h3 => (by rcases Nat.lt_or_ge j a with h4 | h4; exact HRUN.out j h2 h4; (rw [show j = a by omega]; exact HXE.out)), by rw [HQE2.out, HKE.out, zB5, if_neg (by omega), hA], HLH.out, HTH.out, HBH.out⟩
     case measure => first | (rw [hw]; simp [intOf]; omega) | (simp [intOf]; omega)
  ·have hae : ¬ 3 * ((a : Int) * a) ≤ n := hx
   have hsq := sq_nn (b := A) (m := 26) (by omega)
   have haa : A * A = (a : Int) * a := by rw [hA]
   obtain ⟨t3, ht3⟩ : ∃ t3, t3 = 3 * A := ⟨_, rfl⟩
   obtain ⟨t4, ht4⟩ : ∃ t4, t4 = t3 * A := ⟨_, rfl⟩
   have hq4 : t4 = 3 * ((a : Int) * a) := by rw [ht4, ht3, Int.mul_assoc, haa]
   have W3 : Hid (IntKind.i64.wrap (3 * A) = t3) := by show _ = _; rw [ht3]; exact IntWalk.i64_in _ (by omega)
   have W4 : Hid (IntKind.i64.wrap (t3 * A) = t4) := by show _ = _; rw [← ht4]; exact IntWalk.i64_in _ (by omega)
   have T4 : Hid (¬ t4 ≤ n) := by show ¬ _; omega
   have hEq : Ps = zB6 n := by rw [HPE.out, zK3 ⟨ha1, hae, HRUN.out⟩]
   have HEQ := hidd hEq
   have HLH := hidd HL
   have HBH := hidd HBW
   clear ha1 ha2 hPl HL HT HBW hx hae haa hsq ht3 ht4 hq4 hA hrun hml hEq
   have E := Fr.start V2
   go_upto_region 3 with (fail)
   refine rg [Fq.is (.int .i64 A), Fq.is (.int .i64 t3), Fq.is (.int .i64 A), Fq.is (.int .i64 t4), Fq.is (.int .i64 n), yF] [] [] E (fun hp => ⟨?_, ?_, ?_, ?_, ?_, ?_, tv⟩) ?_
   ·exact zAa hp fo tv (sqo 4)
   ·exact zAe (F := fun v _ => v = .int .i64 A) hp fo tv (sqi 0) (fun ρ w hc h => ⟨.int .i64 t3, by simp [execOp, go_sem, h, hc, W3.out], rfl⟩)
   ·exact zAa hp fo tv (sqo 4)
   ·exact zAg (F := fun v _ => v = .int .i64 t3) (G := fun v _ => v = .int .i64 A) hp fo tv (sqi 1) (sqi 2) (fun ρ w hc h h' => ⟨.int .i64 t4, by simp [execOp, go_sem, h, h', W4.out], rfl⟩)
   ·exact zAa hp fo tv (sqo 0)
   ·exact zAg (F := fun v _ => v = .int .i64 t4) (G := fun v _ => v = .int .i64 n) hp fo tv (sqi 3) (sqi 4) (fun ρ w hc h h' => ⟨.bool false, by simp [execOp, go_sem, h, h', T4.out], rfl⟩)
   intro L vs w10 nb hL hC hn E10
   have e0 := wXi hC 0
   have e1 := wXi hC 1
   have e2 := wXi hC 2
   have e3 := wXi hC 3
   have e4 := wXi hC 4
   have e5 := wXi hC 5
   have E := E10; try simp only [LM, zAb] at E
   rw [zAd hL]
   simp only [SP, Nat.zero_add, Nat.reduceAdd]
   rw [e0, e1, e2, e3, e4, e5]
   clear e0 e1 e2 e3 e4 e5 hC hn E10 hL vs L nb
   go_upto_region 12 with (fail)
   refine rg [Fq.is (.slice ao2 Ps.length cap2), Fq.is (.slice ao2 Ps.length cap2)] [] [] E (fun hp => ⟨?_, ?_, tv⟩) ?_
   ·exact zAa hp fo tv (sqo 3)
   ·exact zAh hp fo tv (sqi 0)
   intro L vs w11 nb hL hC hn E11
   have e0 := wXi hC 0
   have e1 := wXi hC 1
   have E := E11; try simp only [LM, zAb] at E
   rw [zAd hL]
   simp only [SP, Nat.zero_add, Nat.reduceAdd]
   rw [e0, e1]
   clear e0 e1 hC hn E11 hL vs L nb
   clear W3 W4 T4
   have HL3 := hidd (HLH.out.mono E.below)
   have HB3 := hidd (HBH.out.trans (E.below.mono HBH.out.size))
   clear E HLH HBH HPE HRUN HAA
   go_wp2
   refine bodyPost_ret (v := .slice ao2 Ps.length cap2) ?_ rfl ⟨_, rfl, HB3.out, ?_⟩
   ·simp [results, Tryz.results72, go_sem]
   ·rw [← HEQ.out]
    exact HL3.out

theorem act_disc (a b c p q r s : Int) : qm a b c p q r s * qm a b c p q r s - 4 * (qv a b c p r * qv a b c q s) = (b * b - 4 * (a * c)) * ((p * s - q * r) * (p * s - q * r)) := by
 unfold qv qm
 exact zI5 a b c p q r s
theorem eqF_refl (a b c : Int) : eqF a b c a b c = true := by simp [eqF]
theorem zBe {x y : Int} {m n : Nat} (hx : x.natAbs ≤ m) (hy : y.natAbs ≤ n) : (x * y).natAbs ≤ m * n := by
 rw [Int.natAbs_mul]
 exact Nat.mul_le_mul hx hy
theorem zHo {z s t : Int} (es : s = z % 8 - 3) (et : t = z / 8 % 8 - 4) : s.natAbs ≤ 4 ∧ t.natAbs ≤ 4 ∧ (s * t - 1).natAbs ≤ 17 := by
 have h1 : s.natAbs ≤ 4 := by omega
 have h2 : t.natAbs ≤ 4 := by omega
 have h3 := zBe h1 h2
 exact ⟨h1, h2, by omega⟩
theorem zD3 {x : Int} (h : x.natAbs ≤ 2000) : ab x < pw 3 := zAt (by omega) (by omega)
theorem zJy {a b c p q r s : Int} (hd : (p * s - q * r) * (p * s - q * r) = 1) : qm a b c p q r s * qm a b c p q r s - 4 * (qv a b c p r * qv a b c q s) = b * b - 4 * (a * c) := by
 rw [act_disc, hd, Int.mul_one]
section
variable {os : List Oper} {Q : Exit → Act → World → Prop} {a : Act} {p : Pq} {B B0 : Nat} {w0 : World}
variable {i s : Nat} {d : Option Tmp} {ty : TypeId} {ps : String} {af : Array Edge} {gd : Option (Nat × Bool)}
theorem zLv {x : Operand} {ad : Option Addr} {k c : Nat} (hp : p.Ok B B0) (hF : p.Free i) (hg : GdQ os a p B B0 w0 af gd) (hx : SrcQ os a p B B0 w0 af x fun v _ => v = .slice ad k c) (hC : ∀ w, (p.c i).P (.int .i64 k) w) :
  zAs os Q a p B B0 w0 i { dst := d, op := .call { callee := .builtin .len, args := #[x], argTypes := #[85] }, type := ty, pos := ps, after := af, guard := gd } :=
 zAe hp hF hg hx fun ρ w _ h => ⟨.int .i64 k, by simp [go_sem, h], hC w⟩
theorem zLs {b l c k : Nat} {x y : Operand} (hp : p.Ok B B0) (hF : p.Free i) (hg : GdQ os a p B B0 w0 af gd) (hx : SrcQ os a p B B0 w0 af x fun v _ => v = .slice (some ⟨b, 0, none⟩) l c) (hy : SrcQ os a p B B0 w0 af y fun v _ => v = .int .i64 k) (hk : k < l)
  (hC : ∀ w, (p.c i).P (.pointer (some ⟨b, k * 6, none⟩)) w) :
  zAs os Q a p B B0 w0 i { dst := d, op := .indexAddr 85 x y, type := ty, pos := ps, after := af, guard := gd } :=
 zAg hp hF hg hx hy fun ρ w _ h h' => ⟨_, by
  have h0 : (k : Int) < (l : Int) := by omega
  have h1 : (0 : Int) ≤ (k : Int) := by omega
  simp [execOp, go_sem, h, h', h0, h1], hC w⟩
end
theorem zKo {w : World} {v : Value} {D i0 i1 i2 i3 m0 m1 m2 m3 n : Int} (h : (Fq.st [.v (.int .u16 D), .v (.int .u16 i0), .v (.int .u16 i1), .v (.int .u16 i2), .v (.int .u16 i3), .v (.int .u8 m0), .v (.int .u8 m1), .v (.int .u8 m2), .v (.int .u8 m3)]).P v w) (hD : 0 ≤ D ∧ D ≤ 65535) (hn : zBr D = n) :
  Calls Tryz.prog 38 #[v] w fun e w' => ∃ v', e = .returned v' ∧ Below w.heap.size w w' ∧ v' = .int .i64 n := by
 subst hn
 exact exQSize h hD
noncomputable def zCk (n i : Int) : F3 := (zB6 n).getD (i % ((zB6 n).length : Int)).toNat ⟨0, 0, 0⟩
noncomputable def zDv (n i m : Int) : F3 := if m % 4 = 0 then zCk n i else ⟨qv (zCk n i).a (zCk n i).b (zCk n i).c (m % 8 - 3) 1, qm (zCk n i).a (zCk n i).b (zCk n i).c (m % 8 - 3) ((m % 8 - 3) * (m / 8 % 8 - 4) - 1) 1 (m / 8 % 8 - 4), qv (zCk n i).a (zCk n i).b (zCk n i).c ((m % 8 - 3) * (m / 8 % 8 - 4) - 1) (m / 8 % 8 - 4)⟩
theorem zIv {n : Int} (i : Int) (h0 : 3 ≤ n) (h1 : n ≤ 2004) (h4 : n % 4 = 0 ∨ n % 4 = 3) : ∃ j : Nat, j < (zB6 n).length ∧ i % ((zB6 n).length : Int) = j ∧ (zB6 n)[j]? = some (zCk n i) := by
 have h := listF_pos h0 h1 h4
 have h5 := Int.emod_nonneg i (show ((zB6 n).length : Int) ≠ 0 by omega)
 have h6 := Int.emod_lt_of_pos i (show (0 : Int) < ((zB6 n).length : Int) by omega)
 refine ⟨(i % ((zB6 n).length : Int)).toNat, by omega, by omega, ?_⟩
 unfold zCk
 rw [List.getD, List.getElem?_eq_getElem (by omega)]
 rfl
theorem FOk.bds {n : Int} {P : F3} (h : FOk n P) (h1 : n ≤ 2004) : 0 < P.a ∧ P.a.natAbs ≤ 668 ∧ P.b.natAbs ≤ 668 ∧ P.c.natAbs ≤ 668 := by
 obtain ⟨ha, hk, _, hd⟩ := h
 simp only [Bool.and_eq_true] at hk
 have hr := (zEe (show 0 < P.a by omega)).1 hk.2
 have h2 := hr.lo
 have h3 := hr.hi
 have h4 := hr.ac
 have e1 : P.b * P.b ≤ P.a * P.a := by
  rw [← zDp P.b]
  exact Int.mul_le_mul (by omega) (by omega) (by omega) (by omega)
 have e2 : P.a * P.a ≤ P.a * P.c := Int.mul_le_mul_of_nonneg_left h4 (by omega)
 have e3 : 1 * P.c ≤ P.a * P.c := Int.mul_le_mul_of_nonneg_right ha (by omega)
 omega
def MOk (n : Int) (P : F3) : Prop := redE P.a P.b P.c = 0 ∧ P.b * P.b - 4 * (P.a * P.c) = -n ∧ (ab P.a < pw 3 ∧ ab P.b < pw 3 ∧ ab P.c < pw 3) ∧ P.a.natAbs ≤ 100000000 ∧ P.b.natAbs ≤ 100000000 ∧ P.c.natAbs ≤ 100000000
theorem zCb {x : Int} (h : x.natAbs ≤ 100000000) : ab x < pw 3 := zAt (by omega) (by omega)
theorem zK5 {n i m : Int} (h0 : 3 ≤ n) (h1 : n ≤ 2004) (h4 : n % 4 = 0 ∨ n % 4 = 3) : MOk n (zDv n i m) := by
 obtain ⟨j, _, _, hj⟩ := zIv i h0 h1 h4
 have hF := zIp _ (List.mem_of_getElem? hj)
 obtain ⟨hp, b1, b2, b3⟩ := hF.bds h1
 have hd := hF.2.2.2
 unfold zDv
 split
 ·exact ⟨zEo (by rw [hd]; omega) hp, hd, ⟨zCb (by omega), zCb (by omega), zCb (by omega)⟩, by omega, by omega, by omega⟩
 ·obtain ⟨s, es⟩ : ∃ s, s = m % 8 - 3 := ⟨_, rfl⟩
  obtain ⟨t, et⟩ : ∃ t, t = m / 8 % 8 - 4 := ⟨_, rfl⟩
  rw [← es, ← et]
  obtain ⟨t1, t2, t3⟩ := zHo es et
  generalize zCk n i = P at hp b1 b2 b3 hd ⊢
  have hdet : (s * t - (s * t - 1) * 1) * (s * t - (s * t - 1) * 1) = 1 := by
   rw [show s * t - (s * t - 1) * 1 = 1 by omega]
   rfl
  have h5 := zJy (a := P.a) (b := P.b) (c := P.c) hdet
  have hpos := qv_pos (x := s) (y := 1) hp (by rw [hd]; omega) (by omega)
  have qb : ∀ x y : Int, x.natAbs ≤ 17 → y.natAbs ≤ 17 → (qv P.a P.b P.c x y).natAbs ≤ 100000000 := by
   intro x y hx hy
   have m1 := zBe b1 (zBe hx hx)
   have m2 := zBe b2 (zBe hx hy)
   have m3 := zBe b3 (zBe hy hy)
   unfold qv
   omega
  have qc : (qm P.a P.b P.c s (s * t - 1) 1 t).natAbs ≤ 100000000 := by
   have u1 : (1 : Int).natAbs ≤ 17 := by decide
   have m1 := zBe b1 (zBe (show s.natAbs ≤ 17 by omega) t3)
   have m2 := zBe b3 (zBe u1 (show t.natAbs ≤ 17 by omega))
   have m3 := zBe (show s.natAbs ≤ 17 by omega) (show t.natAbs ≤ 17 by omega)
   have m4 := zBe t3 u1
   have m5 := zBe b2 (show (s * t + (s * t - 1) * 1).natAbs ≤ 17 * 17 + 17 * 17 by omega)
   unfold qm
   omega
  refine ⟨zEo ?_ hpos, ?_, ⟨zCb (qb _ _ (by omega) (by decide)), zCb qc, zCb (qb _ _ t3 (by omega))⟩, qb _ _ (by omega) (by decide), qc, qb _ _ t3 (by omega)⟩
  ·show qm _ _ _ _ _ _ _ * qm _ _ _ _ _ _ _ - 4 * (qv _ _ _ _ _ * qv _ _ _ _ _) < 0
   rw [h5, hd]; omega
  ·show qm _ _ _ _ _ _ _ * qm _ _ _ _ _ _ _ - 4 * (qv _ _ _ _ _ * qv _ _ _ _ _) = -n
   rw [h5]; exact hd
set_option maxRecDepth 100000 in
set_option maxHeartbeats 4000000 in
theorem exQMade0 {w : World} {v : Value} {D i0 i1 i2 i3 m0 m1 m2 m3 : Int} (h : (Fq.st [.v (.int .u16 D), .v (.int .u16 i0), .v (.int .u16 i1), .v (.int .u16 i2), .v (.int .u16 i3), .v (.int .u8 m0), .v (.int .u8 m1), .v (.int .u8 m2), .v (.int .u8 m3)]).P v w) (hD : 0 ≤ D ∧ D ≤ 65535) (hi : 0 ≤ i0 ∧ i0 ≤ 65535) (hm : 0 ≤ m0 ∧ m0 ≤ 255) {n : Int} (hn : zBr D = n) {P : F3} (hP : zDv n i0 m0 = P) :
  Calls Tryz.prog 33 #[v, .int .i64 0] w fun e w' => ∃ v', e = .returned v' ∧ Below w.heap.size w w' ∧ (Fq.st [.n P.a, .n P.b, .n P.c]).P v' w' := by
 have hsz := zHj D
 rw [hn] at hsz
 obtain ⟨j, hj, hQj, hPj⟩ := zIv i0 (by omega) (by omega) hsz.2.2
 have hFo := (zIp _ (List.mem_of_getElem? hPj)).bds hsz.2.1
 obtain ⟨F, hF⟩ : ∃ F, F = zCk n i0 := ⟨_, rfl⟩
 rw [← hF] at hPj hFo
 obtain ⟨ps, hps⟩ : ∃ ps, ps = zB6 n := ⟨_, rfl⟩
 rw [← hps] at hj hQj hPj
 obtain ⟨nl, hnl⟩ : ∃ nl, nl = ps.length := ⟨_, rfl⟩
 rw [← hnl] at hj hQj
 have BF : Hid (ab F.a < pw 3 ∧ ab F.b < pw 3 ∧ ab F.c < pw 3) := ⟨zCb (by omega), zCb (by omega), zCb (by omega)⟩
 have HSZ := hidd hsz
 have HNE := hidd hn
 have HFE := hidd hF
 have HPS := hidd hps
 have HNL := hidd hnl
 have HJ := hidd hj
 have HPJ := hidd hPj
 have HDD := hidd hD
 have HMM := hidd hm
 have HPE := hidd hP
 have I16 : Hid (IntKind.i64.wrap i0 = i0) := IntWalk.i64_in _ (by omega)
 have HLN : Hid (¬ nl = 0) := by show ¬ _; omega
 have HTJ : Hid (Int.tmod i0 (nl : Int) = (j : Int)) := by show _ = _; rw [Int.tmod_eq_emod_of_nonneg (by omega), hQj]
 obtain ⟨r, hr⟩ : ∃ r, r = m0 % 4 := ⟨_, rfl⟩
 have C4 : Hid (Int.tmod m0 4 = r) := by show _ = _; rw [Int.tmod_eq_emod_of_nonneg (by omega), hr]
 have HR := hidd hr
 obtain ⟨s, es⟩ : ∃ s, s = m0 % 8 - 3 := ⟨_, rfl⟩
 obtain ⟨t, et⟩ : ∃ t, t = m0 / 8 % 8 - 4 := ⟨_, rfl⟩
 have htb := zHo es et
 have Bs : Hid (ab s < pw 3) := zD3 (by omega)
 have Bt : Hid (ab t < pw 3) := zD3 (by omega)
 have Bu : Hid (ab (s * t - 1) < pw 3) := zD3 (by omega)
 have Es := hidd es
 have Et := hidd et
 clear hsz hj hQj hPj hFo hF hps hnl hr htb es et hD hi hm hn hP
 obtain ⟨_, rfl, hf0⟩ := h
 have hF0 := hf0
 obtain ⟨_, rfl, _, _, rfl, _, _, rfl, _, _, rfl, _, _, rfl, _, _, rfl, _, _, rfl, _, _, rfl, _, _, rfl, _, rfl⟩ := hf0
 obtain ⟨w1, b1, hw1, hb1, hs1, E⟩ := gS w 57 hF0
 obtain ⟨w2, b2, hw2, hb2, hs2, E⟩ := fO E hs1 33 zA3
 go_enter Tryz.func33, Tryz.ntmps33
 go_upto_region 1 with (fail)
 rw [← hw1]
 rw [← hw2]
 rw [← hb2]
 rw [← hb1]
 clear hw1 hw2 hb1 hb2 hs2 hs1
 refine wp_region_list ?_
 refine zJk rfl 57 (.tmp 2) rfl zHg rfl rfl (StAt.of_boxQ (E.box 1 rfl)) fun vc hvc => ?_
 go_upto_region 2 with (first | (go_at_call 38; (with_reducible refine (zKo hvc HDD.out HNE.out).mono ?_); rintro e w8 ⟨v8, rfl, hB8, rfl⟩) | (go_at_call 72; (with_reducible refine (exQList HSZ.out.1 HSZ.out.2.1).mono ?_); rintro e w9 ⟨vL, rfl, hB9, hLs⟩; obtain ⟨gg, cp, rfl, hgg, hbox⟩ := hLs.box6 (by rw [← HPS.out]; have := HJ.out; have := HNL.out; omega)) | fail)
 rw [← HPS.out, ← HNL.out] at hbox
 first | rw [← HPS.out, ← HNL.out] | skip
 replace E := Fr.addQ E (hB8.trans (hB9.mono hB8.size)) (Nat.le_trans hB8.size hgg) hbox
 clear hvc hB8 hB9 hLs hgg hbox
 refine rg [Fq.is (.slice (some ⟨gg, 0, none⟩) nl cp), Fq.is (.int .i64 0), Fq.is (.int .i64 0), ip b1 1, ip b1 1, Fq.is (.int .u16 i0), Fq.is (.int .i64 i0), Fq.is (.slice (some ⟨gg, 0, none⟩) nl cp), Fq.is (.int .i64 ((nl : Nat) : Int)), Fq.is (.int .i64 (j : Int)), Fq.is (.pointer (some ⟨gg, j * 6, none⟩)), Fq.st [.n F.a, .n F.b, .n F.c], Fq.any, Fq.any] N3 [⟨12, 13, 6, Fq.st [.n 0, .n 0, .n 0], Fq.st [.n F.a, .n F.b, .n F.c], none⟩] E (fun hp => ⟨?_, ?_, ?_, ?_, ?_, ?_, ?_, ?_, ?_, ?_, ?_, ?_, ?_, ?_, tv⟩) ?_
 ·exact zAa hp fo tv (sqo 5)
 ·exact zAa hp fo tv (sqo 1)
 ·exact zAe (F := fun v _ => v = .int .i64 0) hp fo tv (sqi 1) (fun ρ w hc h => ⟨.int .i64 0, by simp [execOp, go_sem, h, hc], rfl⟩)
 ·exact qa b1 0 1 hp (sqo 2)
 ·exact zAg (F := fun v _ => v = .pointer (some ⟨b1, 1, none⟩)) (G := fun v _ => v = .int .i64 0) hp fo tv (sqi 3) (sqi 2) (fun ρ w hc h h' => ⟨.pointer (some ⟨b1, 1, none⟩), by simp [execOp, go_sem, h, h'], rfl⟩)
 ·exact wXc 1 hp (mq 2 rfl) (sqi 4)
 ·exact zAe (F := fun v _ => v = .int .u16 i0) hp fo tv (sqi 5) (fun ρ w hc h => ⟨.int .i64 i0, by simp [execOp, go_sem, h, I16.out], rfl⟩)
 ·exact zAa hp fo tv (sqo 5)
 ·exact zLv hp fo tv (sqi 7) (fun _ => rfl)
 ·exact zAg (F := fun v _ => v = .int .i64 i0) (G := fun v _ => v = .int .i64 ((nl : Nat) : Int)) hp fo tv (sqi 6) (sqi 8) (fun ρ w hc h h' => ⟨.int .i64 (j : Int), by simp [execOp, go_sem, h, h', HLN.out, HTJ.out], rfl⟩)
 ·exact zLs (b := gg) (l := nl) (c := cp) (k := j) hp fo tv (sqi 0) (sqi 9) HJ.out (fun _ => rfl)
 ·exact zDx (off := j * 6) (l := 6) (fs := rowQ ps) (gs := [.n F.a, .n F.b, .n F.c]) hp fo tv (mq 0 rfl) (.inl rfl) rfl zAk (zJb HPJ.out) (sqi 10) (fun v w h => h)
 ·exact aS hp (mq 0 rfl) zA3 zBj
 ·exact sS 11 hp (mq 0 rfl) zA0
 intro L vs w3 nb hL hC hn E3
 have e0 := wXi hC 0
 have e1 := wXi hC 1
 have e2 := wXi hC 2
 have e3 := wXi hC 3
 have e4 := wXi hC 4
 have e5 := wXi hC 5
 have e6 := wXi hC 6
 have e7 := wXi hC 7
 have e8 := wXi hC 8
 have e9 := wXi hC 9
 have e10 := wXi hC 10
 have e12 : vs 12 = .pointer (some ⟨nb 12, 0, none⟩) := hn _ (mq 0 rfl)
 have E := E3; try simp only [LM, zAb] at E
 rw [zAd hL]
 simp only [SP, Nat.zero_add, Nat.reduceAdd]
 rw [e0, e1, e2, e3, e4, e5, e6, e7, e8, e9, e10, e12]
 generalize nb 12 = b3_12 at E ⊢
 generalize vs 11 = u3_11
 clear e0 e1 e2 e3 e4 e5 e6 e7 e8 e9 e10 e12 hC hn E3 hL vs L nb
 clear I16 HLN HTJ HJ HPJ HNL HPS HNE HSZ HDD
 go_upto_region 3 with (fail)
 by_cases hz : r = 0
 ·have T6 := hidd hz
  have hQ : F = P := by rw [HFE.out, ← HPE.out]; unfold zDv; rw [if_pos (HR.out.symm.trans hz)]
  have HQ := hidd hQ
  clear hz hQ
  refine rg [Fq.is (.int .i64 0), Fq.is (.int .i64 0), ip b1 5, ip b1 5, Fq.is (.int .u8 m0), Fq.is (.int .u8 r), yT] N4 [] E (fun hp => ⟨?_, ?_, ?_, ?_, ?_, ?_, ?_, tv⟩) ?_
  ·exact zAa hp fo tv (sqo 1)
  ·exact zAe (F := fun v _ => v = .int .i64 0) hp fo tv (sqi 0) (fun ρ w hc h => ⟨.int .i64 0, by simp [execOp, go_sem, h, hc], rfl⟩)
  ·exact qa b1 0 5 hp (sqo 2)
  ·exact zAg (F := fun v _ => v = .pointer (some ⟨b1, 5, none⟩)) (G := fun v _ => v = .int .i64 0) hp fo tv (sqi 2) (sqi 1) (fun ρ w hc h h' => ⟨.pointer (some ⟨b1, 5, none⟩), by simp [execOp, go_sem, h, h'], rfl⟩)
  ·exact wXc 5 hp (mq 3 rfl) (sqi 3)
  ·exact zAe (F := fun v _ => v = .int .u8 m0) hp fo tv (sqi 4) (fun ρ w hc h => ⟨.int .u8 r, by simp [execOp, go_sem, h, hc, C4.out], rfl⟩)
  ·exact zAe (F := fun v _ => v = .int .u8 r) hp fo tv (sqi 5) (fun ρ w hc h => ⟨.bool true, by simp [execOp, go_sem, h, hc, T6.out], rfl⟩)
  intro L vs w4 nb hL hC hn E4
  have e0 := wXi hC 0
  have e1 := wXi hC 1
  have e2 := wXi hC 2
  have e3 := wXi hC 3
  have e4 := wXi hC 4
  have e5 := wXi hC 5
  have e6 := wXi hC 6
  have E := E4; try simp only [LM, zAb] at E
  rw [zAd hL]
  simp only [SP, Nat.zero_add, Nat.reduceAdd]
  rw [e0, e1, e2, e3, e4, e5, e6]
  clear e0 e1 e2 e3 e4 e5 e6 hC hn E4 hL vs L nb
  go_upto_region 4 with (fail)
  refine rg [Fq.st [.n F.a, .n F.b, .n F.c], Fq.any] [none, none, some (1, Fq.st [.n F.a, .n F.b, .n F.c]), none] [] E (fun hp => ⟨?_, ?_, tv⟩) ?_
  ·exact lS 0 6 hp (mq 0 rfl) zAk (sqo 6)
  ·exact sO 0 0 hp (mq 2 rfl) zA0 (sqo 4)
  intro L vs w5 nb hL hC hn E5
  have E := E5; try simp only [LM, zAb] at E
  rw [zAd hL]
  simp only [SP, Nat.zero_add, Nat.reduceAdd]
  generalize vs 0 = u5_0
  clear  hC hn E5 hL vs L nb
  obtain ⟨_, _, hccr, hffr⟩ := zBh (E.box 2 rfl)
  have hPr := hffr
  obtain ⟨r_p0, r_q0, _, rfl, _r_n0, r_p1, r_q1, _, rfl, _r_n1, r_p2, r_q2, _, rfl, _r_n2, rfl⟩ := hffr
  have cr0 := hccr 0 (by simp)
  have cr1 := hccr 1 (by simp)
  have cr2 := hccr 2 (by simp)
  have cr3 := hccr 3 (by simp)
  have cr4 := hccr 4 (by simp)
  have cr5 := hccr 5 (by simp)
  simp only [List.getD_cons_zero, List.getD_cons_succ] at cr0 cr1 cr2 cr3 cr4 cr5
  clear hccr
  have hQ := HQ.out
  clear T6 HQ C4 HR HFE HMM HPE Es Et
  rw [hQ] at hPr
  clear BF Bs Bt Bu
  go_wp2
  refine bodyPost_ret (v := .agg #[r_p0, r_q0, r_p1, r_q1, r_p2, r_q2]) ?_ rfl ⟨_, rfl, E.below, ⟨_, rfl, hPr⟩⟩
  simp [results, Tryz.results33, go_sem, cr0, cr1, cr2, cr3, cr4, cr5]
 ·have T6 := hidd hz
  have hQ : P = ⟨qv F.a F.b F.c s 1, qm F.a F.b F.c s (s * t - 1) 1 t, qv F.a F.b F.c (s * t - 1) t⟩ := by rw [← HPE.out]; unfold zDv; rw [if_neg (fun e => hz (HR.out.trans e)), ← HFE.out, ← Es.out, ← Et.out]
  have HQ := hidd hQ
  clear hz hQ
  refine rg [Fq.is (.int .i64 0), Fq.is (.int .i64 0), ip b1 5, ip b1 5, Fq.is (.int .u8 m0), Fq.is (.int .u8 r), yF] N4 [] E (fun hp => ⟨?_, ?_, ?_, ?_, ?_, ?_, ?_, tv⟩) ?_
  ·exact zAa hp fo tv (sqo 1)
  ·exact zAe (F := fun v _ => v = .int .i64 0) hp fo tv (sqi 0) (fun ρ w hc h => ⟨.int .i64 0, by simp [execOp, go_sem, h, hc], rfl⟩)
  ·exact qa b1 0 5 hp (sqo 2)
  ·exact zAg (F := fun v _ => v = .pointer (some ⟨b1, 5, none⟩)) (G := fun v _ => v = .int .i64 0) hp fo tv (sqi 2) (sqi 1) (fun ρ w hc h h' => ⟨.pointer (some ⟨b1, 5, none⟩), by simp [execOp, go_sem, h, h'], rfl⟩)
  ·exact wXc 5 hp (mq 3 rfl) (sqi 3)
  ·exact zAe (F := fun v _ => v = .int .u8 m0) hp fo tv (sqi 4) (fun ρ w hc h => ⟨.int .u8 r, by simp [execOp, go_sem, h, hc, C4.out], rfl⟩)
  ·exact zAe (F := fun v _ => v = .int .u8 r) hp fo tv (sqi 5) (fun ρ w hc h => ⟨.bool false, by simp [execOp, go_sem, h, hc, T6.out], rfl⟩)
  intro L vs w6 nb hL hC hn E6
  have e0 := wXi hC 0
  have e1 := wXi hC 1
  have e2 := wXi hC 2
  have e3 := wXi hC 3
  have e4 := wXi hC 4
  have e5 := wXi hC 5
  have e6 := wXi hC 6
  have E := E6; try simp only [LM, zAb] at E
  rw [zAd hL]
  simp only [SP, Nat.zero_add, Nat.reduceAdd]
  rw [e0, e1, e2, e3, e4, e5, e6]
  clear e0 e1 e2 e3 e4 e5 e6 hC hn E6 hL vs L nb
  go_upto_region 5 with (fail)
  refine rg [Fq.st [.n F.a, .n F.b, .n F.c], Fq.is (.int .i64 0), Fq.is (.int .i64 0), ip b1 5, ip b1 5, Fq.is (.int .u8 m0), Fq.st [.n s, .n (s * t - 1), .n 1, .n t], Fq.st [.n (qv F.a F.b F.c s 1), .n (qm F.a F.b F.c s (s * t - 1) 1 t), .n (qv F.a F.b F.c (s * t - 1) t)], Fq.any] [none, none, some (8, Fq.st [.n (qv F.a F.b F.c s 1), .n (qm F.a F.b F.c s (s * t - 1) 1 t), .n (qv F.a F.b F.c (s * t - 1) t)]), none] [] E (fun hp => ⟨?_, ?_, ?_, ?_, ?_, ?_, ?_, ?_, ?_, tv⟩) ?_
  ·exact lS 0 6 hp (mq 0 rfl) zAk (sqo 6)
  ·exact zAa hp fo tv (sqo 1)
  ·exact zAe (F := fun v _ => v = .int .i64 0) hp fo tv (sqi 1) (fun ρ w hc h => ⟨.int .i64 0, by simp [execOp, go_sem, h, hc], rfl⟩)
  ·exact qa b1 0 5 hp (sqo 2)
  ·exact zAg (F := fun v _ => v = .pointer (some ⟨b1, 5, none⟩)) (G := fun v _ => v = .int .i64 0) hp fo tv (sqi 3) (sqi 2) (fun ρ w hc h h' => ⟨.pointer (some ⟨b1, 5, none⟩), by simp [execOp, go_sem, h, h'], rfl⟩)
  ·exact wXc 5 hp (mq 3 rfl) (sqi 4)
  ·exact wXa (Fq.is (.int .u8 m0)) hp zH5 (sqi 5) fun v w h => (by subst h; exact zIg HMM.out Es.out Et.out)
  ·exact wXb (Fq.st [.n F.a, .n F.b, .n F.c]) (Fq.st [.n s, .n (s * t - 1), .n 1, .n t]) hp zH3 (sqi 0) (sqi 6) fun v v' w h h' => zIe h h' (Int.lt_of_lt_of_le BF.out.1 (zAc (by omega))) (Int.lt_of_lt_of_le BF.out.2.1 (zAc (by omega))) (Int.lt_of_lt_of_le BF.out.2.2 (zAc (by omega))) (Int.lt_of_lt_of_le Bs.out (zAc (by omega))) (Int.lt_of_lt_of_le Bu.out (zAc (by omega))) (Int.lt_of_lt_of_le (zAt (by decide) (by decide)) (zAc (by omega))) (Int.lt_of_lt_of_le Bt.out (zAc (by omega)))
  ·exact sO 0 7 hp (mq 2 rfl) zA0 (sqo 4)
  intro L vs w7 nb hL hC hn E7
  have e1 := wXi hC 1
  have e2 := wXi hC 2
  have e3 := wXi hC 3
  have e4 := wXi hC 4
  have e5 := wXi hC 5
  have E := E7; try simp only [LM, zAb] at E
  rw [zAd hL]
  simp only [SP, Nat.zero_add, Nat.reduceAdd]
  rw [e1, e2, e3, e4, e5]
  generalize vs 0 = u7_0
  generalize vs 6 = u7_6
  generalize vs 7 = u7_7
  clear e1 e2 e3 e4 e5 hC hn E7 hL vs L nb
  obtain ⟨_, _, hccr, hffr⟩ := zBh (E.box 2 rfl)
  have hPr := hffr
  obtain ⟨r_p0, r_q0, _, rfl, _r_n0, r_p1, r_q1, _, rfl, _r_n1, r_p2, r_q2, _, rfl, _r_n2, rfl⟩ := hffr
  have cr0 := hccr 0 (by simp)
  have cr1 := hccr 1 (by simp)
  have cr2 := hccr 2 (by simp)
  have cr3 := hccr 3 (by simp)
  have cr4 := hccr 4 (by simp)
  have cr5 := hccr 5 (by simp)
  simp only [List.getD_cons_zero, List.getD_cons_succ] at cr0 cr1 cr2 cr3 cr4 cr5
  clear hccr
  have hQ := HQ.out
  clear T6 HQ C4 HR HFE HMM HPE Es Et
  rw [show qv F.a F.b F.c s 1 = P.a by rw [hQ], show qm F.a F.b F.c s (s * t - 1) 1 t = P.b by rw [hQ], show qv F.a F.b F.c (s * t - 1) t = P.c by rw [hQ]] at hPr
  clear BF Bs Bt Bu
  go_wp2
  refine bodyPost_ret (v := .agg #[r_p0, r_q0, r_p1, r_q1, r_p2, r_q2]) ?_ rfl ⟨_, rfl, E.below, ⟨_, rfl, hPr⟩⟩
  simp [results, Tryz.results33, go_sem, cr0, cr1, cr2, cr3, cr4, cr5]

set_option maxRecDepth 100000 in
set_option maxHeartbeats 4000000 in
theorem exQMade1 {w : World} {v : Value} {D i0 i1 i2 i3 m0 m1 m2 m3 : Int} (h : (Fq.st [.v (.int .u16 D), .v (.int .u16 i0), .v (.int .u16 i1), .v (.int .u16 i2), .v (.int .u16 i3), .v (.int .u8 m0), .v (.int .u8 m1), .v (.int .u8 m2), .v (.int .u8 m3)]).P v w) (hD : 0 ≤ D ∧ D ≤ 65535) (hi : 0 ≤ i1 ∧ i1 ≤ 65535) (hm : 0 ≤ m1 ∧ m1 ≤ 255) {n : Int} (hn : zBr D = n) {P : F3} (hP : zDv n i1 m1 = P) :
  Calls Tryz.prog 33 #[v, .int .i64 1] w fun e w' => ∃ v', e = .returned v' ∧ Below w.heap.size w w' ∧ (Fq.st [.n P.a, .n P.b, .n P.c]).P v' w' := by
 have hsz := zHj D
 rw [hn] at hsz
 obtain ⟨j, hj, hQj, hPj⟩ := zIv i1 (by omega) (by omega) hsz.2.2
 have hFo := (zIp _ (List.mem_of_getElem? hPj)).bds hsz.2.1
 obtain ⟨F, hF⟩ : ∃ F, F = zCk n i1 := ⟨_, rfl⟩
 rw [← hF] at hPj hFo
 obtain ⟨ps, hps⟩ : ∃ ps, ps = zB6 n := ⟨_, rfl⟩
 rw [← hps] at hj hQj hPj
 obtain ⟨nl, hnl⟩ : ∃ nl, nl = ps.length := ⟨_, rfl⟩
 rw [← hnl] at hj hQj
 have BF : Hid (ab F.a < pw 3 ∧ ab F.b < pw 3 ∧ ab F.c < pw 3) := ⟨zCb (by omega), zCb (by omega), zCb (by omega)⟩
 have HSZ := hidd hsz
 have HNE := hidd hn
 have HFE := hidd hF
 have HPS := hidd hps
 have HNL := hidd hnl
 have HJ := hidd hj
 have HPJ := hidd hPj
 have HDD := hidd hD
 have HMM := hidd hm
 have HPE := hidd hP
 have I16 : Hid (IntKind.i64.wrap i1 = i1) := IntWalk.i64_in _ (by omega)
 have HLN : Hid (¬ nl = 0) := by show ¬ _; omega
 have HTJ : Hid (Int.tmod i1 (nl : Int) = (j : Int)) := by show _ = _; rw [Int.tmod_eq_emod_of_nonneg (by omega), hQj]
 obtain ⟨r, hr⟩ : ∃ r, r = m1 % 4 := ⟨_, rfl⟩
 have C4 : Hid (Int.tmod m1 4 = r) := by show _ = _; rw [Int.tmod_eq_emod_of_nonneg (by omega), hr]
 have HR := hidd hr
 obtain ⟨s, es⟩ : ∃ s, s = m1 % 8 - 3 := ⟨_, rfl⟩
 obtain ⟨t, et⟩ : ∃ t, t = m1 / 8 % 8 - 4 := ⟨_, rfl⟩
 have htb := zHo es et
 have Bs : Hid (ab s < pw 3) := zD3 (by omega)
 have Bt : Hid (ab t < pw 3) := zD3 (by omega)
 have Bu : Hid (ab (s * t - 1) < pw 3) := zD3 (by omega)
 have Es := hidd es
 have Et := hidd et
 clear hsz hj hQj hPj hFo hF hps hnl hr htb es et hD hi hm hn hP
 obtain ⟨_, rfl, hf0⟩ := h
 have hF0 := hf0
 obtain ⟨_, rfl, _, _, rfl, _, _, rfl, _, _, rfl, _, _, rfl, _, _, rfl, _, _, rfl, _, _, rfl, _, _, rfl, _, rfl⟩ := hf0
 obtain ⟨w1, b1, hw1, hb1, hs1, E⟩ := gS w 57 hF0
 obtain ⟨w2, b2, hw2, hb2, hs2, E⟩ := fO E hs1 33 zA3
 go_enter Tryz.func33, Tryz.ntmps33
 go_upto_region 1 with (fail)
 rw [← hw1]
 rw [← hw2]
 rw [← hb2]
 rw [← hb1]
 clear hw1 hw2 hb1 hb2 hs2 hs1
 refine wp_region_list ?_
 refine zJk rfl 57 (.tmp 2) rfl zHg rfl rfl (StAt.of_boxQ (E.box 1 rfl)) fun vc hvc => ?_
 go_upto_region 2 with (first | (go_at_call 38; (with_reducible refine (zKo hvc HDD.out HNE.out).mono ?_); rintro e w8 ⟨v8, rfl, hB8, rfl⟩) | (go_at_call 72; (with_reducible refine (exQList HSZ.out.1 HSZ.out.2.1).mono ?_); rintro e w9 ⟨vL, rfl, hB9, hLs⟩; obtain ⟨gg, cp, rfl, hgg, hbox⟩ := hLs.box6 (by rw [← HPS.out]; have := HJ.out; have := HNL.out; omega)) | fail)
 rw [← HPS.out, ← HNL.out] at hbox
 first | rw [← HPS.out, ← HNL.out] | skip
 replace E := Fr.addQ E (hB8.trans (hB9.mono hB8.size)) (Nat.le_trans hB8.size hgg) hbox
 clear hvc hB8 hB9 hLs hgg hbox
 refine rg [Fq.is (.slice (some ⟨gg, 0, none⟩) nl cp), Fq.is (.int .i64 1), Fq.is (.int .i64 1), ip b1 1, ip b1 2, Fq.is (.int .u16 i1), Fq.is (.int .i64 i1), Fq.is (.slice (some ⟨gg, 0, none⟩) nl cp), Fq.is (.int .i64 ((nl : Nat) : Int)), Fq.is (.int .i64 (j : Int)), Fq.is (.pointer (some ⟨gg, j * 6, none⟩)), Fq.st [.n F.a, .n F.b, .n F.c], Fq.any, Fq.any] N3 [⟨12, 13, 6, Fq.st [.n 0, .n 0, .n 0], Fq.st [.n F.a, .n F.b, .n F.c], none⟩] E (fun hp => ⟨?_, ?_, ?_, ?_, ?_, ?_, ?_, ?_, ?_, ?_, ?_, ?_, ?_, ?_, tv⟩) ?_
 ·exact zAa hp fo tv (sqo 5)
 ·exact zAa hp fo tv (sqo 1)
 ·exact zAe (F := fun v _ => v = .int .i64 1) hp fo tv (sqi 1) (fun ρ w hc h => ⟨.int .i64 1, by simp [execOp, go_sem, h, hc], rfl⟩)
 ·exact qa b1 0 1 hp (sqo 2)
 ·exact zAg (F := fun v _ => v = .pointer (some ⟨b1, 1, none⟩)) (G := fun v _ => v = .int .i64 1) hp fo tv (sqi 3) (sqi 2) (fun ρ w hc h h' => ⟨.pointer (some ⟨b1, 2, none⟩), by simp [execOp, go_sem, h, h'], rfl⟩)
 ·exact wXc 2 hp (mq 2 rfl) (sqi 4)
 ·exact zAe (F := fun v _ => v = .int .u16 i1) hp fo tv (sqi 5) (fun ρ w hc h => ⟨.int .i64 i1, by simp [execOp, go_sem, h, I16.out], rfl⟩)
 ·exact zAa hp fo tv (sqo 5)
 ·exact zLv hp fo tv (sqi 7) (fun _ => rfl)
 ·exact zAg (F := fun v _ => v = .int .i64 i1) (G := fun v _ => v = .int .i64 ((nl : Nat) : Int)) hp fo tv (sqi 6) (sqi 8) (fun ρ w hc h h' => ⟨.int .i64 (j : Int), by simp [execOp, go_sem, h, h', HLN.out, HTJ.out], rfl⟩)
 ·exact zLs (b := gg) (l := nl) (c := cp) (k := j) hp fo tv (sqi 0) (sqi 9) HJ.out (fun _ => rfl)
 ·exact zDx (off := j * 6) (l := 6) (fs := rowQ ps) (gs := [.n F.a, .n F.b, .n F.c]) hp fo tv (mq 0 rfl) (.inl rfl) rfl zAk (zJb HPJ.out) (sqi 10) (fun v w h => h)
 ·exact aS hp (mq 0 rfl) zA3 zBj
 ·exact sS 11 hp (mq 0 rfl) zA0
 intro L vs w3 nb hL hC hn E3
 have e0 := wXi hC 0
 have e1 := wXi hC 1
 have e2 := wXi hC 2
 have e3 := wXi hC 3
 have e4 := wXi hC 4
 have e5 := wXi hC 5
 have e6 := wXi hC 6
 have e7 := wXi hC 7
 have e8 := wXi hC 8
 have e9 := wXi hC 9
 have e10 := wXi hC 10
 have e12 : vs 12 = .pointer (some ⟨nb 12, 0, none⟩) := hn _ (mq 0 rfl)
 have E := E3; try simp only [LM, zAb] at E
 rw [zAd hL]
 simp only [SP, Nat.zero_add, Nat.reduceAdd]
 rw [e0, e1, e2, e3, e4, e5, e6, e7, e8, e9, e10, e12]
 generalize nb 12 = b3_12 at E ⊢
 generalize vs 11 = u3_11
 clear e0 e1 e2 e3 e4 e5 e6 e7 e8 e9 e10 e12 hC hn E3 hL vs L nb
 clear I16 HLN HTJ HJ HPJ HNL HPS HNE HSZ HDD
 go_upto_region 3 with (fail)
 by_cases hz : r = 0
 ·have T6 := hidd hz
  have hQ : F = P := by rw [HFE.out, ← HPE.out]; unfold zDv; rw [if_pos (HR.out.symm.trans hz)]
  have HQ := hidd hQ
  clear hz hQ
  refine rg [Fq.is (.int .i64 1), Fq.is (.int .i64 1), ip b1 5, ip b1 6, Fq.is (.int .u8 m1), Fq.is (.int .u8 r), yT] N4 [] E (fun hp => ⟨?_, ?_, ?_, ?_, ?_, ?_, ?_, tv⟩) ?_
  ·exact zAa hp fo tv (sqo 1)
  ·exact zAe (F := fun v _ => v = .int .i64 1) hp fo tv (sqi 0) (fun ρ w hc h => ⟨.int .i64 1, by simp [execOp, go_sem, h, hc], rfl⟩)
  ·exact qa b1 0 5 hp (sqo 2)
  ·exact zAg (F := fun v _ => v = .pointer (some ⟨b1, 5, none⟩)) (G := fun v _ => v = .int .i64 1) hp fo tv (sqi 2) (sqi 1) (fun ρ w hc h h' => ⟨.pointer (some ⟨b1, 6, none⟩), by simp [execOp, go_sem, h, h'], rfl⟩)
  ·exact wXc 6 hp (mq 3 rfl) (sqi 3)
  ·exact zAe (F := fun v _ => v = .int .u8 m1) hp fo tv (sqi 4) (fun ρ w hc h => ⟨.int .u8 r, by simp [execOp, go_sem, h, hc, C4.out], rfl⟩)
  ·exact zAe (F := fun v _ => v = .int .u8 r) hp fo tv (sqi 5) (fun ρ w hc h => ⟨.bool true, by simp [execOp, go_sem, h, hc, T6.out], rfl⟩)
  intro L vs w4 nb hL hC hn E4
  have e0 := wXi hC 0
  have e1 := wXi hC 1
  have e2 := wXi hC 2
  have e3 := wXi hC 3
  have e4 := wXi hC 4
  have e5 := wXi hC 5
  have e6 := wXi hC 6
  have E := E4; try simp only [LM, zAb] at E
  rw [zAd hL]
  simp only [SP, Nat.zero_add, Nat.reduceAdd]
  rw [e0, e1, e2, e3, e4, e5, e6]
  clear e0 e1 e2 e3 e4 e5 e6 hC hn E4 hL vs L nb
  go_upto_region 4 with (fail)
  refine rg [Fq.st [.n F.a, .n F.b, .n F.c], Fq.any] [none, none, some (1, Fq.st [.n F.a, .n F.b, .n F.c]), none] [] E (fun hp => ⟨?_, ?_, tv⟩) ?_
  ·exact lS 0 6 hp (mq 0 rfl) zAk (sqo 6)
  ·exact sO 0 0 hp (mq 2 rfl) zA0 (sqo 4)
  intro L vs w5 nb hL hC hn E5
  have E := E5; try simp only [LM, zAb] at E
  rw [zAd hL]
  simp only [SP, Nat.zero_add, Nat.reduceAdd]
  generalize vs 0 = u5_0
  clear  hC hn E5 hL vs L nb
  obtain ⟨_, _, hccr, hffr⟩ := zBh (E.box 2 rfl)
  have hPr := hffr
  obtain ⟨r_p0, r_q0, _, rfl, _r_n0, r_p1, r_q1, _, rfl, _r_n1, r_p2, r_q2, _, rfl, _r_n2, rfl⟩ := hffr
  have cr0 := hccr 0 (by simp)
  have cr1 := hccr 1 (by simp)
  have cr2 := hccr 2 (by simp)
  have cr3 := hccr 3 (by simp)
  have cr4 := hccr 4 (by simp)
  have cr5 := hccr 5 (by simp)
  simp only [List.getD_cons_zero, List.getD_cons_succ] at cr0 cr1 cr2 cr3 cr4 cr5
  clear hccr
  have hQ := HQ.out
  clear T6 HQ C4 HR HFE HMM HPE Es Et
  rw [hQ] at hPr
  clear BF Bs Bt Bu
  go_wp2
  refine bodyPost_ret (v := .agg #[r_p0, r_q0, r_p1, r_q1, r_p2, r_q2]) ?_ rfl ⟨_, rfl, E.below, ⟨_, rfl, hPr⟩⟩
  simp [results, Tryz.results33, go_sem, cr0, cr1, cr2, cr3, cr4, cr5]
 ·have T6 := hidd hz
  have hQ : P = ⟨qv F.a F.b F.c s 1, qm F.a F.b F.c s (s * t - 1) 1 t, qv F.a F.b F.c (s * t - 1) t⟩ := by rw [← HPE.out]; unfold zDv; rw [if_neg (fun e => hz (HR.out.trans e)), ← HFE.out, ← Es.out, ← Et.out]
  have HQ := hidd hQ
  clear hz hQ
  refine rg [Fq.is (.int .i64 1), Fq.is (.int .i64 1), ip b1 5, ip b1 6, Fq.is (.int .u8 m1), Fq.is (.int .u8 r), yF] N4 [] E (fun hp => ⟨?_, ?_, ?_, ?_, ?_, ?_, ?_, tv⟩) ?_
  ·exact zAa hp fo tv (sqo 1)
  ·exact zAe (F := fun v _ => v = .int .i64 1) hp fo tv (sqi 0) (fun ρ w hc h => ⟨.int .i64 1, by simp [execOp, go_sem, h, hc], rfl⟩)
  ·exact qa b1 0 5 hp (sqo 2)
  ·exact zAg (F := fun v _ => v = .pointer (some ⟨b1, 5, none⟩)) (G := fun v _ => v = .int .i64 1) hp fo tv (sqi 2) (sqi 1) (fun ρ w hc h h' => ⟨.pointer (some ⟨b1, 6, none⟩), by simp [execOp, go_sem, h, h'], rfl⟩)
  ·exact wXc 6 hp (mq 3 rfl) (sqi 3)
  ·exact zAe (F := fun v _ => v = .int .u8 m1) hp fo tv (sqi 4) (fun ρ w hc h => ⟨.int .u8 r, by simp [execOp, go_sem, h, hc, C4.out], rfl⟩)
  ·exact zAe (F := fun v _ => v = .int .u8 r) hp fo tv (sqi 5) (fun ρ w hc h => ⟨.bool false, by simp [execOp, go_sem, h, hc, T6.out], rfl⟩)
  intro L vs w6 nb hL hC hn E6
  have e0 := wXi hC 0
  have e1 := wXi hC 1
  have e2 := wXi hC 2
  have e3 := wXi hC 3
  have e4 := wXi hC 4
  have e5 := wXi hC 5
  have e6 := wXi hC 6
  have E := E6; try simp only [LM, zAb] at E
  rw [zAd hL]
  simp only [SP, Nat.zero_add, Nat.reduceAdd]
  rw [e0, e1, e2, e3, e4, e5, e6]
  clear e0 e1 e2 e3 e4 e5 e6 hC hn E6 hL vs L nb
  go_upto_region 5 with (fail)
  refine rg [Fq.st [.n F.a, .n F.b, .n F.c], Fq.is (.int .i64 1), Fq.is (.int .i64 1), ip b1 5, ip b1 6, Fq.is (.int .u8 m1), Fq.st [.n s, .n (s * t - 1), .n 1, .n t], Fq.st [.n (qv F.a F.b F.c s 1), .n (qm F.a F.b F.c s (s * t - 1) 1 t), .n (qv F.a F.b F.c (s * t - 1) t)], Fq.any] [none, none, some (8, Fq.st [.n (qv F.a F.b F.c s 1), .n (qm F.a F.b F.c s (s * t - 1) 1 t), .n (qv F.a F.b F.c (s * t - 1) t)]), none] [] E (fun hp => ⟨?_, ?_, ?_, ?_, ?_, ?_, ?_, ?_, ?_, tv⟩) ?_
  ·exact lS 0 6 hp (mq 0 rfl) zAk (sqo 6)
  ·exact zAa hp fo tv (sqo 1)
  ·exact zAe (F := fun v _ => v = .int .i64 1) hp fo tv (sqi 1) (fun ρ w hc h => ⟨.int .i64 1, by simp [execOp, go_sem, h, hc], rfl⟩)
  ·exact qa b1 0 5 hp (sqo 2)
  ·exact zAg (F := fun v _ => v = .pointer (some ⟨b1, 5, none⟩)) (G := fun v _ => v = .int .i64 1) hp fo tv (sqi 3) (sqi 2) (fun ρ w hc h h' => ⟨.pointer (some ⟨b1, 6, none⟩), by simp [execOp, go_sem, h, h'], rfl⟩)
  ·exact wXc 6 hp (mq 3 rfl) (sqi 4)
  ·exact wXa (Fq.is (.int .u8 m1)) hp zH5 (sqi 5) fun v w h => (by subst h; exact zIg HMM.out Es.out Et.out)
  ·exact wXb (Fq.st [.n F.a, .n F.b, .n F.c]) (Fq.st [.n s, .n (s * t - 1), .n 1, .n t]) hp zH3 (sqi 0) (sqi 6) fun v v' w h h' => zIe h h' (Int.lt_of_lt_of_le BF.out.1 (zAc (by omega))) (Int.lt_of_lt_of_le BF.out.2.1 (zAc (by omega))) (Int.lt_of_lt_of_le BF.out.2.2 (zAc (by omega))) (Int.lt_of_lt_of_le Bs.out (zAc (by omega))) (Int.lt_of_lt_of_le Bu.out (zAc (by omega))) (Int.lt_of_lt_of_le (zAt (by decide) (by decide)) (zAc (by omega))) (Int.lt_of_lt_of_le Bt.out (zAc (by omega)))
  ·exact sO 0 7 hp (mq 2 rfl) zA0 (sqo 4)
  intro L vs w7 nb hL hC hn E7
  have e1 := wXi hC 1
  have e2 := wXi hC 2
  have e3 := wXi hC 3
  have e4 := wXi hC 4
  have e5 := wXi hC 5
  have E := E7; try simp only [LM, zAb] at E
  rw [zAd hL]
  simp only [SP, Nat.zero_add, Nat.reduceAdd]
  rw [e1, e2, e3, e4, e5]
  generalize vs 0 = u7_0
  generalize vs 6 = u7_6
  generalize vs 7 = u7_7
  clear e1 e2 e3 e4 e5 hC hn E7 hL vs L nb
  obtain ⟨_, _, hccr, hffr⟩ := zBh (E.box 2 rfl)
  have hPr := hffr
  obtain ⟨r_p0, r_q0, _, rfl, _r_n0, r_p1, r_q1, _, rfl, _r_n1, r_p2, r_q2, _, rfl, _r_n2, rfl⟩ := hffr
  have cr0 := hccr 0 (by simp)
  have cr1 := hccr 1 (by simp)
  have cr2 := hccr 2 (by simp)
  have cr3 := hccr 3 (by simp)
  have cr4 := hccr 4 (by simp)
  have cr5 := hccr 5 (by simp)
  simp only [List.getD_cons_zero, List.getD_cons_succ] at cr0 cr1 cr2 cr3 cr4 cr5
  clear hccr
  have hQ := HQ.out
  clear T6 HQ C4 HR HFE HMM HPE Es Et
  rw [show qv F.a F.b F.c s 1 = P.a by rw [hQ], show qm F.a F.b F.c s (s * t - 1) 1 t = P.b by rw [hQ], show qv F.a F.b F.c (s * t - 1) t = P.c by rw [hQ]] at hPr
  clear BF Bs Bt Bu
  go_wp2
  refine bodyPost_ret (v := .agg #[r_p0, r_q0, r_p1, r_q1, r_p2, r_q2]) ?_ rfl ⟨_, rfl, E.below, ⟨_, rfl, hPr⟩⟩
  simp [results, Tryz.results33, go_sem, cr0, cr1, cr2, cr3, cr4, cr5]

theorem Rdf.small {a b c n : Int} (hr : Rdf a b c) (hd : b * b - 4 * (a * c) = -n) (h1 : n ≤ 2004) : a.natAbs ≤ 668 ∧ b.natAbs ≤ 668 ∧ c.natAbs ≤ 668 := by
 have h2 := hr.lo
 have h3 := hr.hi
 have h4 := hr.ac
 have h5 := hr.pos
 have e1 : b * b ≤ a * a := by
  rw [← zDp b]
  exact Int.mul_le_mul (by omega) (by omega) (by omega) (by omega)
 have e2 : a * a ≤ a * c := Int.mul_le_mul_of_nonneg_left h4 (by omega)
 have e3 : 1 * c ≤ a * c := Int.mul_le_mul_of_nonneg_right (by omega) (by omega)
 omega
theorem turned_ok {n : Int} {P : F3} (h : MOk n P) (h0 : 3 ≤ n) {s t : Int} (t1 : s.natAbs ≤ 4) (t2 : t.natAbs ≤ 4) (t3 : (s * t - 1).natAbs ≤ 17) : redE (qv P.a P.b P.c s 1) (qm P.a P.b P.c s (s * t - 1) 1 t) (qv P.a P.b P.c (s * t - 1) t) = 0 ∧ (ab (qv P.a P.b P.c s 1) < pw 3 ∧ ab (qm P.a P.b P.c s (s * t - 1) 1 t) < pw 3 ∧ ab (qv P.a P.b P.c (s * t - 1) t) < pw 3) ∧ Und P.a P.b P.c s (s * t - 1) 1 t (qv P.a P.b P.c s 1) (qm P.a P.b P.c s (s * t - 1) 1 t) (qv P.a P.b P.c (s * t - 1) t) := by
 obtain ⟨hre, hd, _, b1, b2, b3⟩ := h
 obtain ⟨hdn, hp⟩ := zF4 hre
 have hdet : s * t - (s * t - 1) * 1 = 1 := by omega
 have hdet2 : (s * t - (s * t - 1) * 1) * (s * t - (s * t - 1) * 1) = 1 := by rw [hdet]; rfl
 have h5 := zJy (a := P.a) (b := P.b) (c := P.c) hdet2
 have hpos := qv_pos (x := s) (y := 1) hp hdn (by omega)
 have i64 : ∀ {x : Int}, x.natAbs ≤ 1000000000000000 → ab x < pw 3 := fun hx => zAt (by omega) (by omega)
 have qb : ∀ x y : Int, x.natAbs ≤ 17 → y.natAbs ≤ 17 → (qv P.a P.b P.c x y).natAbs ≤ 1000000000000000 := by
  intro x y hx hy
  have m1 := zBe b1 (zBe hx hx)
  have m2 := zBe b2 (zBe hx hy)
  have m3 := zBe b3 (zBe hy hy)
  unfold qv
  omega
 have qc : (qm P.a P.b P.c s (s * t - 1) 1 t).natAbs ≤ 1000000000000000 := by
  have u1 : (1 : Int).natAbs ≤ 17 := by decide
  have m1 := zBe b1 (zBe (show s.natAbs ≤ 17 by omega) t3)
  have m2 := zBe b3 (zBe u1 (show t.natAbs ≤ 17 by omega))
  have m3 := zBe (show s.natAbs ≤ 17 by omega) (show t.natAbs ≤ 17 by omega)
  have m4 := zBe t3 u1
  have m5 := zBe b2 (show (s * t + (s * t - 1) * 1).natAbs ≤ 17 * 17 + 17 * 17 by omega)
  unfold qm
  omega
 refine ⟨zEo ?_ hpos, ⟨i64 (qb _ _ (by omega) (by decide)), i64 qc, i64 (qb _ _ t3 (by omega))⟩, ⟨hdet, rfl, rfl, rfl⟩⟩
 show qm _ _ _ _ _ _ _ * qm _ _ _ _ _ _ _ - 4 * (qv _ _ _ _ _ * qv _ _ _ _ _) < 0
 rw [h5]
 exact hdn
theorem zAy {x : Int} (h : ab x < pw 3) : ab x < pw 5 := Int.lt_of_lt_of_le h (zAc (by omega))
theorem redT_same {a b c p q r s a' b' c' : Int} (h1 : ab a < pw 5 ∧ ab b < pw 5 ∧ ab c < pw 5) (h2 : ab a' < pw 5 ∧ ab b' < pw 5 ∧ ab c' < pw 5) (e1 : redE a b c = 0) (e2 : redE a' b' c' = 0) (hu : Und a b c p q r s a' b' c') : (redT a' b' c').fa = (redT a b c).fa ∧ (redT a' b' c').fb = (redT a b c).fb ∧ (redT a' b' c').fc = (redT a b c).fc := by
 obtain ⟨u1, r1⟩ := zFj h1.1 h1.2.1 h1.2.2 e1
 exact zHe h2.1 h2.2.1 h2.2.2 e2 (hu.back.mul u1) r1
theorem zL1 {a b c n : Int} (h1 : ab a < pw 5 ∧ ab b < pw 5 ∧ ab c < pw 5) (e1 : redE a b c = 0) (hd : b * b - 4 * (a * c) = -n) (hn : 0 < n) (hn2 : n ≤ 2004) : (ab (redT a b c).fa < pw 3 ∧ ab (redT a b c).fb < pw 3 ∧ ab (redT a b c).fc < pw 3) ∧ redE (redT a b c).fa (redT a b c).fb (redT a b c).fc = 0 ∧ ((redT (redT a b c).fa (redT a b c).fb (redT a b c).fc).fa = (redT a b c).fa ∧ (redT (redT a b c).fa (redT a b c).fb (redT a b c).fc).fb = (redT a b c).fb ∧ (redT (redT a b c).fa (redT a b c).fb (redT a b c).fc).fc = (redT a b c).fc) ∧ (redT a b c).fb * (redT a b c).fb - 4 * ((redT a b c).fa * (redT a b c).fc) = -n := by
 obtain ⟨u1, r1⟩ := zFj h1.1 h1.2.1 h1.2.2 e1
 have hd2 := u1.disc.trans hd
 obtain ⟨b1, b2, b3⟩ := r1.small hd2 hn2
 have hb : ab (redT a b c).fa < pw 3 ∧ ab (redT a b c).fb < pw 3 ∧ ab (redT a b c).fc < pw 3 := ⟨zCb (by omega), zCb (by omega), zCb (by omega)⟩
 have e2 : redE (redT a b c).fa (redT a b c).fb (redT a b c).fc = 0 := zEo (by rw [hd2]; omega) r1.pos
 exact ⟨hb, e2, zHe (zAy hb.1) (zAy hb.2.1) (zAy hb.2.2) e2 (Und.one ..) r1, hd2⟩
theorem MOk.b5 {n : Int} {P : F3} (h : MOk n P) : ab P.a < pw 5 ∧ ab P.b < pw 5 ∧ ab P.c < pw 5 := ⟨zAy h.2.2.1.1, zAy h.2.2.1.2.1, zAy h.2.2.1.2.2⟩
theorem zHh {a b c x y z : Int} (h1 : redE a b c = 0) (h2 : redE x y z = 0) : zDz a b c x y z = eqR (redT a b c) (redT x y z) := by
 unfold zDz
 rw [decide_eq_true h1, decide_eq_true h2, Bool.true_and, Bool.true_and]
theorem zHf {a b c : Int} (e1 : redE a b c = 0) (hr : Rdf a b c) : (dfB a b c && redB a b c) = true := by
 rw [zHd, decide_eq_true e1, (zEe hr.pos).2 hr]
 rfl
set_option maxRecDepth 100000 in
set_option maxHeartbeats 4000000 in
theorem zMi (w : World) (D i0 i1 i2 i3 m0 m1 m2 m3 : Int) (hD : 0 ≤ D ∧ D ≤ 65535) (hi0 : 0 ≤ i0 ∧ i0 ≤ 65535) (hi1 : 0 ≤ i1 ∧ i1 ≤ 65535) (hi2 : 0 ≤ i2 ∧ i2 ≤ 65535) (hi3 : 0 ≤ i3 ∧ i3 ≤ 65535) (hm0 : 0 ≤ m0 ∧ m0 ≤ 255) (hm1 : 0 ≤ m1 ∧ m1 ≤ 255) (hm2 : 0 ≤ m2 ∧ m2 ≤ 255) (hm3 : 0 ≤ m3 ∧ m3 ≤ 255) (z : Int) (hz : 0 ≤ z ∧ z ≤ 255) {v : Value} (h : (Fq.st [.v (.int .u16 D), .v (.int .u16 i0), .v (.int .u16 i1), .v (.int .u16 i2), .v (.int .u16 i3), .v (.int .u8 m0), .v (.int .u8 m1), .v (.int .u8 m2), .v (.int .u8 m3)]).P v w) :
  Calls Tryz.prog 4 #[v, .int .u8 z] w fun e w' => ∃ v', e = .returned v' ∧ Below w.heap.size w w' ∧ v' = .bool true := by
 obtain ⟨n, en⟩ : ∃ x, x = zBr D := ⟨_, rfl⟩
 have hszn := zHj D
 rw [← en] at hszn
 have En := hidd en.symm
 have Zn := hidd hszn
 have HDn := hidd hD
 clear en hszn hD
 obtain ⟨P, eP⟩ : ∃ x, x = zDv n i0 m0 := ⟨_, rfl⟩
 have hokP := zK5 (i := i0) (m := m0) Zn.out.1 Zn.out.2.1 Zn.out.2.2
 rw [← eP] at hokP
 have EP := hidd eP.symm
 have OKP := hidd hokP
 have BP := hidd hokP.2.2.1
 have IP := hidd hi0
 have MP := hidd hm0
 clear eP hokP hi0 hm0
 obtain ⟨Q, eQ⟩ : ∃ x, x = zDv n i1 m1 := ⟨_, rfl⟩
 have hokQ := zK5 (i := i1) (m := m1) Zn.out.1 Zn.out.2.1 Zn.out.2.2
 rw [← eQ] at hokQ
 have EQ := hidd eQ.symm
 have OKQ := hidd hokQ
 have BQ := hidd hokQ.2.2.1
 have IQ := hidd hi1
 have MQ := hidd hm1
 clear eQ hokQ hi1 hm1
 obtain ⟨S, eS⟩ : ∃ x, x = redT P.a P.b P.c := ⟨_, rfl⟩
 have BS := hidd (zCu OKP.out.b5.1 OKP.out.b5.2.1 OKP.out.b5.2.2)
 have hinS := zFj OKP.out.b5.1 OKP.out.b5.2.1 OKP.out.b5.2.2 OKP.out.1
 have hsS := zL1 OKP.out.b5 OKP.out.1 OKP.out.2.1 (by have := Zn.out; omega) Zn.out.2.1
 rw [← eS] at BS hinS hsS
 have ES := hidd eS.symm
 have US := hidd hinS.1
 have RS := hidd hinS.2
 have FS := hidd hsS.1
 have VS := hidd hsS.2
 clear eS hinS hsS
 obtain ⟨R, eR⟩ : ∃ x, x = redT Q.a Q.b Q.c := ⟨_, rfl⟩
 have BR := hidd (zCu OKQ.out.b5.1 OKQ.out.b5.2.1 OKQ.out.b5.2.2)
 have hinR := zFj OKQ.out.b5.1 OKQ.out.b5.2.1 OKQ.out.b5.2.2 OKQ.out.1
 have hsR := zL1 OKQ.out.b5 OKQ.out.1 OKQ.out.2.1 (by have := Zn.out; omega) Zn.out.2.1
 rw [← eR] at BR hinR hsR
 have ER := hidd eR.symm
 have UR := hidd hinR.1
 have RR := hidd hinR.2
 have FR := hidd hsR.1
 have VR := hidd hsR.2
 clear eR hinR hsR
 obtain ⟨s, es⟩ : ∃ x, x = z % 8 - 3 := ⟨_, rfl⟩
 obtain ⟨t, et⟩ : ∃ x, x = z / 8 % 8 - 4 := ⟨_, rfl⟩
 have htb := zHo es et
 have Es := hidd es
 have Et := hidd et
 have HZ := hidd hz
 have HTB := hidd htb
 have Bs : Hid (ab s < pw 3) := zD3 (by omega)
 have Bt : Hid (ab t < pw 3) := zD3 (by omega)
 have Bu : Hid (ab (s * t - 1) < pw 3) := zD3 (by omega)
 clear es et hz htb
 obtain ⟨G1, e1⟩ : ∃ x, x = qv P.a P.b P.c s 1 := ⟨_, rfl⟩
 obtain ⟨G2, e2⟩ : ∃ x, x = qm P.a P.b P.c s (s * t - 1) 1 t := ⟨_, rfl⟩
 obtain ⟨G3, e3⟩ : ∃ x, x = qv P.a P.b P.c (s * t - 1) t := ⟨_, rfl⟩
 have hg := turned_ok OKP.out Zn.out.1 HTB.out.1 HTB.out.2.1 HTB.out.2.2
 rw [← e1, ← e2, ← e3] at hg
 have EG1 := hidd e1
 have EG2 := hidd e2
 have EG3 := hidd e3
 have HG := hidd hg
 have BG := hidd hg.2.1
 clear e1 e2 e3 hg
 obtain ⟨A, eA⟩ : ∃ x, x = redT G1 G2 G3 := ⟨_, rfl⟩
 have hA := redT_same OKP.out.b5 ⟨zAy BG.out.1, zAy BG.out.2.1, zAy BG.out.2.2⟩ OKP.out.1 HG.out.1 HG.out.2.2
 have BA := hidd (zCu (zAy BG.out.1) (zAy BG.out.2.1) (zAy BG.out.2.2))
 rw [ES.out, ← eA] at hA
 rw [← eA] at BA
 have EA := hidd eA.symm
 have HA := hidd hA
 clear eA hA
 obtain ⟨C, eC⟩ : ∃ x, x = redT S.fa S.fb S.fc := ⟨_, rfl⟩
 have BC := hidd (zCu (zAy FS.out.1) (zAy FS.out.2.1) (zAy FS.out.2.2))
 have hC := VS.out.2.1
 rw [← eC] at BC hC
 have EC := hidd eC.symm
 have HC := hidd hC
 clear eC hC
 have QS := hidd (eqF_refl S.fa S.fb S.fc)
 obtain ⟨_, rfl, hf0⟩ := h
 have hF0 := hf0
 obtain ⟨_, rfl, _, _, rfl, _, _, rfl, _, _, rfl, _, _, rfl, _, _, rfl, _, _, rfl, _, _, rfl, _, _, rfl, _, rfl⟩ := hf0
 obtain ⟨w1, b1, hw1, hb1, hs1, E⟩ := gS w 57 hF0
 go_enter Tryz.func4, Tryz.ntmps4
 go_upto_region 1 with (fail)
 rw [← hw1]
 rw [← hb1]
 clear hw1 hb1 hs1
 refine rg [yT, yT] [none] [] E (fun hp => ⟨?_, ?_, tv⟩) ?_
 ·exact q_call0 hp fo tv (zMx) (fun w => zM6 w)
 ·exact zAh hp fo tv (sqi 0)
 intro L vs w2 nb hL hC hn E2
 have e0 := wXi hC 0
 have e1 := wXi hC 1
 have E := E2; try simp only [LM, zAb] at E
 rw [zAd hL]
 simp only [SP, Nat.zero_add, Nat.reduceAdd]
 rw [e0, e1]
 clear e0 e1 hC hn E2 hL vs L nb
 go_upto_region 2 with (fail)
 refine rg [yT, yF] [none] [] E (fun hp => ⟨?_, ?_, tv⟩) ?_
 ·exact zAa hp fo tv (sqo 5)
 ·exact zAe (F := fun v _ => v = .bool true) hp fo tv (sqi 0) (fun ρ w _ h => ⟨.bool false, by simp [execOp, go_sem, h], rfl⟩)
 intro L vs w3 nb hL hC hn E3
 have e0 := wXi hC 0
 have e1 := wXi hC 1
 have E := E3; try simp only [LM, zAb] at E
 rw [zAd hL]
 simp only [SP, Nat.zero_add, Nat.reduceAdd]
 rw [e0, e1]
 clear e0 e1 hC hn E3 hL vs L nb
 go_upto_region 4 with (fail)
 refine rg [Fq.st [.v (.int .u16 D), .v (.int .u16 i0), .v (.int .u16 i1), .v (.int .u16 i2), .v (.int .u16 i3), .v (.int .u8 m0), .v (.int .u8 m1), .v (.int .u8 m2), .v (.int .u8 m3)], Fq.st [.n P.a, .n P.b, .n P.c], Fq.st [.v (.int .u16 D), .v (.int .u16 i0), .v (.int .u16 i1), .v (.int .u16 i2), .v (.int .u16 i3), .v (.int .u8 m0), .v (.int .u8 m1), .v (.int .u8 m2), .v (.int .u8 m3)], Fq.st [.n Q.a, .n Q.b, .n Q.c], Fq.any, Fq.any, Fq.any, Fq.any] [none] [⟨4, 6, 6, Fq.st [.n 0, .n 0, .n 0], Fq.st [.n P.a, .n P.b, .n P.c], none⟩, ⟨5, 7, 6, Fq.st [.n 0, .n 0, .n 0], Fq.st [.n Q.a, .n Q.b, .n Q.c], none⟩] E (fun hp => ⟨?_, ?_, ?_, ?_, ?_, ?_, ?_, ?_, tv⟩) ?_
 ·exact lS 0 9 hp (mq 0 rfl) zHg (sqo 2)
 ·exact zAz (F := (Fq.st [.v (.int .u16 D), .v (.int .u16 i0), .v (.int .u16 i1), .v (.int .u16 i2), .v (.int .u16 i3), .v (.int .u8 m0), .v (.int .u8 m1), .v (.int .u8 m2), .v (.int .u8 m3)]).P) (G := (Fq.is (.int .i64 0)).P) hp fo tv (zJ2) (sqi 0) (zAj (fun _ => rfl)) (fun v v' w h h' => (by subst h'; exact exQMade0 h HDn.out IP.out MP.out En.out EP.out))
 ·exact lS 0 9 hp (mq 0 rfl) zHg (sqo 2)
 ·exact zAz (F := (Fq.st [.v (.int .u16 D), .v (.int .u16 i0), .v (.int .u16 i1), .v (.int .u16 i2), .v (.int .u16 i3), .v (.int .u8 m0), .v (.int .u8 m1), .v (.int .u8 m2), .v (.int .u8 m3)]).P) (G := (Fq.is (.int .i64 1)).P) hp fo tv (zJ2) (sqi 2) (zAj (fun _ => rfl)) (fun v v' w h h' => (by subst h'; exact exQMade1 h HDn.out IQ.out MQ.out En.out EQ.out))
 ·exact aS hp (mq 0 rfl) zA3 zBj
 ·exact aS hp (mq 1 rfl) zA3 zBj
 ·exact sS 1 hp (mq 0 rfl) zA0
 ·exact sS 3 hp (mq 1 rfl) zA0
 intro L vs w4 nb hL hC hn E4
 have e4 : vs 4 = .pointer (some ⟨nb 4, 0, none⟩) := hn _ (mq 0 rfl)
 have e5 : vs 5 = .pointer (some ⟨nb 5, 0, none⟩) := hn _ (mq 1 rfl)
 have E := E4; try simp only [LM, zAb] at E
 rw [zAd hL]
 simp only [SP, Nat.zero_add, Nat.reduceAdd]
 rw [e4, e5]
 generalize nb 4 = b4_4 at E ⊢
 generalize nb 5 = b4_5 at E ⊢
 generalize vs 0 = u4_0
 generalize vs 1 = u4_1
 generalize vs 2 = u4_2
 generalize vs 3 = u4_3
 clear e4 e5 hC hn E4 hL vs L nb
 go_upto_region 5 with (fail)
 refine rg [Fq.st [.n P.a, .n P.b, .n P.c], Fq.tup3 (Fq.st [.n S.fa, .n S.fb, .n S.fc]) (Fq.st [.n S.x1, .n S.x2, .n S.x3, .n S.x4]) (Fq.is (.int .i64 0)), Fq.tup3 (Fq.st [.n S.fa, .n S.fb, .n S.fc]) (Fq.st [.n S.x1, .n S.x2, .n S.x3, .n S.x4]) (Fq.is (.int .i64 0)), Fq.st [.n S.fa, .n S.fb, .n S.fc], Fq.st [.n S.x1, .n S.x2, .n S.x3, .n S.x4], Fq.is (.int .i64 0), Fq.any, Fq.any, Fq.any, Fq.any, Fq.is (.int .i64 0)] N3 [⟨6, 8, 6, Fq.st [.n 0, .n 0, .n 0], Fq.st [.n S.fa, .n S.fb, .n S.fc], none⟩, ⟨7, 9, 8, Fq.st [.n 0, .n 0, .n 0, .n 0], Fq.st [.n S.x1, .n S.x2, .n S.x3, .n S.x4], none⟩] E (fun hp => ⟨?_, ?_, ?_, ?_, ?_, ?_, ?_, ?_, ?_, ?_, ?_, tv⟩) ?_
 ·exact lS 0 6 hp (mq 0 rfl) zAk (sqo 6)
 ·exact wXa (Fq.st [.n P.a, .n P.b, .n P.c]) hp zCf (sqi 0) fun v w h => (by have hh := zCg h OKP.out.b5.1 OKP.out.b5.2.1 OKP.out.b5.2.2; rw [ES.out, OKP.out.1] at hh; exact hh)
 ·exact zAa hp fo tv (sqi 1)
 ·exact zAq hp fo tv (sqi 2) (fun v1 v2 v3 w h1 h2 h3 => ⟨_, rfl, h1⟩)
 ·exact zAq hp fo tv (sqi 2) (fun v1 v2 v3 w h1 h2 h3 => ⟨_, rfl, h2⟩)
 ·exact zAq hp fo tv (sqi 2) (fun v1 v2 v3 w h1 h2 h3 => ⟨_, rfl, h3⟩)
 ·exact aS hp (mq 0 rfl) zA3 zBj
 ·exact aS hp (mq 1 rfl) zA5 zBu
 ·exact sS 3 hp (mq 0 rfl) zA0
 ·exact sS 4 hp (mq 1 rfl) zA4
 ·exact zAh hp fo tv (sqi 5)
 intro L vs w5 nb hL hC hn E5
 have e5 := wXi hC 5
 have e10 := wXi hC 10
 have e6 : vs 6 = .pointer (some ⟨nb 6, 0, none⟩) := hn _ (mq 0 rfl)
 have e7 : vs 7 = .pointer (some ⟨nb 7, 0, none⟩) := hn _ (mq 1 rfl)
 have E := E5; try simp only [LM, zAb] at E
 rw [zAd hL]
 simp only [SP, Nat.zero_add, Nat.reduceAdd]
 rw [e5, e10, e6, e7]
 generalize nb 6 = b5_6 at E ⊢
 generalize nb 7 = b5_7 at E ⊢
 generalize vs 0 = u5_0
 generalize vs 1 = u5_1
 generalize vs 2 = u5_2
 generalize vs 3 = u5_3
 generalize vs 4 = u5_4
 clear e5 e10 e6 e7 hC hn E5 hL vs L nb
 go_upto_region 6 with (fail)
 refine rg [Fq.st [.n Q.a, .n Q.b, .n Q.c], Fq.tup3 (Fq.st [.n R.fa, .n R.fb, .n R.fc]) (Fq.st [.n R.x1, .n R.x2, .n R.x3, .n R.x4]) (Fq.is (.int .i64 0)), Fq.tup3 (Fq.st [.n R.fa, .n R.fb, .n R.fc]) (Fq.st [.n R.x1, .n R.x2, .n R.x3, .n R.x4]) (Fq.is (.int .i64 0)), Fq.st [.n R.fa, .n R.fb, .n R.fc], Fq.st [.n R.x1, .n R.x2, .n R.x3, .n R.x4], Fq.is (.int .i64 0), Fq.any, Fq.any, Fq.any, Fq.any, Fq.is (.int .i64 0)] N5 [⟨6, 8, 6, Fq.st [.n 0, .n 0, .n 0], Fq.st [.n R.fa, .n R.fb, .n R.fc], none⟩, ⟨7, 9, 8, Fq.st [.n 0, .n 0, .n 0, .n 0], Fq.st [.n R.x1, .n R.x2, .n R.x3, .n R.x4], none⟩] E (fun hp => ⟨?_, ?_, ?_, ?_, ?_, ?_, ?_, ?_, ?_, ?_, ?_, tv⟩) ?_
 ·exact lS 0 6 hp (mq 3 rfl) zAk (sqo 7)
 ·exact wXa (Fq.st [.n Q.a, .n Q.b, .n Q.c]) hp zCf (sqi 0) fun v w h => (by have hh := zCg h OKQ.out.b5.1 OKQ.out.b5.2.1 OKQ.out.b5.2.2; rw [ER.out, OKQ.out.1] at hh; exact hh)
 ·exact zAa hp fo tv (sqi 1)
 ·exact zAq hp fo tv (sqi 2) (fun v1 v2 v3 w h1 h2 h3 => ⟨_, rfl, h1⟩)
 ·exact zAq hp fo tv (sqi 2) (fun v1 v2 v3 w h1 h2 h3 => ⟨_, rfl, h2⟩)
 ·exact zAq hp fo tv (sqi 2) (fun v1 v2 v3 w h1 h2 h3 => ⟨_, rfl, h3⟩)
 ·exact aS hp (mq 0 rfl) zA3 zBj
 ·exact aS hp (mq 1 rfl) zA5 zBu
 ·exact sS 3 hp (mq 0 rfl) zA0
 ·exact sS 4 hp (mq 1 rfl) zA4
 ·exact zAh hp fo tv (sqi 5)
 intro L vs w6 nb hL hC hn E6
 have e5 := wXi hC 5
 have e10 := wXi hC 10
 have e6 : vs 6 = .pointer (some ⟨nb 6, 0, none⟩) := hn _ (mq 0 rfl)
 have e7 : vs 7 = .pointer (some ⟨nb 7, 0, none⟩) := hn _ (mq 1 rfl)
 have E := E6; try simp only [LM, zAb] at E
 rw [zAd hL]
 simp only [SP, Nat.zero_add, Nat.reduceAdd]
 rw [e5, e10, e6, e7]
 generalize nb 6 = b6_6 at E ⊢
 generalize nb 7 = b6_7 at E ⊢
 generalize vs 0 = u6_0
 generalize vs 1 = u6_1
 generalize vs 2 = u6_2
 generalize vs 3 = u6_3
 generalize vs 4 = u6_4
 clear e5 e10 e6 e7 hC hn E6 hL vs L nb
 go_upto_region 7 with (fail)
 refine rg [Fq.st [.n P.a, .n P.b, .n P.c], Fq.is (.int .u8 z), Fq.st [.n s, .n (s * t - 1), .n 1, .n t], Fq.st [.n G1, .n G2, .n G3], Fq.tup3 (Fq.st [.n S.fa, .n S.fb, .n S.fc]) (Fq.st [.n A.x1, .n A.x2, .n A.x3, .n A.x4]) (Fq.is (.int .i64 0)), Fq.tup3 (Fq.st [.n S.fa, .n S.fb, .n S.fc]) (Fq.st [.n A.x1, .n A.x2, .n A.x3, .n A.x4]) (Fq.is (.int .i64 0)), Fq.st [.n S.fa, .n S.fb, .n S.fc], Fq.st [.n A.x1, .n A.x2, .n A.x3, .n A.x4], Fq.is (.int .i64 0), Fq.any, Fq.any, Fq.any, Fq.any, Fq.is (.int .i64 0)] N7 [⟨9, 11, 6, Fq.st [.n 0, .n 0, .n 0], Fq.st [.n S.fa, .n S.fb, .n S.fc], none⟩, ⟨10, 12, 8, Fq.st [.n 0, .n 0, .n 0, .n 0], Fq.st [.n A.x1, .n A.x2, .n A.x3, .n A.x4], none⟩] E (fun hp => ⟨?_, ?_, ?_, ?_, ?_, ?_, ?_, ?_, ?_, ?_, ?_, ?_, ?_, ?_, tv⟩) ?_
 ·exact lS 0 6 hp (mq 4 rfl) zAk (sqo 6)
 ·exact zAa hp fo tv (sqo 1)
 ·exact wXa (Fq.is (.int .u8 z)) hp zH5 (sqi 1) fun v w h => (by subst h; exact zIg HZ.out Es.out Et.out)
 ·exact wXb (Fq.st [.n P.a, .n P.b, .n P.c]) (Fq.st [.n s, .n (s * t - 1), .n 1, .n t]) hp zH3 (sqi 0) (sqi 2) fun v v' w h h' => (by have hh := zIe h h' (Int.lt_of_lt_of_le BP.out.1 (zAc (by omega))) (Int.lt_of_lt_of_le BP.out.2.1 (zAc (by omega))) (Int.lt_of_lt_of_le BP.out.2.2 (zAc (by omega))) (Int.lt_of_lt_of_le Bs.out (zAc (by omega))) (Int.lt_of_lt_of_le Bu.out (zAc (by omega))) (Int.lt_of_lt_of_le (zAt (by decide) (by decide)) (zAc (by omega))) (Int.lt_of_lt_of_le Bt.out (zAc (by omega))); rw [← EG1.out, ← EG2.out, ← EG3.out] at hh; exact hh)
 ·exact wXa (Fq.st [.n G1, .n G2, .n G3]) hp zCf (sqi 3) fun v w h => (by have hh := zCg h (zAy BG.out.1) (zAy BG.out.2.1) (zAy BG.out.2.2); rw [EA.out, HG.out.1, HA.out.1, HA.out.2.1, HA.out.2.2] at hh; exact hh)
 ·exact zAa hp fo tv (sqi 4)
 ·exact zAq hp fo tv (sqi 5) (fun v1 v2 v3 w h1 h2 h3 => ⟨_, rfl, h1⟩)
 ·exact zAq hp fo tv (sqi 5) (fun v1 v2 v3 w h1 h2 h3 => ⟨_, rfl, h2⟩)
 ·exact zAq hp fo tv (sqi 5) (fun v1 v2 v3 w h1 h2 h3 => ⟨_, rfl, h3⟩)
 ·exact aS hp (mq 0 rfl) zA3 zBj
 ·exact aS hp (mq 1 rfl) zA5 zBu
 ·exact sS 6 hp (mq 0 rfl) zA0
 ·exact sS 7 hp (mq 1 rfl) zA4
 ·exact zAh hp fo tv (sqi 8)
 intro L vs w7 nb hL hC hn E7
 have e1 := wXi hC 1
 have e8 := wXi hC 8
 have e13 := wXi hC 13
 have e9 : vs 9 = .pointer (some ⟨nb 9, 0, none⟩) := hn _ (mq 0 rfl)
 have e10 : vs 10 = .pointer (some ⟨nb 10, 0, none⟩) := hn _ (mq 1 rfl)
 have E := E7; try simp only [LM, zAb] at E
 rw [zAd hL]
 simp only [SP, Nat.zero_add, Nat.reduceAdd]
 rw [e1, e8, e13, e9, e10]
 generalize nb 9 = b7_9 at E ⊢
 generalize nb 10 = b7_10 at E ⊢
 generalize vs 0 = u7_0
 generalize vs 2 = u7_2
 generalize vs 3 = u7_3
 generalize vs 4 = u7_4
 generalize vs 5 = u7_5
 generalize vs 6 = u7_6
 generalize vs 7 = u7_7
 clear e1 e8 e13 e9 e10 hC hn E7 hL vs L nb
 go_upto_region 8 with (fail)
 refine rg [Fq.st [.n S.fa, .n S.fb, .n S.fc], Fq.tup3 (Fq.st [.n S.fa, .n S.fb, .n S.fc]) (Fq.st [.n C.x1, .n C.x2, .n C.x3, .n C.x4]) (Fq.is (.int .i64 0)), Fq.tup3 (Fq.st [.n S.fa, .n S.fb, .n S.fc]) (Fq.st [.n C.x1, .n C.x2, .n C.x3, .n C.x4]) (Fq.is (.int .i64 0)), Fq.st [.n S.fa, .n S.fb, .n S.fc], Fq.st [.n C.x1, .n C.x2, .n C.x3, .n C.x4], Fq.is (.int .i64 0), Fq.any, Fq.any, Fq.any, Fq.any, Fq.is (.int .i64 0)] N9 [⟨6, 8, 6, Fq.st [.n 0, .n 0, .n 0], Fq.st [.n S.fa, .n S.fb, .n S.fc], none⟩, ⟨7, 9, 8, Fq.st [.n 0, .n 0, .n 0, .n 0], Fq.st [.n C.x1, .n C.x2, .n C.x3, .n C.x4], none⟩] E (fun hp => ⟨?_, ?_, ?_, ?_, ?_, ?_, ?_, ?_, ?_, ?_, ?_, tv⟩) ?_
 ·exact lS 0 6 hp (mq 4 rfl) zAk (sqo 8)
 ·exact wXa (Fq.st [.n S.fa, .n S.fb, .n S.fc]) hp zCf (sqi 0) fun v w h => (by have hh := zCg h (zAy FS.out.1) (zAy FS.out.2.1) (zAy FS.out.2.2); rw [EC.out, VS.out.1, HC.out.1, HC.out.2.1, HC.out.2.2] at hh; exact hh)
 ·exact zAa hp fo tv (sqi 1)
 ·exact zAq hp fo tv (sqi 2) (fun v1 v2 v3 w h1 h2 h3 => ⟨_, rfl, h1⟩)
 ·exact zAq hp fo tv (sqi 2) (fun v1 v2 v3 w h1 h2 h3 => ⟨_, rfl, h2⟩)
 ·exact zAq hp fo tv (sqi 2) (fun v1 v2 v3 w h1 h2 h3 => ⟨_, rfl, h3⟩)
 ·exact aS hp (mq 0 rfl) zA3 zBj
 ·exact aS hp (mq 1 rfl) zA5 zBu
 ·exact sS 3 hp (mq 0 rfl) zA0
 ·exact sS 4 hp (mq 1 rfl) zA4
 ·exact zAh hp fo tv (sqi 5)
 intro L vs w8 nb hL hC hn E8
 have e5 := wXi hC 5
 have e10 := wXi hC 10
 have e6 : vs 6 = .pointer (some ⟨nb 6, 0, none⟩) := hn _ (mq 0 rfl)
 have e7 : vs 7 = .pointer (some ⟨nb 7, 0, none⟩) := hn _ (mq 1 rfl)
 have E := E8; try simp only [LM, zAb] at E
 rw [zAd hL]
 simp only [SP, Nat.zero_add, Nat.reduceAdd]
 rw [e5, e10, e6, e7]
 generalize nb 6 = b8_6 at E ⊢
 generalize nb 7 = b8_7 at E ⊢
 generalize vs 0 = u8_0
 generalize vs 1 = u8_1
 generalize vs 2 = u8_2
 generalize vs 3 = u8_3
 generalize vs 4 = u8_4
 clear e5 e10 e6 e7 hC hn E8 hL vs L nb
 go_upto_region 9 with (fail)
 refine rg [Fq.is (.int .i64 0), yF, yF, Fq.is (.int .i64 0), yF, yF, yF, Fq.is (.int .i64 0), yF, yF, yF, Fq.is (.int .i64 0), yF, yF, yF, Fq.st [.n S.fa, .n S.fb, .n S.fc], Fq.st [.n S.fa, .n S.fb, .n S.fc], yT, yF, yF, yF, Fq.st [.n S.fa, .n S.fb, .n S.fc], Fq.st [.n S.fa, .n S.fb, .n S.fc], yT, yF, yF] N11 [] E (fun hp => ⟨?_, ?_, ?_, ?_, ?_, ?_, ?_, ?_, ?_, ?_, ?_, ?_, ?_, ?_, ?_, ?_, ?_, ?_, ?_, ?_, ?_, ?_, ?_, ?_, ?_, ?_, tv⟩) ?_
 ·exact zAa hp fo tv (sqo 10)
 ·exact zAe (F := fun v _ => v = .int .i64 0) hp fo tv (sqi 0) (fun ρ w hc h => ⟨.bool false, by simp [execOp, go_sem, h, hc], rfl⟩)
 ·exact zAa hp fo tv (sqi 1)
 ·exact zAa hp fo gqi (sqo 13)
 ·exact zAe (F := fun v _ => v = .int .i64 0) hp fo gqi (sqi 3) (fun ρ w hc h => ⟨.bool false, by simp [execOp, go_sem, h, hc], rfl⟩)
 ·exact zAg (F := fun v _ => v = .bool false) (G := fun v _ => v = .bool false) hp fo tv (sqi 2) (sqi 4) (fun ρ w hc h h' => ⟨_, by simp [execOp, go_sem, h, h'], rfl⟩)
 ·exact zAa hp fo tv (sqi 5)
 ·exact zAa hp fo gqi (sqo 16)
 ·exact zAe (F := fun v _ => v = .int .i64 0) hp fo gqi (sqi 7) (fun ρ w hc h => ⟨.bool false, by simp [execOp, go_sem, h, hc], rfl⟩)
 ·exact zAg (F := fun v _ => v = .bool false) (G := fun v _ => v = .bool false) hp fo tv (sqi 6) (sqi 8) (fun ρ w hc h h' => ⟨_, by simp [execOp, go_sem, h, h'], rfl⟩)
 ·exact zAa hp fo tv (sqi 9)
 ·exact zAa hp fo gqi (sqo 19)
 ·exact zAe (F := fun v _ => v = .int .i64 0) hp fo gqi (sqi 11) (fun ρ w hc h => ⟨.bool false, by simp [execOp, go_sem, h, hc], rfl⟩)
 ·exact zAg (F := fun v _ => v = .bool false) (G := fun v _ => v = .bool false) hp fo tv (sqi 10) (sqi 12) (fun ρ w hc h h' => ⟨_, by simp [execOp, go_sem, h, h'], rfl⟩)
 ·exact zAa hp fo tv (sqi 13)
 ·exact lG 0 6 hp gqi (mq 6 rfl) zAk (sqo 8) fun v w h => h
 ·exact lG 0 6 hp gqi (mq 2 rfl) zAk (sqo 14) fun v w h => h
 ·exact zAz (F := (Fq.st [.n S.fa, .n S.fb, .n S.fc]).P) (G := (Fq.st [.n S.fa, .n S.fb, .n S.fc]).P) hp fo gqi (zEi) (sqi 15) (sqi 16) (fun v v' w h h' => zEk h h' QS.out)
 ·exact zAe (F := fun v _ => v = .bool true) hp fo gqi (sqi 17) (fun ρ w _ h => ⟨.bool false, by simp [execOp, go_sem, h], rfl⟩)
 ·exact zAg (F := fun v _ => v = .bool false) (G := fun v _ => v = .bool false) hp fo tv (sqi 14) (sqi 18) (fun ρ w hc h h' => ⟨_, by simp [execOp, go_sem, h, h'], rfl⟩)
 ·exact zAa hp fo tv (sqi 19)
 ·exact lG 0 6 hp gqi (mq 6 rfl) zAk (sqo 8) fun v w h => h
 ·exact lG 0 6 hp gqi (mq 0 rfl) zAk (sqo 17) fun v w h => h
 ·exact zAz (F := (Fq.st [.n S.fa, .n S.fb, .n S.fc]).P) (G := (Fq.st [.n S.fa, .n S.fb, .n S.fc]).P) hp fo gqi (zEi) (sqi 21) (sqi 22) (fun v v' w h h' => zEk h h' QS.out)
 ·exact zAe (F := fun v _ => v = .bool true) hp fo gqi (sqi 23) (fun ρ w _ h => ⟨.bool false, by simp [execOp, go_sem, h], rfl⟩)
 ·exact zAg (F := fun v _ => v = .bool false) (G := fun v _ => v = .bool false) hp fo tv (sqi 20) (sqi 24) (fun ρ w hc h h' => ⟨_, by simp [execOp, go_sem, h, h'], rfl⟩)
 intro L vs w9 nb hL hC hn E9
 have e0 := wXi hC 0
 have e1 := wXi hC 1
 have e2 := wXi hC 2
 have e3 := wXi hC 3
 have e4 := wXi hC 4
 have e5 := wXi hC 5
 have e6 := wXi hC 6
 have e7 := wXi hC 7
 have e8 := wXi hC 8
 have e9 := wXi hC 9
 have e10 := wXi hC 10
 have e11 := wXi hC 11
 have e12 := wXi hC 12
 have e13 := wXi hC 13
 have e14 := wXi hC 14
 have e17 := wXi hC 17
 have e18 := wXi hC 18
 have e19 := wXi hC 19
 have e20 := wXi hC 20
 have e23 := wXi hC 23
 have e24 := wXi hC 24
 have e25 := wXi hC 25
 have E := E9; try simp only [LM, zAb] at E
 rw [zAd hL]
 simp only [SP, Nat.zero_add, Nat.reduceAdd]
 rw [e0, e1, e2, e3, e4, e5, e6, e7, e8, e9, e10, e11, e12, e13, e14, e17, e18, e19, e20, e23, e24, e25]
 generalize vs 15 = u9_15
 generalize vs 16 = u9_16
 generalize vs 21 = u9_21
 generalize vs 22 = u9_22
 clear e0 e1 e2 e3 e4 e5 e6 e7 e8 e9 e10 e11 e12 e13 e14 e17 e18 e19 e20 e23 e24 e25 hC hn E9 hL vs L nb
 go_upto_region 11 with (fail)
 cases ha : eqF S.fa S.fb S.fc R.fa R.fb R.fc
 case false =>
  have HEQ := hidd ha
  have M1 : Hid (zDz P.a P.b P.c Q.a Q.b Q.c = false) := by show _ = _; rw [zHh OKP.out.1 OKQ.out.1, ES.out, ER.out]; exact ha
  have M2 : Hid (zDz S.fa S.fb S.fc R.fa R.fb R.fc = false) := by show _ = _; rw [zHh VS.out.1 VR.out.1]; unfold eqR; rw [VS.out.2.1.1, VS.out.2.1.2.1, VS.out.2.1.2.2, VR.out.2.1.1, VR.out.2.1.2.1, VR.out.2.1.2.2]; exact ha
  clear ha
  refine rg [Fq.st [.n P.a, .n P.b, .n P.c], Fq.st [.n Q.a, .n Q.b, .n Q.c], Fq.tup2 (Fq.st [.n 0, .n 0, .n 0, .n 0]) (yF), Fq.tup2 (Fq.st [.n 0, .n 0, .n 0, .n 0]) (yF), Fq.st [.n 0, .n 0, .n 0, .n 0], yF, Fq.any, Fq.any, yF] N11 [⟨6, 7, 8, Fq.st [.n 0, .n 0, .n 0, .n 0], Fq.st [.n 0, .n 0, .n 0, .n 0], none⟩] E (fun hp => ⟨?_, ?_, ?_, ?_, ?_, ?_, ?_, ?_, ?_, tv⟩) ?_
  ·exact lS 0 6 hp (mq 8 rfl) zAk (sqo 6)
  ·exact lS 0 6 hp (mq 9 rfl) zAk (sqo 7)
  ·exact wXb (Fq.st [.n P.a, .n P.b, .n P.c]) (Fq.st [.n Q.a, .n Q.b, .n Q.c]) hp zGt (sqi 0) (sqi 1) fun v v' w h h' => zKk h h' (zAy BP.out.1) (zAy BP.out.2.1) (zAy BP.out.2.2) (zAy BQ.out.1) (zAy BQ.out.2.1) (zAy BQ.out.2.2) M1.out
  ·exact zAa hp fo tv (sqi 2)
  ·exact zB9 hp fo tv (sqi 3) (fun v1 v2 w h1 h2 => ⟨_, rfl, h1⟩)
  ·exact zB9 hp fo tv (sqi 3) (fun v1 v2 w h1 h2 => ⟨_, rfl, h2⟩)
  ·exact aS hp (mq 0 rfl) zA5 zBu
  ·exact sS 4 hp (mq 0 rfl) zA4
  ·exact zAh hp fo tv (sqi 5)
  intro L vs w10 nb hL hC hn E10
  have e5 := wXi hC 5
  have e8 := wXi hC 8
  have e6 : vs 6 = .pointer (some ⟨nb 6, 0, none⟩) := hn _ (mq 0 rfl)
  have E := E10; try simp only [LM, zAb] at E
  rw [zAd hL]
  simp only [SP, Nat.zero_add, Nat.reduceAdd]
  rw [e5, e8, e6]
  generalize nb 6 = b10_6 at E ⊢
  generalize vs 0 = u10_0
  generalize vs 1 = u10_1
  generalize vs 2 = u10_2
  generalize vs 3 = u10_3
  generalize vs 4 = u10_4
  clear e5 e8 e6 hC hn E10 hL vs L nb
  go_upto_region 12 with (fail)
  refine rg [Fq.st [.n S.fa, .n S.fb, .n S.fc], Fq.st [.n R.fa, .n R.fb, .n R.fc], Fq.tup2 (Fq.st [.n 0, .n 0, .n 0, .n 0]) (yF), Fq.tup2 (Fq.st [.n 0, .n 0, .n 0, .n 0]) (yF), Fq.st [.n 0, .n 0, .n 0, .n 0], yF, Fq.any, Fq.any, yF] N12 [⟨6, 7, 8, Fq.st [.n 0, .n 0, .n 0, .n 0], Fq.st [.n 0, .n 0, .n 0, .n 0], none⟩] E (fun hp => ⟨?_, ?_, ?_, ?_, ?_, ?_, ?_, ?_, ?_, tv⟩) ?_
  ·exact lS 0 6 hp (mq 7 rfl) zAk (sqo 8)
  ·exact lS 0 6 hp (mq 5 rfl) zAk (sqo 11)
  ·exact wXb (Fq.st [.n S.fa, .n S.fb, .n S.fc]) (Fq.st [.n R.fa, .n R.fb, .n R.fc]) hp zGt (sqi 0) (sqi 1) fun v v' w h h' => zKk h h' (zAy FS.out.1) (zAy FS.out.2.1) (zAy FS.out.2.2) (zAy FR.out.1) (zAy FR.out.2.1) (zAy FR.out.2.2) M2.out
  ·exact zAa hp fo tv (sqi 2)
  ·exact zB9 hp fo tv (sqi 3) (fun v1 v2 w h1 h2 => ⟨_, rfl, h1⟩)
  ·exact zB9 hp fo tv (sqi 3) (fun v1 v2 w h1 h2 => ⟨_, rfl, h2⟩)
  ·exact aS hp (mq 0 rfl) zA5 zBu
  ·exact sS 4 hp (mq 0 rfl) zA4
  ·exact zAh hp fo tv (sqi 5)
  intro L vs w11 nb hL hC hn E11
  have e5 := wXi hC 5
  have e8 := wXi hC 8
  have e6 : vs 6 = .pointer (some ⟨nb 6, 0, none⟩) := hn _ (mq 0 rfl)
  have E := E11; try simp only [LM, zAb] at E
  rw [zAd hL]
  simp only [SP, Nat.zero_add, Nat.reduceAdd]
  rw [e5, e8, e6]
  generalize nb 6 = b11_6 at E ⊢
  generalize vs 0 = u11_0
  generalize vs 1 = u11_1
  generalize vs 2 = u11_2
  generalize vs 3 = u11_3
  generalize vs 4 = u11_4
  clear e5 e8 e6 hC hn E11 hL vs L nb
  go_upto_region 13 with (fail)
  refine rg [yF, Fq.st [.n S.fa, .n S.fb, .n S.fc], Fq.st [.n R.fa, .n R.fb, .n R.fc], yF, yT, yT, yF, yF, yT, yT, yT, Fq.st [.n S.fa, .n S.fb, .n S.fc], yT, yT, yT, Fq.st [.n R.fa, .n R.fb, .n R.fc], yT, yT, yT, yT, yT, yT] N13 [] E (fun hp => ⟨?_, ?_, ?_, ?_, ?_, ?_, ?_, ?_, ?_, ?_, ?_, ?_, ?_, ?_, ?_, ?_, ?_, ?_, ?_, ?_, ?_, ?_, tv⟩) ?_
  ·exact zAa hp fo tv (sqo 21)
  ·exact lS 0 6 hp (mq 8 rfl) zAk (sqo 8)
  ·exact lS 0 6 hp (mq 6 rfl) zAk (sqo 11)
  ·exact wXb (Fq.st [.n S.fa, .n S.fb, .n S.fc]) (Fq.st [.n R.fa, .n R.fb, .n R.fc]) hp zEi (sqi 1) (sqi 2) fun v v' w h h' => zEk h h' HEQ.out
  ·exact zAg (F := fun v _ => v = .bool false) (G := fun v _ => v = .bool false) hp fo tv (sqi 0) (sqi 3) (fun ρ w hc h h' => ⟨.bool true, by simp [execOp, go_sem, h, h'], rfl⟩)
  ·exact zAa hp fo tv (sqi 4)
  ·exact zAa hp fo gqi (sqo 23)
  ·exact zAa hp fo gqi (sqo 21)
  ·exact zAg (F := fun v _ => v = .bool false) (G := fun v _ => v = .bool false) hp fo gqi (sqi 6) (sqi 7) (fun ρ w hc h h' => ⟨.bool true, by simp [execOp, go_sem, h, h'], rfl⟩)
  ·exact zAg (F := fun v _ => v = .bool true) (G := fun v _ => v = .bool true) hp fo tv (sqi 5) (sqi 8) (fun ρ w hc h h' => ⟨_, by simp [execOp, go_sem, h, h'], rfl⟩)
  ·exact zAa hp fo tv (sqi 9)
  ·exact lG 0 6 hp gqi (mq 8 rfl) zAk (sqo 8) fun v w h => h
  ·exact zAn (F := (Fq.st [.n S.fa, .n S.fb, .n S.fc]).P) hp fo gqi (zEu) (sqi 11) (fun v w h => zEx h (Int.lt_of_lt_of_le FS.out.1 (zAc (by omega))) (Int.lt_of_lt_of_le FS.out.2.1 (zAc (by omega))) (Int.lt_of_lt_of_le FS.out.2.2 (zAc (by omega))) (zHf VS.out.1 RS.out))
  ·exact zAg (F := fun v _ => v = .bool true) (G := fun v _ => v = .bool true) hp fo tv (sqi 10) (sqi 12) (fun ρ w hc h h' => ⟨_, by simp [execOp, go_sem, h, h'], rfl⟩)
  ·exact zAa hp fo tv (sqi 13)
  ·exact lG 0 6 hp gqi (mq 6 rfl) zAk (sqo 11) fun v w h => h
  ·exact zAn (F := (Fq.st [.n R.fa, .n R.fb, .n R.fc]).P) hp fo gqi (zEu) (sqi 15) (fun v w h => zEx h (Int.lt_of_lt_of_le FR.out.1 (zAc (by omega))) (Int.lt_of_lt_of_le FR.out.2.1 (zAc (by omega))) (Int.lt_of_lt_of_le FR.out.2.2 (zAc (by omega))) (zHf VR.out.1 RR.out))
  ·exact zAg (F := fun v _ => v = .bool true) (G := fun v _ => v = .bool true) hp fo tv (sqi 14) (sqi 16) (fun ρ w hc h h' => ⟨_, by simp [execOp, go_sem, h, h'], rfl⟩)
  ·exact zAa hp fo tv (sqi 17)
  ·exact zAa hp fo gqi (sqo 5)
  ·exact zAg (F := fun v _ => v = .bool true) (G := fun v _ => v = .bool true) hp fo tv (sqi 18) (sqi 19) (fun ρ w hc h h' => ⟨_, by simp [execOp, go_sem, h, h'], rfl⟩)
  ·exact zAh hp fo tv (sqi 20)
  intro L vs w12 nb hL hC hn E12
  have e0 := wXi hC 0
  have e3 := wXi hC 3
  have e4 := wXi hC 4
  have e5 := wXi hC 5
  have e6 := wXi hC 6
  have e7 := wXi hC 7
  have e8 := wXi hC 8
  have e9 := wXi hC 9
  have e10 := wXi hC 10
  have e12 := wXi hC 12
  have e13 := wXi hC 13
  have e14 := wXi hC 14
  have e16 := wXi hC 16
  have e17 := wXi hC 17
  have e18 := wXi hC 18
  have e19 := wXi hC 19
  have e20 := wXi hC 20
  have e21 := wXi hC 21
  have E := E12; try simp only [LM, zAb] at E
  rw [zAd hL]
  simp only [SP, Nat.zero_add, Nat.reduceAdd]
  rw [e0, e3, e4, e5, e6, e7, e8, e9, e10, e12, e13, e14, e16, e17, e18, e19, e20, e21]
  generalize vs 1 = u12_1
  generalize vs 2 = u12_2
  generalize vs 11 = u12_11
  generalize vs 15 = u12_15
  clear e0 e3 e4 e5 e6 e7 e8 e9 e10 e12 e13 e14 e16 e17 e18 e19 e20 e21 hC hn E12 hL vs L nb
  clear EP OKP IP MP En Zn HDn EQ OKQ IQ MQ ES US RS VS ER UR RR VR Es Et HZ HTB EG1 EG2 EG3 HG EA HA EC HC QS HEQ M1 M2
  clear BP BQ BS FS BR FR Bs Bt Bu BG BA BC
  go_wp2
  refine bodyPost_ret (v := .bool true) ?_ rfl ⟨_, rfl, E.below, rfl⟩
  simp [results, Tryz.results4, go_sem]
 case true =>
  have HEQ := hidd ha
  have M1 : Hid (zDz P.a P.b P.c Q.a Q.b Q.c = true) := by show _ = _; rw [zHh OKP.out.1 OKQ.out.1, ES.out, ER.out]; exact ha
  have M2 : Hid (zDz S.fa S.fb S.fc R.fa R.fb R.fc = true) := by show _ = _; rw [zHh VS.out.1 VR.out.1]; unfold eqR; rw [VS.out.2.1.1, VS.out.2.1.2.1, VS.out.2.1.2.2, VR.out.2.1.1, VR.out.2.1.2.1, VR.out.2.1.2.2]; exact ha
  clear ha
  refine rg [Fq.st [.n P.a, .n P.b, .n P.c], Fq.st [.n Q.a, .n Q.b, .n Q.c], Fq.tup2 (Fq.st [.n (smA (redT P.a P.b P.c) (redT Q.a Q.b Q.c)), .n (smB (redT P.a P.b P.c) (redT Q.a Q.b Q.c)), .n (smC (redT P.a P.b P.c) (redT Q.a Q.b Q.c)), .n (smD (redT P.a P.b P.c) (redT Q.a Q.b Q.c))]) (yT), Fq.tup2 (Fq.st [.n (smA (redT P.a P.b P.c) (redT Q.a Q.b Q.c)), .n (smB (redT P.a P.b P.c) (redT Q.a Q.b Q.c)), .n (smC (redT P.a P.b P.c) (redT Q.a Q.b Q.c)), .n (smD (redT P.a P.b P.c) (redT Q.a Q.b Q.c))]) (yT), Fq.st [.n (smA (redT P.a P.b P.c) (redT Q.a Q.b Q.c)), .n (smB (redT P.a P.b P.c) (redT Q.a Q.b Q.c)), .n (smC (redT P.a P.b P.c) (redT Q.a Q.b Q.c)), .n (smD (redT P.a P.b P.c) (redT Q.a Q.b Q.c))], yT, Fq.any, Fq.any, yT] N11 [⟨6, 7, 8, Fq.st [.n 0, .n 0, .n 0, .n 0], Fq.st [.n (smA (redT P.a P.b P.c) (redT Q.a Q.b Q.c)), .n (smB (redT P.a P.b P.c) (redT Q.a Q.b Q.c)), .n (smC (redT P.a P.b P.c) (redT Q.a Q.b Q.c)), .n (smD (redT P.a P.b P.c) (redT Q.a Q.b Q.c))], none⟩] E (fun hp => ⟨?_, ?_, ?_, ?_, ?_, ?_, ?_, ?_, ?_, tv⟩) ?_
  ·exact lS 0 6 hp (mq 8 rfl) zAk (sqo 6)
  ·exact lS 0 6 hp (mq 9 rfl) zAk (sqo 7)
  ·exact wXb (Fq.st [.n P.a, .n P.b, .n P.c]) (Fq.st [.n Q.a, .n Q.b, .n Q.c]) hp zGt (sqi 0) (sqi 1) fun v v' w h h' => zKl h h' (zAy BP.out.1) (zAy BP.out.2.1) (zAy BP.out.2.2) (zAy BQ.out.1) (zAy BQ.out.2.1) (zAy BQ.out.2.2) M1.out
  ·exact zAa hp fo tv (sqi 2)
  ·exact zB9 hp fo tv (sqi 3) (fun v1 v2 w h1 h2 => ⟨_, rfl, h1⟩)
  ·exact zB9 hp fo tv (sqi 3) (fun v1 v2 w h1 h2 => ⟨_, rfl, h2⟩)
  ·exact aS hp (mq 0 rfl) zA5 zBu
  ·exact sS 4 hp (mq 0 rfl) zA4
  ·exact zAh hp fo tv (sqi 5)
  intro L vs w13 nb hL hC hn E13
  have e5 := wXi hC 5
  have e8 := wXi hC 8
  have e6 : vs 6 = .pointer (some ⟨nb 6, 0, none⟩) := hn _ (mq 0 rfl)
  have E := E13; try simp only [LM, zAb] at E
  rw [zAd hL]
  simp only [SP, Nat.zero_add, Nat.reduceAdd]
  rw [e5, e8, e6]
  generalize nb 6 = b13_6 at E ⊢
  generalize vs 0 = u13_0
  generalize vs 1 = u13_1
  generalize vs 2 = u13_2
  generalize vs 3 = u13_3
  generalize vs 4 = u13_4
  clear e5 e8 e6 hC hn E13 hL vs L nb
  go_upto_region 12 with (fail)
  refine rg [Fq.st [.n S.fa, .n S.fb, .n S.fc], Fq.st [.n R.fa, .n R.fb, .n R.fc], Fq.tup2 (Fq.st [.n (smA (redT S.fa S.fb S.fc) (redT R.fa R.fb R.fc)), .n (smB (redT S.fa S.fb S.fc) (redT R.fa R.fb R.fc)), .n (smC (redT S.fa S.fb S.fc) (redT R.fa R.fb R.fc)), .n (smD (redT S.fa S.fb S.fc) (redT R.fa R.fb R.fc))]) (yT), Fq.tup2 (Fq.st [.n (smA (redT S.fa S.fb S.fc) (redT R.fa R.fb R.fc)), .n (smB (redT S.fa S.fb S.fc) (redT R.fa R.fb R.fc)), .n (smC (redT S.fa S.fb S.fc) (redT R.fa R.fb R.fc)), .n (smD (redT S.fa S.fb S.fc) (redT R.fa R.fb R.fc))]) (yT), Fq.st [.n (smA (redT S.fa S.fb S.fc) (redT R.fa R.fb R.fc)), .n (smB (redT S.fa S.fb S.fc) (redT R.fa R.fb R.fc)), .n (smC (redT S.fa S.fb S.fc) (redT R.fa R.fb R.fc)), .n (smD (redT S.fa S.fb S.fc) (redT R.fa R.fb R.fc))], yT, Fq.any, Fq.any, yT] N12 [⟨6, 7, 8, Fq.st [.n 0, .n 0, .n 0, .n 0], Fq.st [.n (smA (redT S.fa S.fb S.fc) (redT R.fa R.fb R.fc)), .n (smB (redT S.fa S.fb S.fc) (redT R.fa R.fb R.fc)), .n (smC (redT S.fa S.fb S.fc) (redT R.fa R.fb R.fc)), .n (smD (redT S.fa S.fb S.fc) (redT R.fa R.fb R.fc))], none⟩] E (fun hp => ⟨?_, ?_, ?_, ?_, ?_, ?_, ?_, ?_, ?_, tv⟩) ?_
  ·exact lS 0 6 hp (mq 7 rfl) zAk (sqo 8)
  ·exact lS 0 6 hp (mq 5 rfl) zAk (sqo 11)
  ·exact wXb (Fq.st [.n S.fa, .n S.fb, .n S.fc]) (Fq.st [.n R.fa, .n R.fb, .n R.fc]) hp zGt (sqi 0) (sqi 1) fun v v' w h h' => zKl h h' (zAy FS.out.1) (zAy FS.out.2.1) (zAy FS.out.2.2) (zAy FR.out.1) (zAy FR.out.2.1) (zAy FR.out.2.2) M2.out
  ·exact zAa hp fo tv (sqi 2)
  ·exact zB9 hp fo tv (sqi 3) (fun v1 v2 w h1 h2 => ⟨_, rfl, h1⟩)
  ·exact zB9 hp fo tv (sqi 3) (fun v1 v2 w h1 h2 => ⟨_, rfl, h2⟩)
  ·exact aS hp (mq 0 rfl) zA5 zBu
  ·exact sS 4 hp (mq 0 rfl) zA4
  ·exact zAh hp fo tv (sqi 5)
  intro L vs w14 nb hL hC hn E14
  have e5 := wXi hC 5
  have e8 := wXi hC 8
  have e6 : vs 6 = .pointer (some ⟨nb 6, 0, none⟩) := hn _ (mq 0 rfl)
  have E := E14; try simp only [LM, zAb] at E
  rw [zAd hL]
  simp only [SP, Nat.zero_add, Nat.reduceAdd]
  rw [e5, e8, e6]
  generalize nb 6 = b14_6 at E ⊢
  generalize vs 0 = u14_0
  generalize vs 1 = u14_1
  generalize vs 2 = u14_2
  generalize vs 3 = u14_3
  generalize vs 4 = u14_4
  clear e5 e8 e6 hC hn E14 hL vs L nb
  go_upto_region 13 with (fail)
  refine rg [yT, Fq.st [.n S.fa, .n S.fb, .n S.fc], Fq.st [.n R.fa, .n R.fb, .n R.fc], yT, yT, yT, yT, yT, yT, yT, yT, Fq.st [.n S.fa, .n S.fb, .n S.fc], yT, yT, yT, Fq.st [.n R.fa, .n R.fb, .n R.fc], yT, yT, yT, yT, yT, yT] N13 [] E (fun hp => ⟨?_, ?_, ?_, ?_, ?_, ?_, ?_, ?_, ?_, ?_, ?_, ?_, ?_, ?_, ?_, ?_, ?_, ?_, ?_, ?_, ?_, ?_, tv⟩) ?_
  ·exact zAa hp fo tv (sqo 21)
  ·exact lS 0 6 hp (mq 8 rfl) zAk (sqo 8)
  ·exact lS 0 6 hp (mq 6 rfl) zAk (sqo 11)
  ·exact wXb (Fq.st [.n S.fa, .n S.fb, .n S.fc]) (Fq.st [.n R.fa, .n R.fb, .n R.fc]) hp zEi (sqi 1) (sqi 2) fun v v' w h h' => zEk h h' HEQ.out
  ·exact zAg (F := fun v _ => v = .bool true) (G := fun v _ => v = .bool true) hp fo tv (sqi 0) (sqi 3) (fun ρ w hc h h' => ⟨.bool true, by simp [execOp, go_sem, h, h'], rfl⟩)
  ·exact zAa hp fo tv (sqi 4)
  ·exact zAa hp fo gqi (sqo 23)
  ·exact zAa hp fo gqi (sqo 21)
  ·exact zAg (F := fun v _ => v = .bool true) (G := fun v _ => v = .bool true) hp fo gqi (sqi 6) (sqi 7) (fun ρ w hc h h' => ⟨.bool true, by simp [execOp, go_sem, h, h'], rfl⟩)
  ·exact zAg (F := fun v _ => v = .bool true) (G := fun v _ => v = .bool true) hp fo tv (sqi 5) (sqi 8) (fun ρ w hc h h' => ⟨_, by simp [execOp, go_sem, h, h'], rfl⟩)
  ·exact zAa hp fo tv (sqi 9)
  ·exact lG 0 6 hp gqi (mq 8 rfl) zAk (sqo 8) fun v w h => h
  ·exact zAn (F := (Fq.st [.n S.fa, .n S.fb, .n S.fc]).P) hp fo gqi (zEu) (sqi 11) (fun v w h => zEx h (Int.lt_of_lt_of_le FS.out.1 (zAc (by omega))) (Int.lt_of_lt_of_le FS.out.2.1 (zAc (by omega))) (Int.lt_of_lt_of_le FS.out.2.2 (zAc (by omega))) (zHf VS.out.1 RS.out))
  ·exact zAg (F := fun v _ => v = .bool true) (G := fun v _ => v = .bool true) hp fo tv (sqi 10) (sqi 12) (fun ρ w hc h h' => ⟨_, by simp [execOp, go_sem, h, h'], rfl⟩)
  ·exact zAa hp fo tv (sqi 13)
  ·exact lG 0 6 hp gqi (mq 6 rfl) zAk (sqo 11) fun v w h => h
  ·exact zAn (F := (Fq.st [.n R.fa, .n R.fb, .n R.fc]).P) hp fo gqi (zEu) (sqi 15) (fun v w h => zEx h (Int.lt_of_lt_of_le FR.out.1 (zAc (by omega))) (Int.lt_of_lt_of_le FR.out.2.1 (zAc (by omega))) (Int.lt_of_lt_of_le FR.out.2.2 (zAc (by omega))) (zHf VR.out.1 RR.out))
  ·exact zAg (F := fun v _ => v = .bool true) (G := fun v _ => v = .bool true) hp fo tv (sqi 14) (sqi 16) (fun ρ w hc h h' => ⟨_, by simp [execOp, go_sem, h, h'], rfl⟩)
  ·exact zAa hp fo tv (sqi 17)
  ·exact zAa hp fo gqi (sqo 5)
  ·exact zAg (F := fun v _ => v = .bool true) (G := fun v _ => v = .bool true) hp fo tv (sqi 18) (sqi 19) (fun ρ w hc h h' => ⟨_, by simp [execOp, go_sem, h, h'], rfl⟩)
  ·exact zAh hp fo tv (sqi 20)
  intro L vs w15 nb hL hC hn E15
  have e0 := wXi hC 0
  have e3 := wXi hC 3
  have e4 := wXi hC 4
  have e5 := wXi hC 5
  have e6 := wXi hC 6
  have e7 := wXi hC 7
  have e8 := wXi hC 8
  have e9 := wXi hC 9
  have e10 := wXi hC 10
  have e12 := wXi hC 12
  have e13 := wXi hC 13
  have e14 := wXi hC 14
  have e16 := wXi hC 16
  have e17 := wXi hC 17
  have e18 := wXi hC 18
  have e19 := wXi hC 19
  have e20 := wXi hC 20
  have e21 := wXi hC 21
  have E := E15; try simp only [LM, zAb] at E
  rw [zAd hL]
  simp only [SP, Nat.zero_add, Nat.reduceAdd]
  rw [e0, e3, e4, e5, e6, e7, e8, e9, e10, e12, e13, e14, e16, e17, e18, e19, e20, e21]
  generalize vs 1 = u15_1
  generalize vs 2 = u15_2
  generalize vs 11 = u15_11
  generalize vs 15 = u15_15
  clear e0 e3 e4 e5 e6 e7 e8 e9 e10 e12 e13 e14 e16 e17 e18 e19 e20 e21 hC hn E15 hL vs L nb
  clear EP OKP IP MP En Zn HDn EQ OKQ IQ MQ ES US RS VS ER UR RR VR Es Et HZ HTB EG1 EG2 EG3 HG EA HA EC HC QS HEQ M1 M2
  clear BP BQ BS FS BR FR Bs Bt Bu BG BA BC
  go_wp2
  refine bodyPost_ret (v := .bool true) ?_ rfl ⟨_, rfl, E.below, rfl⟩
  simp [results, Tryz.results4, go_sem]

theorem zMj (w : World) (D i0 i1 i2 i3 m0 m1 m2 m3 : Int) (hD : 0 ≤ D ∧ D ≤ 65535) (hi0 : 0 ≤ i0 ∧ i0 ≤ 65535) (hi1 : 0 ≤ i1 ∧ i1 ≤ 65535) (hi2 : 0 ≤ i2 ∧ i2 ≤ 65535) (hi3 : 0 ≤ i3 ∧ i3 ≤ 65535) (hm0 : 0 ≤ m0 ∧ m0 ≤ 255) (hm1 : 0 ≤ m1 ∧ m1 ≤ 255) (hm2 : 0 ≤ m2 ∧ m2 ≤ 255) (hm3 : 0 ≤ m3 ∧ m3 ≤ 255) (z : Int) (hz0 : 0 ≤ z) (hz1 : z ≤ 255) : Calls Tryz.prog 4 #[.agg #[.int .u16 D, .int .u16 i0, .int .u16 i1, .int .u16 i2, .int .u16 i3, .int .u8 m0, .int .u8 m1, .int .u8 m2, .int .u8 m3], .int .u8 z] w fun e w' => e = .returned (.bool true) ∧ Below w.heap.size w w' := by
 refine (zMi w D i0 i1 i2 i3 m0 m1 m2 m3 hD hi0 hi1 hi2 hi3 hm0 hm1 hm2 hm3 z ⟨hz0, hz1⟩ ⟨[.int .u16 D, .int .u16 i0, .int .u16 i1, .int .u16 i2, .int .u16 i3, .int .u8 m0, .int .u8 m1, .int .u8 m2, .int .u8 m3], rfl, _, rfl, rfl, _, rfl, rfl, _, rfl, rfl, _, rfl, rfl, _, rfl, rfl, _, rfl, rfl, _, rfl, rfl, _, rfl, rfl, _, rfl, rfl, rfl⟩).mono ?_
 rintro e w' ⟨v', rfl, hb, rfl⟩
 exact ⟨rfl, hb⟩

end Go.Proofs.YtdhkhedhnolcjaaGreat
