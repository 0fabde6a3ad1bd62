/- Uq, Ul, Uo, Ux, Ut, Uv, Uw. -/
import Derived.Test.YtdhkhedhnolcjaaGreatCj6
set_option linter.unusedSimpArgs false
set_option linter.unusedVariables false
namespace Go.Proofs.YtdhkhedhnolcjaaGreat
open Go Go.RowKit

theorem zL3 {w : World} {ops : Array Oper} {rest : List Oper} {o : Oper} {a : Act} {Q : Exit → Act → World → Prop} (hgd : o.guard = none) (T : TypeId) (x : Operand) (ho : o.op = .load T x) {b off l : Nat} {fs : List Fd} (hT : rowB T l = true) (hl : sz fs = l)
  (hx : a.eval x = .pointer (some ⟨b, off, none⟩)) (hS : StAt w b off fs) (h : ∀ v, (Fq.st fs).P v w → wpList Tryz.prog ops Q rest (a.put o.dst v) w) : wpList Tryz.prog ops Q (o :: rest) a w := by
 refine wpList_plain hgd fun K hK => ?_
 obtain ⟨es, hfit, hat⟩ := hS
 obtain ⟨⟨dd, hu, hd'⟩, hi⟩ := rowB_of hT
 have hr : w.rangeAt b off es := by
  intro j v hv
  have hj := (List.getElem?_eq_some_iff.1 hv).1
  rw [hat j hj, List.getD, hv]
  rfl
 have := run_loadVar_mid (P := Tryz.prog) w b off T _ dd hr hu hd' (by rw [hfit.length, hl]; exact hi)
 unfold Oper.wp
 have e : (execOp a.eval o).run Tryz.prog w = .ok (.value (.agg es.toArray)) w := by
  unfold execOp
  simp only [ho, hx, Instr.loadAt, Instr.sureAddr, Sem.run_bind, Sem.run_pure, Result.andThen_ok, this]
 rw [e]
 exact hK _ _ (h _ ⟨_, rfl, hfit⟩)
theorem Fr.addQ {w0 W0 W : World} {bs : List (Nat × Nat × Fq)} (E : Fr w0 bs W0) (hb : Below W0.heap.size W0 W) {g m : Nat} {F : Fq} (hg : W0.heap.size ≤ g) (hB : Bq W g m F) : Fr w0 ((g, m, F) :: bs) W := by
 have h2 := E.later hb
 refine ⟨h2.below, fun x hx => ?_, ?_⟩
 ·rcases List.mem_cons.1 hx with rfl | hx
  ·exact ⟨Nat.le_trans E.below.size hg, hB⟩
  ·exact h2.boxes x hx
 ·rw [List.map_cons, List.nodup_cons]
  refine ⟨fun hm => ?_, E.apart⟩
  obtain ⟨x, hx, e⟩ := List.mem_map.1 hm
  have := (E.boxes x hx).2.lt
  omega
theorem StAt.of_boxQ {w : World} {b m : Nat} {fs : List Fd} (h : Bq w b m (Fq.st fs)) : StAt w b 0 fs := by
 obtain ⟨us, _, h2, h3⟩ := zBm h
 exact ⟨us, h3, fun j hj => by rw [Nat.zero_add]; exact h2 j hj⟩
theorem sixQ {us : List Value} (h : us.length = 6) : ∃ a b c d e f, us = [a, b, c, d, e, f] := by
 match us, h with
 | [a, b, c, d, e, f], _ => exact ⟨a, b, c, d, e, f, rfl⟩
structure F3 where
 a : Int
 b : Int
 c : Int
def frF (P : F3) : List Fd := [.n P.a, .n P.b, .n P.c]
def zEe (a b c : Int) : Bool := (dfB a b c && redB a b c) && decide (cont a b c = 1)
def zBn (n a b : Int) : List F3 := if (b * b + n) % (4 * a) = 0 then (if zEe a b ((b * b + n) / (4 * a)) = true then [⟨a, b, (b * b + n) / (4 * a)⟩] else []) else []
def zCj (n a : Int) : Nat → List F3
 | 0 => []
 | k + 1 => zCj n a k ++ zBn n a (-a + (k : Int))
def zB6 (n : Int) : Nat → List F3
 | 0 => []
 | a + 1 => zB6 n a ++ (if a = 0 then [] else zCj n (a : Int) (2 * a + 1))
def AEnd (n : Int) (a : Nat) : Prop := 1 ≤ a ∧ ¬ 3 * ((a : Int) * a) ≤ n ∧ ∀ j : Nat, 1 ≤ j → j < a → 3 * ((j : Int) * j) ≤ n
theorem AEnd.uniq {n : Int} {a b : Nat} (h : AEnd n a) (g : AEnd n b) : a = b := by
 rcases Nat.lt_trichotomy a b with e | e | e
 ·exact absurd (g.2.2 a h.1 e) h.2.1
 ·exact e
 ·exact absurd (h.2.2 b g.1 e) g.2.1
open Classical in
noncomputable def zCa (n : Int) : List F3 := if h : ∃ a, AEnd n a then zB6 n (Classical.choose h) else []
theorem zKq {n : Int} {a : Nat} (h : AEnd n a) : zCa n = zB6 n a := by
 have he : ∃ a, AEnd n a := ⟨a, h⟩
 unfold zCa
 rw [dif_pos he, (Classical.choose_spec he).uniq h]
theorem AEnd.ex {n : Int} (h0 : 3 ≤ n) (h1 : n ≤ 2004) : ∃ a, AEnd n a := by
 have key : ∀ k a : Nat, 1 ≤ a → a + k = 26 → (∀ j : Nat, 1 ≤ j → j < a → 3 * ((j : Int) * j) ≤ n) → ∃ a, AEnd n a := by
  intro k
  induction k with
  | zero =>
   intro a h2 h3 h4
   obtain rfl : a = 26 := by omega
   exact ⟨26, by omega, by omega, h4⟩
  | succ k ih =>
   intro a h2 h3 h4
   by_cases h : 3 * ((a : Int) * a) ≤ n
   ·refine ih (a + 1) (by omega) (by omega) fun j hj1 hj2 => ?_
    rcases Nat.lt_or_ge j a with g | g
    ·exact h4 j hj1 g
    ·rw [show j = a by omega]; exact h
   ·exact ⟨a, h2, h, h4⟩
 exact key 25 1 (by omega) (by omega) fun j h2 h3 => by omega
def FOk (n : Int) (P : F3) : Prop := 1 ≤ P.a ∧ (dfB P.a P.b P.c && redB P.a P.b P.c) = true ∧ cont P.a P.b P.c = 1 ∧ P.b * P.b - 4 * (P.a * P.c) = -n
theorem formAt_ok {n a b : Int} (ha : 1 ≤ a) : ∀ P ∈ zBn n a b, FOk n P := by
 intro P hP
 unfold zBn at hP
 split at hP
 ·rename_i hm
  split at hP
  ·rename_i hk
   simp at hP
   subst hP
   unfold zEe at hk
   simp only [Bool.and_eq_true, decide_eq_true_eq] at hk
   refine ⟨ha, by simp only [Bool.and_eq_true]; exact hk.1, hk.2, ?_⟩
   have h2 := Int.mul_ediv_add_emod (b * b + n) (4 * a)
   rw [hm, Int.mul_assoc] at h2
   show b * b - 4 * (a * ((b * b + n) / (4 * a))) = -n
   omega
  ·simp at hP
 ·simp at hP
theorem zKp {n a : Int} (ha : 1 ≤ a) : ∀ k, ∀ P ∈ zCj n a k, FOk n P
 | 0 => fun P hP => by simp [zCj] at hP
 | k + 1 => fun P hP => by
  rw [zCj] at hP
  rcases List.mem_append.1 hP with h | h
  ·exact zKp ha k P h
  ·exact formAt_ok ha P h
theorem zKo {n : Int} : ∀ a, ∀ P ∈ zB6 n a, FOk n P
 | 0 => fun P hP => by simp [zB6] at hP
 | a + 1 => fun P hP => by
  rw [zB6] at hP
  rcases List.mem_append.1 hP with h | h
  ·exact zKo a P h
  ·split at h
   ·simp at h
   ·exact zKp (by omega) _ P h
theorem zKr {n : Int} : ∀ P ∈ zCa n, FOk n P := by
 unfold zCa
 split
 ·exact zKo _
 ·intro P hP; simp at hP
theorem zKn {n : Int} {a : Nat} : ∀ k, (zB6 n a).length ≤ (zB6 n (a + k)).length
 | 0 => Nat.le_refl _
 | k + 1 => by
  rw [show a + (k + 1) = (a + k) + 1 by omega, zB6, List.length_append]
  have := zKn (n := n) (a := a) k
  omega
theorem form_len {n a b : Int} : (zBn n a b).length ≤ 1 := by unfold zBn; split <;> (try split) <;> simp
theorem zIn {n a : Int} : ∀ k, (zCj n a k).length ≤ k
 | 0 => by simp [zCj]
 | k + 1 => by rw [zCj, List.length_append]; have := zIn (n := n) (a := a) k; have := form_len (n := n) (a := a) (b := -a + (k : Int)); omega
theorem zIm {n : Int} : ∀ a, a ≤ 26 → (zB6 n a).length ≤ a * 60
 | 0, _ => by simp [zB6]
 | a + 1, h => by
  rw [zB6, List.length_append]
  have := zIm (n := n) a (by omega)
  split
  ·simp; omega
  ·have := zIn (n := n) (a := (a : Int)) (2 * a + 1); omega
theorem listF_pos {n : Int} (h0 : 3 ≤ n) (h1 : n ≤ 2004) (h4 : n % 4 = 0 ∨ n % 4 = 3) : 0 < (zCa n).length := by
 obtain ⟨a, h⟩ := AEnd.ex h0 h1
 rw [zKq h]
 have h2 : 2 ≤ a := by
  rcases Nat.lt_or_ge a 2 with g | g
  ·have h5 : a = 1 := by have := h.1; omega
   subst h5
   exact absurd (show (3 * (((1 : Nat) : Int) * (1 : Nat)) : Int) ≤ n by omega) h.2.1
  ·exact g
 obtain ⟨k, rfl⟩ : ∃ k, a = 2 + k := ⟨a - 2, by omega⟩
 refine Nat.lt_of_lt_of_le ?_ (zKn k)
 have e : zB6 n 2 = zB6 n 1 ++ zCj n ((1 : Nat) : Int) 3 := rfl
 rw [e, List.length_append]
 have key : ∀ b c : Int, 0 ≤ b → b ≤ 1 → b * b + n = 4 * c → 1 ≤ c → 0 < (zBn n 1 b).length := by
  intro b c hb0 hb1 hc hc1
  have hm : (b * b + n) % (4 * 1) = 0 := by rw [hc]; omega
  have hq : (b * b + n) / (4 * 1) = c := by rw [hc]; omega
  unfold zBn
  rw [if_pos hm, hq, if_pos]
  ·simp
  ·unfold zEe
   have hrd : Rdf 1 b c := ⟨by decide, by omega, by omega, hc1, fun _ => hb0⟩
   rw [(zD9 (by decide)).2 hrd, Bool.and_true]
   have hd : dfB 1 b c = true := by
    unfold dfB
    exact decide_eq_true ⟨by omega, by decide⟩
   rw [hd, Bool.true_and]
   refine decide_eq_true ?_
   unfold cont
   simp
 have e2 : zCj n ((1 : Nat) : Int) 3 = ((([] : List F3) ++ zBn n ((1 : Nat) : Int) (-((1 : Nat) : Int) + ((0 : Nat) : Int))) ++ zBn n ((1 : Nat) : Int) (-((1 : Nat) : Int) + ((1 : Nat) : Int))) ++ zBn n ((1 : Nat) : Int) (-((1 : Nat) : Int) + ((2 : Nat) : Int)) := rfl
 rw [e2, List.length_append, List.length_append]
 rcases h4 with h5 | h5
 ·have := key 0 (n / 4) (by decide) (by decide) (by omega) (by omega)
  have e3 : zBn n ((1 : Nat) : Int) (-((1 : Nat) : Int) + ((1 : Nat) : Int)) = zBn n 1 0 := rfl
  rw [e3]
  omega
 ·have := key 1 ((n + 1) / 4) (by decide) (by decide) (by omega) (by omega)
  have e3 : zBn n ((1 : Nat) : Int) (-((1 : Nat) : Int) + ((2 : Nat) : Int)) = zBn n 1 1 := rfl
  rw [e3]
  omega
def rowQ : List F3 → List Fd
 | [] => []
 | P :: ps => frF P ++ rowQ ps
theorem zLo : ∀ (ps qs : List F3), rowQ (ps ++ qs) = rowQ ps ++ rowQ qs
 | [], _ => rfl
 | P :: ps, qs => by
  show frF P ++ rowQ (ps ++ qs) = (frF P ++ rowQ ps) ++ rowQ qs
  rw [zLo ps qs, List.append_assoc]
theorem zLp : ∀ {ps : List F3} {i : Nat} {P : F3}, ps[i]? = some P → subF (i * 6) 6 (rowQ ps) = some (frF P)
 | [], _, _, h => by simp at h
 | Q :: ps, 0, P, h => by
  simp at h
  subst h
  rfl
 | Q :: ps, i + 1, P, h => by
  have ih := zLp (ps := ps) (i := i) (P := P) (by simpa using h)
  rw [show (i + 1) * 6 = i * 6 + 6 by omega]
  exact ih
theorem Ls.box6 {T : Nat} {w : World} {B : Nat} {v : Value} {Ps : List F3} (h : Ls T 6 w B v (Ps.map frF)) (h0 : 0 < Ps.length) : ∃ g cap, v = .slice (some ⟨g, 0, none⟩) Ps.length cap ∧ B ≤ g ∧ Bq w g (Ps.length * 6) (Fq.st (rowQ Ps)) := by
 obtain ⟨us, h, hE⟩ := h
 have h5 := h
 have hul := h5.1
 rw [List.length_map] at hul
 rcases h.2 with ⟨rfl, h1⟩ | ⟨g, cap, cur, rfl, h1, h2, h3⟩
 ·rw [List.length_map] at h1; omega
 ·rw [List.length_map] at h5 ⊢
  have hat : At w g us := fun j hj => ⟨by rw [World.ownsRow.cellAt h5 j (by omega)]; simp [List.getD, List.getElem?_eq_getElem hj], by simp [World.frozen?, h2]⟩
  have all : ∀ n, n ≤ Ps.length → Fits w (rowQ (Ps.take n)) (us.take (n * 6)) := by
   intro n
   induction n with
   | zero => exact fun _ => by rw [Nat.zero_mul, List.take_zero, List.take_zero]; rfl
   | succ n ih =>
    intro hn
    obtain ⟨es, g1, g2, _, g4, _⟩ := hE n (frF (Ps[n]'(by omega))) (by simp [List.getElem?_map, List.getElem?_eq_getElem (show n < Ps.length by omega)])
    have e : us.take ((n + 1) * 6) = us.take (n * 6) ++ es := by
     rw [Nat.add_mul, Nat.one_mul, List.take_add]
     congr 1
     refine List.ext_getElem? fun j => ?_
     rcases Nat.lt_or_ge j 6 with hj | hj
     ·rw [List.getElem?_take_of_lt hj, List.getElem?_drop]
      exact g2 j hj
     ·rw [List.getElem?_eq_none (by rw [List.length_take]; omega), List.getElem?_eq_none (by omega)]
    rw [e, List.take_add_one, List.getElem?_eq_getElem (by omega), Option.toList_some, zLo]
    refine (ih (by omega)).append ?_
    show Fits w (frF _ ++ []) es
    rw [List.append_nil]
    exact g4
  have hf := all Ps.length (Nat.le_refl _)
  rw [List.take_length, ← hul, List.take_length] at hf
  exact ⟨g, cap, rfl, h1, us, hul, by omega, hat, hf.tame, us, rfl, hf⟩
theorem Ls.stepF {T m B : Nat} {w wr w1 w2 : World} {v : Value} {fss : List (List Fd)} {us es : List Value} {fs : List Fd} {o : Obj} {g cap H : Nat}
  (hO : wr.ownsRow B T m v fss.length us) (hE : ∀ i z, fss[i]? = some z → StCell m us wr v.ownBlock i z) (hB : B ≤ wr.heap.size) (hnx : Below B w wr) (hb : Below wr.heap.size wr w1)
  (hfar : FarC v.ownBlock es) (hF : Fits w1 fs es) (hn : noSl fs = true) (hm : es.length = m)
  (hown' : w2.ownsRow B T m (.slice (some ⟨g, 0, none⟩) (fss.length + 1) cap) (fss.length + 1) (us ++ es)) (hgrow : (w1.alloc o).grownBy w2 v.ownBlock) (hat : v.ownBlock = some g ∨ g = H) (hH : (w1.alloc o).heap.size = H) :
  Ls T m w2 B (.slice (some ⟨g, 0, none⟩) (fss.length + 1) cap) (fss ++ [fs]) ∧ Below B w w2 := by
 have hsz := hb.size
 have hH2 : w1.heap.size + 1 = H := by rw [← hH]; simp
 have hul := hO.1
 refine ⟨⟨us ++ es, by simpa using hown', fun i y hi => ?_⟩, ?_⟩
 ·have hne : ∀ {a : Addr} {k c : Nat} {xs : List Value} {gs : List Fd}, Fits w1 gs xs → noSl gs = true → Value.slice (some a) k c ∈ xs → k ≠ 0 → some a.block ≠ v.ownBlock → a.block ≠ g := by
   intro a k c xs gs hx hnx2 hmx hk hr e
   have h1 := hx.blk hnx2 hmx hk
   rcases hat with h | h
   ·rw [h, e] at hr; exact hr rfl
   ·omega
  by_cases hil : i < fss.length
  ·rw [List.getElem?_append_left hil] at hi
   obtain ⟨xs, g1, g2, g3, g4, g5⟩ := hE i y hi
   refine ⟨xs, g1, fun j hj => ?_, fun a k c hs hk e => ?_, ((g4.mono hb).mono (zAw w1 o)).grown hgrow g3, g5⟩
   ·have hm1 : (i + 1) * m ≤ fss.length * m := Nat.mul_le_mul_right m (by omega)
    rw [Nat.add_mul, Nat.one_mul] at hm1
    rw [List.getElem?_append_left (by omega)]
    exact g2 j hj
   ·exact hne (g4.mono hb) g5 hs hk (g3 a k c hs hk) (by simpa [Value.ownBlock] using e)
  ·have hi2 : i = fss.length := by
    rcases Nat.lt_or_ge i (fss ++ [fs]).length with h | h
    ·simp at h; omega
    ·rw [List.getElem?_eq_none h] at hi; cases hi
   subst hi2
   rw [List.getElem?_append_right (Nat.le_refl _), Nat.sub_self] at hi
   simp only [List.getElem?_cons_zero, Option.some.injEq] at hi
   subst hi
   refine ⟨es, hm, fun j hj => ?_, fun a k c hs hk e => ?_, (hF.mono (zAw w1 o)).grown hgrow hfar, hn⟩
   ·rw [List.getElem?_append_right (by omega), show fss.length * m + j - us.length = j by omega]
   ·exact hne hF hn hs hk (hfar a k c hs hk) (by simpa [Value.ownBlock] using e)
 ·exact ((hnx.trans (hb.mono hB)).alloc (by omega) o).grown hgrow (by simp; omega) (fun j hj => (hO.lt j hj).1)
theorem Ls.nil {T m : Nat} (w : World) {B : Nat} (hB : B ≤ w.heap.size) : Ls T m (w.alloc (.cells #[] T)) B (.slice (some ⟨w.heap.size, 0, none⟩) 0 0) [] :=
 ⟨[], ⟨by simp, .inr ⟨w.heap.size, 0, #[], rfl, hB, heap_alloc_new w _, by simp, by unfold maxLen; omega, by simp, by simp⟩⟩, fun i z hi => by simp at hi⟩
theorem TameRow.nil {w : World} {T : Nat} : TameRow (w.alloc (.cells #[] T)) (.slice (some ⟨w.heap.size, 0, none⟩) 0 0) := ⟨_, _, _, #[], T, rfl, heap_alloc_new w _, fun u hu => by simp at hu⟩
theorem zPs {w : World} {ops : Array Oper} {rest : List Oper} {o : Oper} {a : Act} {Q : Exit → Act → World → Prop} (hgd : o.guard = none) (x : Operand) (ho : o.op = .move x) (h : wpList Tryz.prog ops Q rest (a.put o.dst (a.eval x)) w) : wpList Tryz.prog ops Q (o :: rest) a w := by
 refine wpList_plain hgd fun K hK => ?_
 unfold Oper.wp
 have e : (execOp a.eval o).run Tryz.prog w = .ok (.value (a.eval x)) w := by
  unfold execOp
  simp only [ho]
  simp [go_sem]
 rw [e]
 exact hK _ _ h
theorem info_form : (Tryz.prog.info? 33).map (fun i => (i.zero, i.size, i.bytes)) = some (some (.agg #[.bool false, .slice none 0 0, .bool false, .slice none 0 0, .bool false, .slice none 0 0]), 6, 96) := by kernel_rfl
theorem frF_snoc (Ps : List F3) (P : F3) : (Ps ++ [P]).map frF = Ps.map frF ++ [frF P] := by simp
theorem sq_bd {a : Nat} {n : Int} (h : 3 * ((a : Int) * a) ≤ n) (hn : n ≤ 2004) : a ≤ 25 := by
 rcases Nat.lt_or_ge 25 a with g | g
 ·have h1 := Nat.mul_le_mul (show 26 ≤ a by omega) (show 26 ≤ a by omega)
  have h2 : ((a * a : Nat) : Int) = (a : Int) * a := by rw [Int.natCast_mul]
  omega
 ·exact g
theorem zPj {x y : Int} {m n : Nat} (hx : x.natAbs ≤ m) (hy : y.natAbs ≤ n) : (x * y).natAbs ≤ m * n := by
 rw [Int.natAbs_mul]
 exact Nat.mul_le_mul hx hy
theorem sq_nn {b : Int} {m : Nat} (h : b.natAbs ≤ m) : 0 ≤ b * b ∧ b * b ≤ m * m := by
 have h1 := zPj h h
 have h2 := zDv b
 have h3 : ((m * m : Nat) : Int) = (m : Int) * m := by rw [Int.natCast_mul]
 omega
set_option maxRecDepth 100000 in
set_option maxHeartbeats 4000000 in
theorem exQList {w : World} {n : Int} (h0 : 3 ≤ n) (h1 : n ≤ 2004) :
  Calls Tryz.prog 72 #[.int .i64 n] w fun e w' => ∃ v', e = .returned v' ∧ Below w.heap.size w w' ∧ Ls 33 6 w' w.heap.size v' ((zCa n).map frF) := by
 have HN := hidd (And.intro h0 h1)
 clear h0 h1
 obtain ⟨i0, hi, hz0, hz1, hz2⟩ := info_parts info_form
 go_enter Tryz.func72, Tryz.ntmps72
 obtain ⟨W0, rfl⟩ : ∃ W0, W0 = w := ⟨_, rfl⟩
 go_wp2
 go_loopw [3, 4] (fun vl va W => ∃ (a : Nat) (A : Int) (Ps : List F3), va = .int .i64 A ∧ A = (a : Int) ∧ 1 ≤ a ∧ a ≤ 26 ∧ (∀ j : Nat, 1 ≤ j → j < a → 3 * ((j : Int) * j) ≤ n) ∧ Ps = zB6 n a ∧ Ls 33 6 W W0.heap.size vl (Ps.map frF) ∧ TameRow W vl ∧ Below W0.heap.size W0 W) (fun _ va _ => (27 - intOf va).toNat)
 case atStart => exact ⟨1, 1, [], rfl, rfl, by omega, by omega, fun j h2 h3 => by omega, rfl, Ls.nil W0 (Nat.le_refl _), TameRow.nil, zAw _ _⟩
 case round =>
  obtain ⟨V2, rfl⟩ : ∃ V2, V2 = wr := ⟨_, rfl⟩
  obtain ⟨a, A, Ps, rfl, hA, ha1, ha2, hrun, hPE, HL, HT, HBW⟩ := hrel
  have HPE := hidd hPE
  have HAA := hidd hA
  have HRUN := hidd hrun
  have hPl : Ps.length ≤ a * 60 := by rw [hPE]; exact zIm a ha2
  clear hPE
  have hml : (Ps.map frF).length = Ps.length := List.length_map ..
  obtain ⟨ao2, cap2, rfl⟩ := id HL.shape
  rw [hml] at HL HT ⊢
  by_cases hx : 3 * ((a : Int) * a) ≤ n
  ·have hae : 3 * ((a : Int) * a) ≤ n := hx
   have ha25 := sq_bd hae (by have := HN.out; omega)
   have HQ0 := hidd (And.intro ha1 (And.intro ha25 hPl))
   have HXE := hidd hae
   have HLH := hidd HL
   have HTH := hidd HT
   have HBH := hidd HBW
   have hV := HBW.size
   have haa : A * A = (a : Int) * a := by rw [hA]
   have hs := sq_nn (b := A) (m := 25) (by omega)
   obtain ⟨t3, ht3⟩ : ∃ t3, t3 = 3 * A := ⟨_, rfl⟩
   obtain ⟨t4, ht4⟩ : ∃ t4, t4 = t3 * A := ⟨_, rfl⟩
   have hq4 : t4 = 3 * ((a : Int) * a) := by rw [ht4, ht3, Int.mul_assoc, haa]
   have W3 : Hid (IntKind.i64.wrap (3 * A) = t3) := by show _ = _; rw [ht3]; exact IntWalk.i64_in _ (by omega)
   have W4 : Hid (IntKind.i64.wrap (t3 * A) = t4) := by show _ = _; rw [← ht4]; exact IntWalk.i64_in _ (by omega)
   have T4 : Hid (t4 ≤ n) := by show _ ≤ _; omega
   have WN : Hid (IntKind.i64.wrap (-A) = -A) := IntWalk.i64_in _ (by omega)
   clear ha1 ha2 hPl HL HT HBW hx hae ha25 haa hs ht3 ht4 hq4 hA hrun hV hml
   have E := Fr.start V2
   go_upto_region 3 with (fail)
   refine rg [Fq.is (.int .i64 A), Fq.is (.int .i64 t3), Fq.is (.int .i64 A), Fq.is (.int .i64 t4), Fq.is (.int .i64 n), yT] [] [] E (fun hp => ⟨?_, ?_, ?_, ?_, ?_, ?_, tv⟩) ?_
   ·exact zAa hp fo tv (sqo 4)
   ·exact zAf (F := fun v _ => v = .int .i64 A) hp fo tv (sqi 0) (fun ρ w hc h => ⟨.int .i64 t3, by simp [execOp, go_sem, h, hc, W3.out], rfl⟩)
   ·exact zAa hp fo tv (sqo 4)
   ·exact zAg (F := fun v _ => v = .int .i64 t3) (G := fun v _ => v = .int .i64 A) hp fo tv (sqi 1) (sqi 2) (fun ρ w hc h h' => ⟨.int .i64 t4, by simp [execOp, go_sem, h, h', W4.out], rfl⟩)
   ·exact zAa hp fo tv (sqo 0)
   ·exact zAg (F := fun v _ => v = .int .i64 t4) (G := fun v _ => v = .int .i64 n) hp fo tv (sqi 3) (sqi 4) (fun ρ w hc h h' => ⟨.bool true, by simp [execOp, go_sem, h, h', T4.out], rfl⟩)
   intro L vs w1 nb hL hC hn E1
   have e0 := wXi hC 0
   have e1 := wXi hC 1
   have e2 := wXi hC 2
   have e3 := wXi hC 3
   have e4 := wXi hC 4
   have e5 := wXi hC 5
   have E := E1; try simp only [LM, zAd] at E
   rw [zAe hL]
   simp only [SP, Nat.zero_add, Nat.reduceAdd]
   rw [e0, e1, e2, e3, e4, e5]
   clear e0 e1 e2 e3 e4 e5 hC hn E1 hL vs L nb
   go_upto_region 5 with (fail)
   refine rg [Fq.is (.int .i64 A), Fq.is (.int .i64 (-A)), Fq.is (.int .i64 (-A))] [] [] E (fun hp => ⟨?_, ?_, ?_, tv⟩) ?_
   ·exact zAa hp fo tv (sqo 4)
   ·exact zAf (F := fun v _ => v = .int .i64 A) hp fo tv (sqi 0) (fun ρ w _ h => ⟨.int .i64 (-A), by simp [execOp, go_sem, h, WN.out], rfl⟩)
   ·exact zAh hp fo tv (sqi 1)
   intro L vs w2 nb hL hC hn E2
   have e0 := wXi hC 0
   have e1 := wXi hC 1
   have e2 := wXi hC 2
   have E := E2; try simp only [LM, zAd] at E
   rw [zAe hL]
   simp only [SP, Nat.zero_add, Nat.reduceAdd]
   rw [e0, e1, e2]
   clear e0 e1 e2 hC hn E2 hL vs L nb
   clear W3 W4 T4 WN
   have HL3 := hidd (HLH.out.mono E.below)
   have HT3 := hidd (HTH.out.mono E.below)
   have HB3 := hidd (HBH.out.trans (E.below.mono HBH.out.size))
   clear E HLH HTH HBH
   obtain ⟨V3, rfl⟩ : ∃ V3, V3 = w2 := ⟨_, rfl⟩
   go_wp2
   go_loopw [3, 5] (fun vl vb W => ∃ (k : Nat) (b : Int) (Qs : List F3), vb = .int .i64 b ∧ b = -A + (k : Int) ∧ k ≤ 2 * a + 1 ∧ Qs = zB6 n a ++ zCj n A k ∧ Ls 33 6 W W0.heap.size vl (Qs.map frF) ∧ TameRow W vl ∧ Below W0.heap.size W0 W) (fun _ vb _ => (27 - intOf vb).toNat)
   case atStart => exact ⟨0, -A, Ps, rfl, by omega, by omega, by rw [HPE.out]; exact (List.append_nil _).symm, HL3.out, HT3.out, HB3.out⟩
   case round =>
    clear HL3 HT3 HB3
    obtain ⟨V4, rfl⟩ : ∃ V4, V4 = wr := ⟨_, rfl⟩
    obtain ⟨k, b, Qs, rfl, hb, hk, hQE, HL, HT, HBW⟩ := hrel
    have HQE2 := hidd hQE
    have hQl : Qs.length ≤ 2000 := by have h8 := zIm (n := n) a (by have := HQ0.out.2.1; omega); have h9 := zIn (n := n) (a := A) k; have := HQ0.out.2.1; rw [hQE, List.length_append]; omega
    clear hQE
    have hml : (Qs.map frF).length = Qs.length := List.length_map ..
    obtain ⟨ao4, cap4, rfl⟩ := id HL.shape
    rw [hml] at HL HT ⊢
    by_cases hy : b ≤ A
    ·have hb0 : b.natAbs ≤ 25 := by have := HQ0.out.2.1; have := HAA.out; omega
     have hs := sq_nn hb0
     have TB := hidd hy
     have HQL := hidd hQl
     have HKE := hidd (And.intro hb (show k < 2 * a + 1 by have := HAA.out; omega))
     have HLH := hidd HL
     have HTH := hidd HT
     have HBH := hidd HBW
     have hn := HN.out
     have hA := HAA.out
     have ha := HQ0.out
     obtain ⟨bb, hbb⟩ : ∃ x, x = b * b := ⟨_, rfl⟩
     obtain ⟨s, hs2⟩ : ∃ x, x = bb + n := ⟨_, rfl⟩
     obtain ⟨d4, hd4⟩ : ∃ x, x = 4 * A := ⟨_, rfl⟩
     obtain ⟨r, hr⟩ : ∃ x, x = s % d4 := ⟨_, rfl⟩
     obtain ⟨c, hc⟩ : ∃ x, x = s / d4 := ⟨_, rfl⟩
     rw [← hbb] at hs
     have hs0 : 3 ≤ s ∧ s ≤ 3000 := by omega
     have hd0 : 4 ≤ d4 ∧ d4 ≤ 100 := by omega
     have hc0 : 0 ≤ c ∧ c ≤ 3000 := by rw [hc]; exact ⟨Int.ediv_nonneg (by omega) (by omega), Int.le_trans (Int.ediv_le_self _ (by omega)) hs0.2⟩
     have hr0 : 0 ≤ r ∧ r < d4 := by rw [hr]; exact ⟨Int.emod_nonneg _ (by omega), Int.emod_lt_of_pos _ (by omega)⟩
     have W2 : Hid (IntKind.i64.wrap (b * b) = bb) := by show _ = _; rw [← hbb]; exact IntWalk.i64_in _ (by omega)
     have W5 : Hid (IntKind.i64.wrap (bb + n) = s) := by show _ = _; rw [← hs2]; exact IntWalk.i64_in _ (by omega)
     have W6 : Hid (IntKind.i64.wrap (4 * A) = d4) := by show _ = _; rw [← hd4]; exact IntWalk.i64_in _ (by omega)
     have WR : Hid (Int.tmod s d4 = r) := by show _ = _; rw [Int.tmod_eq_emod_of_nonneg (by omega), hr]
     have WQ : Hid (Int.tdiv s d4 = c) := by show _ = _; rw [Int.tdiv_eq_ediv_of_nonneg (by omega), hc]
     have WC : Hid (IntKind.i64.wrap c = c) := IntWalk.i64_in _ (by omega)
     have D0 : Hid (¬ d4 = 0) := by show ¬ _; omega
     have FE : Hid (zBn n A b = if r = 0 then (if zEe A b c = true then [⟨A, b, c⟩] else []) else []) := by show _ = _; unfold zBn; rw [← hbb, ← hs2, ← hd4, ← hr, ← hc]
     have RA : Hid (-9223372036854775808 ≤ A ∧ A ≤ 9223372036854775807) := by show _ ∧ _; omega
     have RB_ : Hid (-9223372036854775808 ≤ b ∧ b ≤ 9223372036854775807) := by show _ ∧ _; omega
     have RC : Hid (-9223372036854775808 ≤ c ∧ c ≤ 9223372036854775807) := by show _ ∧ _; omega
     have BA : Hid (ab A < pw 3) := zAs RA.out.1 RA.out.2
     have BB : Hid (ab b < pw 3) := zAs RB_.out.1 RB_.out.2
     have BC : Hid (ab c < pw 3) := zAs RC.out.1 RC.out.2
     have HBB := hidd hb0
     clear hb0 hs hn hA ha hbb hs2 hd4 hr hc hs0 hd0 hc0 hr0 hb hk hQl HL HT HBW hy hml
     have E := Fr.start V4
     go_upto_region 6 with (fail)
     refine rg [Fq.is (.int .i64 b), Fq.is (.int .i64 A), yT] [] [] E (fun hp => ⟨?_, ?_, ?_, tv⟩) ?_
     ·exact zAa hp fo tv (sqo 5)
     ·exact zAa hp fo tv (sqo 4)
     ·exact zAg (F := fun v _ => v = .int .i64 b) (G := fun v _ => v = .int .i64 A) hp fo tv (sqi 0) (sqi 1) (fun ρ w hc h h' => ⟨.bool true, by simp [execOp, go_sem, h, h', TB.out], rfl⟩)
     intro L vs w3 nb hL hC hn E3
     have e0 := wXi hC 0
     have e1 := wXi hC 1
     have e2 := wXi hC 2
     have E := E3; try simp only [LM, zAd] at E
     rw [zAe hL]
     simp only [SP, Nat.zero_add, Nat.reduceAdd]
     rw [e0, e1, e2]
     clear e0 e1 e2 hC hn E3 hL vs L nb
     clear TB
     go_upto_region 8 with (fail)
     by_cases hr0 : r = 0
     ·have T8 : Hid (¬ ¬ r = 0) := fun e => e hr0
      have FD : Hid (zBn n A b = if zEe A b c = true then [⟨A, b, c⟩] else []) := FE.out.trans (if_pos hr0)
      have T8b := hidd hr0
      clear hr0 FE
      refine rg [Fq.is (.int .i64 b), Fq.is (.int .i64 b), Fq.is (.int .i64 bb), Fq.is (.int .i64 n), Fq.is (.int .i64 s), Fq.is (.int .i64 A), Fq.is (.int .i64 d4), Fq.is (.int .i64 r), yF] [] [] E (fun hp => ⟨?_, ?_, ?_, ?_, ?_, ?_, ?_, ?_, ?_, tv⟩) ?_
      ·exact zAa hp fo tv (sqo 5)
      ·exact zAa hp fo tv (sqo 5)
      ·exact zAg (F := fun v _ => v = .int .i64 b) (G := fun v _ => v = .int .i64 b) hp fo tv (sqi 0) (sqi 1) (fun ρ w hc h h' => ⟨.int .i64 bb, by simp [execOp, go_sem, h, h', W2.out], rfl⟩)
      ·exact zAa hp fo tv (sqo 0)
      ·exact zAg (F := fun v _ => v = .int .i64 bb) (G := fun v _ => v = .int .i64 n) hp fo tv (sqi 2) (sqi 3) (fun ρ w hc h h' => ⟨.int .i64 s, by simp [execOp, go_sem, h, h', W5.out], rfl⟩)
      ·exact zAa hp fo tv (sqo 4)
      ·exact zAf (F := fun v _ => v = .int .i64 A) hp fo tv (sqi 5) (fun ρ w hc h => ⟨.int .i64 d4, by simp [execOp, go_sem, h, hc, W6.out], rfl⟩)
      ·exact zAg (F := fun v _ => v = .int .i64 s) (G := fun v _ => v = .int .i64 d4) hp fo tv (sqi 4) (sqi 6) (fun ρ w hc h h' => ⟨.int .i64 r, by simp [execOp, go_sem, h, h', D0.out, WR.out], rfl⟩)
      ·exact zAf (F := fun v _ => v = .int .i64 r) hp fo tv (sqi 7) (fun ρ w hc h => ⟨.bool false, by simp [execOp, go_sem, h, hc, T8b.out], rfl⟩)
      intro L vs w4 nb hL hC hn E4
      have e0 := wXi hC 0
      have e1 := wXi hC 1
      have e2 := wXi hC 2
      have e3 := wXi hC 3
      have e4 := wXi hC 4
      have e5 := wXi hC 5
      have e6 := wXi hC 6
      have e7 := wXi hC 7
      have e8 := wXi hC 8
      have E := E4; try simp only [LM, zAd] at E
      rw [zAe hL]
      simp only [SP, Nat.zero_add, Nat.reduceAdd]
      rw [e0, e1, e2, e3, e4, e5, e6, e7, e8]
      clear e0 e1 e2 e3 e4 e5 e6 e7 e8 hC hn E4 hL vs L nb
      go_upto_region 9 with (fail)
      refine rg [Fq.is (.int .i64 A), Fq.is (.int .i64 b), Fq.is (.int .i64 b), Fq.is (.int .i64 b), Fq.is (.int .i64 bb), Fq.is (.int .i64 n), Fq.is (.int .i64 s), Fq.is (.int .i64 A), Fq.is (.int .i64 d4), Fq.is (.int .i64 c), Fq.st [.n A, .n b, .n c], Fq.any, Fq.any] [] [⟨11, 12, 6, Fq.st [.n 0, .n 0, .n 0], Fq.st [.n A, .n b, .n c], none⟩] E (fun hp => ⟨?_, ?_, ?_, ?_, ?_, ?_, ?_, ?_, ?_, ?_, ?_, ?_, ?_, tv⟩) ?_
      ·exact zAa hp fo tv (sqo 4)
      ·exact zAa hp fo tv (sqo 5)
      ·exact zAa hp fo tv (sqo 5)
      ·exact zAa hp fo tv (sqo 5)
      ·exact zAg (F := fun v _ => v = .int .i64 b) (G := fun v _ => v = .int .i64 b) hp fo tv (sqi 2) (sqi 3) (fun ρ w hc h h' => ⟨.int .i64 bb, by simp [execOp, go_sem, h, h', W2.out], rfl⟩)
      ·exact zAa hp fo tv (sqo 0)
      ·exact zAg (F := fun v _ => v = .int .i64 bb) (G := fun v _ => v = .int .i64 n) hp fo tv (sqi 4) (sqi 5) (fun ρ w hc h h' => ⟨.int .i64 s, by simp [execOp, go_sem, h, h', W5.out], rfl⟩)
      ·exact zAa hp fo tv (sqo 4)
      ·exact zAf (F := fun v _ => v = .int .i64 A) hp fo tv (sqi 7) (fun ρ w hc h => ⟨.int .i64 d4, by simp [execOp, go_sem, h, hc, W6.out], rfl⟩)
      ·exact zAg (F := fun v _ => v = .int .i64 s) (G := fun v _ => v = .int .i64 d4) hp fo tv (sqi 6) (sqi 8) (fun ρ w hc h h' => ⟨.int .i64 c, by simp [execOp, go_sem, h, h', D0.out, WQ.out, WC.out], rfl⟩)
      ·exact zCb (F := (Fq.is (.int .i64 A)).P) (G := (Fq.is (.int .i64 b)).P) (F3 := (Fq.is (.int .i64 c)).P) hp fo tv (zDr) (sqi 0) (sqi 1) (sqi 9) (fun v v' u w h h' g => (by subst h h' g; exact zDs RA.out RB_.out RC.out))
      ·exact aS hp (mq 0 rfl) zBb zB8
      ·exact sS 10 hp (mq 0 rfl) zA7
      intro L vs w5 nb hL hC hn E5
      have e0 := wXi hC 0
      have e1 := wXi hC 1
      have e2 := wXi hC 2
      have e3 := wXi hC 3
      have e4 := wXi hC 4
      have e5 := wXi hC 5
      have e6 := wXi hC 6
      have e7 := wXi hC 7
      have e8 := wXi hC 8
      have e9 := wXi hC 9
      have e11 : vs 11 = .pointer (some ⟨nb 11, 0, none⟩) := hn _ (mq 0 rfl)
      have E := E5; try simp only [LM, zAd] at E
      rw [zAe hL]
      simp only [SP, Nat.zero_add, Nat.reduceAdd]
      rw [e0, e1, e2, e3, e4, e5, e6, e7, e8, e9, e11]
      generalize nb 11 = b5_11 at E ⊢
      generalize vs 10 = u5_10
      clear e0 e1 e2 e3 e4 e5 e6 e7 e8 e9 e11 hC hn E5 hL vs L nb
      clear W2 W5 W6 WR WQ WC D0 T8 T8b RA RB_ RC
      go_upto_region 10 with (fail)
      by_cases hk1 : (dfB A b c && redB A b c) = true
      ·by_cases hk2 : cont A b c = 1
       ·have K1 := hidd hk1
        have K2 : Hid (decide (cont A b c = 1) = true) := decide_eq_true hk2
        have FN : Hid (zBn n A b = [⟨A, b, c⟩]) := FD.out.trans (if_pos (by unfold zEe; rw [K1.out, K2.out]; simp))
        clear hk1 hk2
        refine rg [Fq.st [.n A, .n b, .n c], yT, yT, Fq.st [.n A, .n b, .n c], yT, yT] [none] [] E (fun hp => ⟨?_, ?_, ?_, ?_, ?_, ?_, tv⟩) ?_
        ·exact lS 0 6 hp (mq 0 rfl) zAm (sqo 6)
        ·exact wXa (Fq.st [.n A, .n b, .n c]) hp zH2 (sqi 0) fun v w h => zIf h (Int.lt_of_lt_of_le BA.out (zAb (by omega))) (Int.lt_of_lt_of_le BB.out (zAb (by omega))) (Int.lt_of_lt_of_le BC.out (zAb (by omega))) K1.out
        ·exact zAa hp fo tv (sqi 1)
        ·exact lG 0 6 hp gqi (mq 0 rfl) zAm (sqo 6) fun v w h => h
        ·exact zAn (F := (Fq.st [.n A, .n b, .n c]).P) hp fo gqi (zJz) (sqi 3) (fun v w h => zKb h (Int.lt_of_lt_of_le BA.out (zAb (by omega))) (Int.lt_of_lt_of_le BB.out (zAb (by omega))) (Int.lt_of_lt_of_le BC.out (zAb (by omega))) K2.out)
        ·exact zAg (F := fun v _ => v = .bool true) (G := fun v _ => v = .bool true) hp fo tv (sqi 2) (sqi 4) (fun ρ w hc h h' => ⟨_, by simp [execOp, go_sem, h, h'], rfl⟩)
        intro L vs w6 nb hL hC hn E6
        have e1 := wXi hC 1
        have e2 := wXi hC 2
        have e4 := wXi hC 4
        have e5 := wXi hC 5
        have E := E6; try simp only [LM, zAd] at E
        rw [zAe hL]
        simp only [SP, Nat.zero_add, Nat.reduceAdd]
        rw [e1, e2, e4, e5]
        generalize vs 0 = u6_0
        generalize vs 3 = u6_3
        clear e1 e2 e4 e5 hC hn E6 hL vs L nb
        clear K1 K2 HBB FD
        clear BA BB BC
        have HST := hidd (StAt.of_boxQ (E.box 0 rfl))
        have HL5 := HLH.out.mono E.below
        have HT5 := hidd (HTH.out.mono E.below)
        have HB5 := hidd (HBH.out.trans (E.below.mono HBH.out.size))
        clear HLH HTH HBH E
        obtain ⟨V5, rfl⟩ : ∃ V5, V5 = w6 := ⟨_, rfl⟩
        obtain ⟨us, hO, hE⟩ := HL5
        have HO := hidd hO
        have HE2 := hidd hE
        clear hO hE
        have hsz3 := HB5.out.size
        go_upto_region 11 with (fail)
        refine wp_region_list ?_
        refine zPs rfl (.tmp 3) rfl ?_
        refine zL3 rfl 33 (.tmp 6) rfl zAm rfl rfl HST.out fun vc hvc => ?_
        obtain ⟨es, rfl, hfit⟩ := hvc
        have hlen := hfit.length
        obtain ⟨c0, c1, c2, c3, c4, c5, rfl⟩ := sixQ hlen
        have HFT := hidd hfit
        clear hfit hlen
        have hQl := HQL.out
        go_wp2_with (first | (at_builtin; (refine zPo (n := Qs.length) (xs := us) rfl _ _ 85 rfl W0.heap.size 33 i0 (.agg #[.bool false, .slice none 0 0, .bool false, .slice none 0 0, .bool false, .slice none 0 0]) 6 96 Tryz.underlying85 hi hz0 hz1 hz2 rfl (by decide) _ rfl (World.ownsRow.alloc (by have h9 := HO.out; rwa [List.length_map] at h9) _) (HT5.out.mono (zAw _ _)) (List.all_eq_true.1 rfl) ⟨_, 0, none⟩ 1 1 [c0, c1, c2, c3, c4, c5] rfl rfl (World.news_of_block (heap_alloc_new _ _)) HFT.out.all (by decide) (by unfold maxLen; omega) (by omega) (Nat.le_trans hsz3 (by simp)) _ rfl ?_; intro g9 cap w8 hown' hgrow hat hlt htm)) | fail)
        have hS := Ls.stepF (fs := frF ⟨A, b, c⟩) (es := [c0, c1, c2, c3, c4, c5]) HO.out HE2.out hsz3 HB5.out (Below.refl _ _) (HT5.out.far HFT.out rfl) HFT.out rfl rfl (by rw [List.length_map]; exact hown') hgrow hat rfl
        rw [List.length_map] at hS
        have hS4 := hidd hS.1
        have hS5 := hidd hS.2
        have hS6 := hidd htm
        clear hown' hgrow hat hlt htm hS HO HE2 HT5 HST HFT
        have g9 : IntKind.i64.wrap (b + 1) = b + 1 := IntWalk.i64_in _ (by have := HKE.out; have := HAA.out; have := HQ0.out.2.1; omega)
        have hw : wrap64 (b + 1) = b + 1 := by have := HKE.out; have := HAA.out; have := HQ0.out.2.1; simp only [wrap64]; omega
        go_wp2
        go_roundw
        case rel => exact ⟨k + 1, b + 1, Qs ++ [⟨A, b, c⟩], by first | go_num | (rw [hw]; go_num), by have := HKE.out.1; omega, by have := HKE.out.2; omega, by rw [HQE2.out, zCj, ← HKE.out.1, FN.out, List.append_assoc], by rw [frF_snoc]; simpa using hS4.out, by simpa using hS6.out, hS5.out⟩
        case measure => have := HKE.out; have := HAA.out; have := HQ0.out.2.1; first | (rw [hw]; simp [intOf]; omega) | (simp [intOf]; omega)
       ·have K1 := hidd hk1
        have K2 : Hid (decide (cont A b c = 1) = false) := decide_eq_false hk2
        have FN : Hid (zBn n A b = []) := FD.out.trans (if_neg (by unfold zEe; rw [K1.out, K2.out]; simp))
        clear hk1 hk2
        refine rg [Fq.st [.n A, .n b, .n c], yT, yT, Fq.st [.n A, .n b, .n c], yF, yF] [none] [] E (fun hp => ⟨?_, ?_, ?_, ?_, ?_, ?_, tv⟩) ?_
        ·exact lS 0 6 hp (mq 0 rfl) zAm (sqo 6)
        ·exact wXa (Fq.st [.n A, .n b, .n c]) hp zH2 (sqi 0) fun v w h => zIf h (Int.lt_of_lt_of_le BA.out (zAb (by omega))) (Int.lt_of_lt_of_le BB.out (zAb (by omega))) (Int.lt_of_lt_of_le BC.out (zAb (by omega))) K1.out
        ·exact zAa hp fo tv (sqi 1)
        ·exact lG 0 6 hp gqi (mq 0 rfl) zAm (sqo 6) fun v w h => h
        ·exact zAn (F := (Fq.st [.n A, .n b, .n c]).P) hp fo gqi (zJz) (sqi 3) (fun v w h => zKb h (Int.lt_of_lt_of_le BA.out (zAb (by omega))) (Int.lt_of_lt_of_le BB.out (zAb (by omega))) (Int.lt_of_lt_of_le BC.out (zAb (by omega))) K2.out)
        ·exact zAg (F := fun v _ => v = .bool true) (G := fun v _ => v = .bool false) hp fo tv (sqi 2) (sqi 4) (fun ρ w hc h h' => ⟨_, by simp [execOp, go_sem, h, h'], rfl⟩)
        intro L vs w7 nb hL hC hn E7
        have e1 := wXi hC 1
        have e2 := wXi hC 2
        have e4 := wXi hC 4
        have e5 := wXi hC 5
        have E := E7; try simp only [LM, zAd] at E
        rw [zAe hL]
        simp only [SP, Nat.zero_add, Nat.reduceAdd]
        rw [e1, e2, e4, e5]
        generalize vs 0 = u7_0
        generalize vs 3 = u7_3
        clear e1 e2 e4 e5 hC hn E7 hL vs L nb
        clear K1 HBB FD K2
        clear BA BB BC
        have HL6 := hidd (HLH.out.mono E.below)
        have HT6 := hidd (HTH.out.mono E.below)
        have HB6 := hidd (HBH.out.trans (E.below.mono HBH.out.size))
        clear HLH HTH HBH E
        have g9 : IntKind.i64.wrap (b + 1) = b + 1 := IntWalk.i64_in _ (by have := HKE.out; have := HAA.out; have := HQ0.out.2.1; omega)
        have hw : wrap64 (b + 1) = b + 1 := by have := HKE.out; have := HAA.out; have := HQ0.out.2.1; simp only [wrap64]; omega
        go_wp2
        go_roundw
        case rel => exact ⟨k + 1, b + 1, Qs, by first | go_num | (rw [hw]; go_num), by have := HKE.out.1; omega, by have := HKE.out.2; omega, by rw [HQE2.out, zCj, ← HKE.out.1, FN.out, List.append_nil], HL6.out, HT6.out, HB6.out⟩
        case measure => have := HKE.out; have := HAA.out; have := HQ0.out.2.1; first | (rw [hw]; simp [intOf]; omega) | (simp [intOf]; omega)
      ·have K1 := hidd (Bool.eq_false_iff.2 hk1)
       have FN : Hid (zBn n A b = []) := FD.out.trans (if_neg (by unfold zEe; rw [K1.out]; simp))
       clear hk1
       refine rg [Fq.st [.n A, .n b, .n c], yF, yF, Fq.is (undef), Fq.is (undef), yF] [none] [] E (fun hp => ⟨?_, ?_, ?_, ?_, ?_, ?_, tv⟩) ?_
       ·exact lS 0 6 hp (mq 0 rfl) zAm (sqo 6)
       ·exact wXa (Fq.st [.n A, .n b, .n c]) hp zH2 (sqi 0) fun v w h => zIf h (Int.lt_of_lt_of_le BA.out (zAb (by omega))) (Int.lt_of_lt_of_le BB.out (zAb (by omega))) (Int.lt_of_lt_of_le BC.out (zAb (by omega))) K1.out
       ·exact zAa hp fo tv (sqi 1)
       ·exact zAi hp fo rfl gqi (fun _ => rfl)
       ·exact zAi hp fo rfl gqi (fun _ => rfl)
       ·exact zAg (F := fun v _ => v = .bool false) (G := fun v _ => v = .bool false) hp fo tv (sqi 2) (zAj (fun _ => rfl)) (fun ρ w hc h h' => ⟨_, by simp [execOp, go_sem, h, h'], rfl⟩)
       intro L vs w8 nb hL hC hn E8
       have e1 := wXi hC 1
       have e2 := wXi hC 2
       have e3 := wXi hC 3
       have e4 := wXi hC 4
       have e5 := wXi hC 5
       have E := E8; try simp only [LM, zAd] at E
       rw [zAe hL]
       simp only [SP, Nat.zero_add, Nat.reduceAdd]
       rw [e1, e2, e3, e4, e5]
       generalize vs 0 = u8_0
       clear e1 e2 e3 e4 e5 hC hn E8 hL vs L nb
       clear K1 HBB FD
       clear BA BB BC
       have HL6 := hidd (HLH.out.mono E.below)
       have HT6 := hidd (HTH.out.mono E.below)
       have HB6 := hidd (HBH.out.trans (E.below.mono HBH.out.size))
       clear HLH HTH HBH E
       have g9 : IntKind.i64.wrap (b + 1) = b + 1 := IntWalk.i64_in _ (by have := HKE.out; have := HAA.out; have := HQ0.out.2.1; omega)
       have hw : wrap64 (b + 1) = b + 1 := by have := HKE.out; have := HAA.out; have := HQ0.out.2.1; simp only [wrap64]; omega
       go_wp2
       go_roundw
       case rel => exact ⟨k + 1, b + 1, Qs, by first | go_num | (rw [hw]; go_num), by have := HKE.out.1; omega, by have := HKE.out.2; omega, by rw [HQE2.out, zCj, ← HKE.out.1, FN.out, List.append_nil], HL6.out, HT6.out, HB6.out⟩
       case measure => have := HKE.out; have := HAA.out; have := HQ0.out.2.1; first | (rw [hw]; simp [intOf]; omega) | (simp [intOf]; omega)
     ·have T8 : Hid (¬ r = 0) := hr0
      have FN : Hid (zBn n A b = []) := FE.out.trans (if_neg hr0)
      clear hr0 FE
      refine rg [Fq.is (.int .i64 b), Fq.is (.int .i64 b), Fq.is (.int .i64 bb), Fq.is (.int .i64 n), Fq.is (.int .i64 s), Fq.is (.int .i64 A), Fq.is (.int .i64 d4), Fq.is (.int .i64 r), yT] [] [] E (fun hp => ⟨?_, ?_, ?_, ?_, ?_, ?_, ?_, ?_, ?_, tv⟩) ?_
      ·exact zAa hp fo tv (sqo 5)
      ·exact zAa hp fo tv (sqo 5)
      ·exact zAg (F := fun v _ => v = .int .i64 b) (G := fun v _ => v = .int .i64 b) hp fo tv (sqi 0) (sqi 1) (fun ρ w hc h h' => ⟨.int .i64 bb, by simp [execOp, go_sem, h, h', W2.out], rfl⟩)
      ·exact zAa hp fo tv (sqo 0)
      ·exact zAg (F := fun v _ => v = .int .i64 bb) (G := fun v _ => v = .int .i64 n) hp fo tv (sqi 2) (sqi 3) (fun ρ w hc h h' => ⟨.int .i64 s, by simp [execOp, go_sem, h, h', W5.out], rfl⟩)
      ·exact zAa hp fo tv (sqo 4)
      ·exact zAf (F := fun v _ => v = .int .i64 A) hp fo tv (sqi 5) (fun ρ w hc h => ⟨.int .i64 d4, by simp [execOp, go_sem, h, hc, W6.out], rfl⟩)
      ·exact zAg (F := fun v _ => v = .int .i64 s) (G := fun v _ => v = .int .i64 d4) hp fo tv (sqi 4) (sqi 6) (fun ρ w hc h h' => ⟨.int .i64 r, by simp [execOp, go_sem, h, h', D0.out, WR.out], rfl⟩)
      ·exact zAf (F := fun v _ => v = .int .i64 r) hp fo tv (sqi 7) (fun ρ w hc h => ⟨.bool true, by simp [execOp, go_sem, h, hc, T8.out], rfl⟩)
      intro L vs w9 nb hL hC hn E9
      have e0 := wXi hC 0
      have e1 := wXi hC 1
      have e2 := wXi hC 2
      have e3 := wXi hC 3
      have e4 := wXi hC 4
      have e5 := wXi hC 5
      have e6 := wXi hC 6
      have e7 := wXi hC 7
      have e8 := wXi hC 8
      have E := E9; try simp only [LM, zAd] at E
      rw [zAe hL]
      simp only [SP, Nat.zero_add, Nat.reduceAdd]
      rw [e0, e1, e2, e3, e4, e5, e6, e7, e8]
      clear e0 e1 e2 e3 e4 e5 e6 e7 e8 hC hn E9 hL vs L nb
      clear W2 W5 W6 WR WQ WC D0 T8 RA RB_ RC HBB
      clear BA BB BC
      have HL6 := hidd (HLH.out.mono E.below)
      have HT6 := hidd (HTH.out.mono E.below)
      have HB6 := hidd (HBH.out.trans (E.below.mono HBH.out.size))
      clear HLH HTH HBH E
      have g9 : IntKind.i64.wrap (b + 1) = b + 1 := IntWalk.i64_in _ (by have := HKE.out; have := HAA.out; have := HQ0.out.2.1; omega)
      have hw : wrap64 (b + 1) = b + 1 := by have := HKE.out; have := HAA.out; have := HQ0.out.2.1; simp only [wrap64]; omega
      go_wp2
      go_roundw
      case rel => exact ⟨k + 1, b + 1, Qs, by first | go_num | (rw [hw]; go_num), by have := HKE.out.1; omega, by have := HKE.out.2; omega, by rw [HQE2.out, zCj, ← HKE.out.1, FN.out, List.append_nil], HL6.out, HT6.out, HB6.out⟩
      case measure => have := HKE.out; have := HAA.out; have := HQ0.out.2.1; first | (rw [hw]; simp [intOf]; omega) | (simp [intOf]; omega)
    ·have hA := HAA.out
     have t0 : decide (b ≤ A) = false := by simp; omega
     have HKE := hidd (show k = 2 * a + 1 by omega)
     have HLH := hidd HL
     have HTH := hidd HT
     have HBH := hidd HBW
     have ha9 := HQ0.out
     have hw : wrap64 (A + 1) = A + 1 := by simp only [wrap64]; omega
     have g9 : IntKind.i64.wrap (A + 1) = A + 1 := IntWalk.i64_in _ (by omega)
     clear HL HT HBW hb hk hQl hml
     have hli : ¬ b ≤ A := hy
     clear hy
     go_wp2
     go_roundw
     case rel => exact ⟨a + 1, A + 1, Qs, by first | go_num | (rw [hw]; go_num), by omega, by omega, by omega, fun j h2 h3 => (by rcases Nat.lt_or_ge j a with h4 | h4; exact HRUN.out j h2 h4; (rw [show j = a by omega]; exact HXE.out)), by rw [HQE2.out, HKE.out, zB6, if_neg (by omega), hA], HLH.out, HTH.out, HBH.out⟩
     case measure => first | (rw [hw]; simp [intOf]; omega) | (simp [intOf]; omega)
  ·have hae : ¬ 3 * ((a : Int) * a) ≤ n := hx
   have hsq := sq_nn (b := A) (m := 26) (by omega)
   have haa : A * A = (a : Int) * a := by rw [hA]
   obtain ⟨t3, ht3⟩ : ∃ t3, t3 = 3 * A := ⟨_, rfl⟩
   obtain ⟨t4, ht4⟩ : ∃ t4, t4 = t3 * A := ⟨_, rfl⟩
   have hq4 : t4 = 3 * ((a : Int) * a) := by rw [ht4, ht3, Int.mul_assoc, haa]
   have W3 : Hid (IntKind.i64.wrap (3 * A) = t3) := by show _ = _; rw [ht3]; exact IntWalk.i64_in _ (by omega)
   have W4 : Hid (IntKind.i64.wrap (t3 * A) = t4) := by show _ = _; rw [← ht4]; exact IntWalk.i64_in _ (by omega)
   have T4 : Hid (¬ t4 ≤ n) := by show ¬ _; omega
   have hEq : Ps = zCa n := by rw [HPE.out, zKq ⟨ha1, hae, HRUN.out⟩]
   have HEQ := hidd hEq
   have HLH := hidd HL
   have HBH := hidd HBW
   clear ha1 ha2 hPl HL HT HBW hx hae haa hsq ht3 ht4 hq4 hA hrun hml hEq
   have E := Fr.start V2
   go_upto_region 3 with (fail)
   refine rg [Fq.is (.int .i64 A), Fq.is (.int .i64 t3), Fq.is (.int .i64 A), Fq.is (.int .i64 t4), Fq.is (.int .i64 n), yF] [] [] E (fun hp => ⟨?_, ?_, ?_, ?_, ?_, ?_, tv⟩) ?_
   ·exact zAa hp fo tv (sqo 4)
   ·exact zAf (F := fun v _ => v = .int .i64 A) hp fo tv (sqi 0) (fun ρ w hc h => ⟨.int .i64 t3, by simp [execOp, go_sem, h, hc, W3.out], rfl⟩)
   ·exact zAa hp fo tv (sqo 4)
   ·exact zAg (F := fun v _ => v = .int .i64 t3) (G := fun v _ => v = .int .i64 A) hp fo tv (sqi 1) (sqi 2) (fun ρ w hc h h' => ⟨.int .i64 t4, by simp [execOp, go_sem, h, h', W4.out], rfl⟩)
   ·exact zAa hp fo tv (sqo 0)
   ·exact zAg (F := fun v _ => v = .int .i64 t4) (G := fun v _ => v = .int .i64 n) hp fo tv (sqi 3) (sqi 4) (fun ρ w hc h h' => ⟨.bool false, by simp [execOp, go_sem, h, h', T4.out], rfl⟩)
   intro L vs w10 nb hL hC hn E10
   have e0 := wXi hC 0
   have e1 := wXi hC 1
   have e2 := wXi hC 2
   have e3 := wXi hC 3
   have e4 := wXi hC 4
   have e5 := wXi hC 5
   have E := E10; try simp only [LM, zAd] at E
   rw [zAe hL]
   simp only [SP, Nat.zero_add, Nat.reduceAdd]
   rw [e0, e1, e2, e3, e4, e5]
   clear e0 e1 e2 e3 e4 e5 hC hn E10 hL vs L nb
   go_upto_region 12 with (fail)
   refine rg [Fq.is (.slice ao2 Ps.length cap2), Fq.is (.slice ao2 Ps.length cap2)] [] [] E (fun hp => ⟨?_, ?_, tv⟩) ?_
   ·exact zAa hp fo tv (sqo 3)
   ·exact zAh hp fo tv (sqi 0)
   intro L vs w11 nb hL hC hn E11
   have e0 := wXi hC 0
   have e1 := wXi hC 1
   have E := E11; try simp only [LM, zAd] at E
   rw [zAe hL]
   simp only [SP, Nat.zero_add, Nat.reduceAdd]
   rw [e0, e1]
   clear e0 e1 hC hn E11 hL vs L nb
   clear W3 W4 T4
   have HL3 := hidd (HLH.out.mono E.below)
   have HB3 := hidd (HBH.out.trans (E.below.mono HBH.out.size))
   clear E HLH HBH HPE HRUN HAA
   go_wp2
   refine bodyPost_ret (v := .slice ao2 Ps.length cap2) ?_ rfl ⟨_, rfl, HB3.out, ?_⟩
   ·simp [results, Tryz.results72, go_sem]
   ·rw [← HEQ.out]
    exact HL3.out

theorem qv_abK {a b c x y : Int} {k j K : Nat} (ha : ab a < pw k) (hb : ab b < pw k) (hc : ab c < pw k) (hx : ab x < pw j) (hy : ab y < pw j) (hK : k + 2 * j + 2 ≤ K) : ab (qv a b c x y) < pw K := by
 unfold qv
 exact zA5 (zA5 (m := k + 2 * j + 1) (zBi ha (zBi hx hx)) (zBi hb (zBi hx hy)) (by omega) (by omega)) (zBi hc (zBi hy hy)) (by omega) (by omega)
theorem act_a (a b c p q r s t v : Int) : qv (qv a b c p r) (qm a b c p q r s) (qv a b c q s) t v = qv a b c (p * t + q * v) (r * t + s * v) := by
 unfold qv qm
 exact qf_val a b c p q r s t v
theorem act_disc (a b c p q r s : Int) : qm a b c p q r s * qm a b c p q r s - 4 * (qv a b c p r * qv a b c q s) = (b * b - 4 * (a * c)) * ((p * s - q * r) * (p * s - q * r)) := by
 unfold qv qm
 exact zI2 a b c p q r s
theorem zH9 (a b c : Int) : eqF a b c a b c = true := by simp [eqF]
theorem zCr {x y : Int} {m n : Nat} (hx : x.natAbs ≤ m) (hy : y.natAbs ≤ n) : (x * y).natAbs ≤ m * n := by
 rw [Int.natAbs_mul]
 exact Nat.mul_le_mul hx hy
theorem turn_bd {z s t : Int} (es : s = z % 8 - 3) (et : t = z / 8 % 8 - 4) : s.natAbs ≤ 4 ∧ t.natAbs ≤ 4 ∧ (s * t - 1).natAbs ≤ 17 := by
 have h1 : s.natAbs ≤ 4 := by omega
 have h2 : t.natAbs ≤ 4 := by omega
 have h3 := zCr h1 h2
 exact ⟨h1, h2, by omega⟩
theorem ab_few {x : Int} (h : x.natAbs ≤ 2000) : ab x < pw 3 := zAs (by omega) (by omega)
theorem zMf {a b c p q r s : Int} (hd : (p * s - q * r) * (p * s - q * r) = 1) : qm a b c p q r s * qm a b c p q r s - 4 * (qv a b c p r * qv a b c q s) = b * b - 4 * (a * c) := by
 rw [act_disc, hd, Int.mul_one]
section
variable {os : List Oper} {Q : Exit → Act → World → Prop} {a : Act} {p : Pq} {B B0 : Nat} {w0 : World}
variable {i s : Nat} {d : Option Tmp} {ty : TypeId} {ps : String} {af : Array Edge} {gd : Option (Nat × Bool)}
theorem zO0 {x : Operand} {ad : Option Addr} {k c : Nat} (hp : p.Ok B B0) (hF : p.Free i) (hg : GdQ os a p B B0 w0 af gd) (hx : SrcQ os a p B B0 w0 af x fun v _ => v = .slice ad k c) (hC : ∀ w, (p.c i).P (.int .i64 k) w) :
  zAr os Q a p B B0 w0 i { dst := d, op := .call { callee := .builtin .len, args := #[x], argTypes := #[85] }, type := ty, pos := ps, after := af, guard := gd } :=
 zAf hp hF hg hx fun ρ w _ h => ⟨.int .i64 k, by simp [go_sem, h], hC w⟩
theorem zOz {b l c k : Nat} {x y : Operand} (hp : p.Ok B B0) (hF : p.Free i) (hg : GdQ os a p B B0 w0 af gd) (hx : SrcQ os a p B B0 w0 af x fun v _ => v = .slice (some ⟨b, 0, none⟩) l c) (hy : SrcQ os a p B B0 w0 af y fun v _ => v = .int .i64 k) (hk : k < l)
  (hC : ∀ w, (p.c i).P (.pointer (some ⟨b, k * 6, none⟩)) w) :
  zAr os Q a p B B0 w0 i { dst := d, op := .indexAddr 85 x y, type := ty, pos := ps, after := af, guard := gd } :=
 zAg hp hF hg hx hy fun ρ w _ h h' => ⟨_, by
  have h0 : (k : Int) < (l : Int) := by omega
  have h1 : (0 : Int) ≤ (k : Int) := by omega
  simp [execOp, go_sem, h, h', h0, h1], hC w⟩
end
theorem exQSizeN {w : World} {v : Value} {D i0 i1 i2 i3 m0 m1 m2 m3 n : Int} (h : (Fq.st [.v (.int .u16 D), .v (.int .u16 i0), .v (.int .u16 i1), .v (.int .u16 i2), .v (.int .u16 i3), .v (.int .u8 m0), .v (.int .u8 m1), .v (.int .u8 m2), .v (.int .u8 m3)]).P v w) (hD : 0 ≤ D ∧ D ≤ 65535) (hn : zBq D = n) :
  Calls Tryz.prog 38 #[v] w fun e w' => ∃ v', e = .returned v' ∧ Below w.heap.size w w' ∧ v' = .int .i64 n := by
 subst hn
 exact exQSize h hD
noncomputable def zCq (n i : Int) : F3 := (zCa n).getD (i % ((zCa n).length : Int)).toNat ⟨0, 0, 0⟩
noncomputable def zFd (n i m : Int) : F3 := if m % 4 = 0 then zCq n i else ⟨qv (zCq n i).a (zCq n i).b (zCq n i).c (m % 8 - 3) 1, qm (zCq n i).a (zCq n i).b (zCq n i).c (m % 8 - 3) ((m % 8 - 3) * (m / 8 % 8 - 4) - 1) 1 (m / 8 % 8 - 4), qv (zCq n i).a (zCq n i).b (zCq n i).c ((m % 8 - 3) * (m / 8 % 8 - 4) - 1) (m / 8 % 8 - 4)⟩
theorem zK6 {n : Int} (i : Int) (h0 : 3 ≤ n) (h1 : n ≤ 2004) (h4 : n % 4 = 0 ∨ n % 4 = 3) : ∃ j : Nat, j < (zCa n).length ∧ i % ((zCa n).length : Int) = j ∧ (zCa n)[j]? = some (zCq n i) := by
 have h := listF_pos h0 h1 h4
 have h5 := Int.emod_nonneg i (show ((zCa n).length : Int) ≠ 0 by omega)
 have h6 := Int.emod_lt_of_pos i (show (0 : Int) < ((zCa n).length : Int) by omega)
 refine ⟨(i % ((zCa n).length : Int)).toNat, by omega, by omega, ?_⟩
 unfold zCq
 rw [List.getD, List.getElem?_eq_getElem (by omega)]
 rfl
theorem FOk.bds {n : Int} {P : F3} (h : FOk n P) (h1 : n ≤ 2004) : 0 < P.a ∧ P.a.natAbs ≤ 668 ∧ P.b.natAbs ≤ 668 ∧ P.c.natAbs ≤ 668 := by
 obtain ⟨ha, hk, _, hd⟩ := h
 simp only [Bool.and_eq_true] at hk
 have hr := (zD9 (show 0 < P.a by omega)).1 hk.2
 have h2 := hr.lo
 have h3 := hr.hi
 have h4 := hr.ac
 have e1 : P.b * P.b ≤ P.a * P.a := by
  rw [← zDl P.b]
  exact Int.mul_le_mul (by omega) (by omega) (by omega) (by omega)
 have e2 : P.a * P.a ≤ P.a * P.c := Int.mul_le_mul_of_nonneg_left h4 (by omega)
 have e3 : 1 * P.c ≤ P.a * P.c := Int.mul_le_mul_of_nonneg_right ha (by omega)
 omega
def MOk (n : Int) (P : F3) : Prop := redE P.a P.b P.c = 0 ∧ P.b * P.b - 4 * (P.a * P.c) = -n ∧ (ab P.a < pw 3 ∧ ab P.b < pw 3 ∧ ab P.c < pw 3) ∧ P.a.natAbs ≤ 100000000 ∧ P.b.natAbs ≤ 100000000 ∧ P.c.natAbs ≤ 100000000
theorem zC0 {x : Int} (h : x.natAbs ≤ 100000000) : ab x < pw 3 := zAs (by omega) (by omega)
theorem madeF_ok {n i m : Int} (h0 : 3 ≤ n) (h1 : n ≤ 2004) (h4 : n % 4 = 0 ∨ n % 4 = 3) : MOk n (zFd n i m) := by
 obtain ⟨j, _, _, hj⟩ := zK6 i h0 h1 h4
 have hF := zKr _ (List.mem_of_getElem? hj)
 obtain ⟨hp, b1, b2, b3⟩ := hF.bds h1
 have hd := hF.2.2.2
 unfold zFd
 split
 ·exact ⟨zEt (by rw [hd]; omega) hp, hd, ⟨zC0 (by omega), zC0 (by omega), zC0 (by omega)⟩, by omega, by omega, by omega⟩
 ·obtain ⟨s, es⟩ : ∃ s, s = m % 8 - 3 := ⟨_, rfl⟩
  obtain ⟨t, et⟩ : ∃ t, t = m / 8 % 8 - 4 := ⟨_, rfl⟩
  rw [← es, ← et]
  obtain ⟨t1, t2, t3⟩ := turn_bd es et
  generalize zCq n i = P at hp b1 b2 b3 hd ⊢
  have hdet : (s * t - (s * t - 1) * 1) * (s * t - (s * t - 1) * 1) = 1 := by
   rw [show s * t - (s * t - 1) * 1 = 1 by omega]
   rfl
  have h5 := zMf (a := P.a) (b := P.b) (c := P.c) hdet
  have hpos := qv_pos (x := s) (y := 1) hp (by rw [hd]; omega) (by omega)
  have qb : ∀ x y : Int, x.natAbs ≤ 17 → y.natAbs ≤ 17 → (qv P.a P.b P.c x y).natAbs ≤ 100000000 := by
   intro x y hx hy
   have m1 := zCr b1 (zCr hx hx)
   have m2 := zCr b2 (zCr hx hy)
   have m3 := zCr b3 (zCr hy hy)
   unfold qv
   omega
  have qc : (qm P.a P.b P.c s (s * t - 1) 1 t).natAbs ≤ 100000000 := by
   have u1 : (1 : Int).natAbs ≤ 17 := by decide
   have m1 := zCr b1 (zCr (show s.natAbs ≤ 17 by omega) t3)
   have m2 := zCr b3 (zCr u1 (show t.natAbs ≤ 17 by omega))
   have m3 := zCr (show s.natAbs ≤ 17 by omega) (show t.natAbs ≤ 17 by omega)
   have m4 := zCr t3 u1
   have m5 := zCr b2 (show (s * t + (s * t - 1) * 1).natAbs ≤ 17 * 17 + 17 * 17 by omega)
   unfold qm
   omega
  refine ⟨zEt ?_ hpos, ?_, ⟨zC0 (qb _ _ (by omega) (by decide)), zC0 qc, zC0 (qb _ _ t3 (by omega))⟩, qb _ _ (by omega) (by decide), qc, qb _ _ t3 (by omega)⟩
  ·show qm _ _ _ _ _ _ _ * qm _ _ _ _ _ _ _ - 4 * (qv _ _ _ _ _ * qv _ _ _ _ _) < 0
   rw [h5, hd]; omega
  ·show qm _ _ _ _ _ _ _ * qm _ _ _ _ _ _ _ - 4 * (qv _ _ _ _ _ * qv _ _ _ _ _) = -n
   rw [h5]; exact hd
set_option maxRecDepth 100000 in
set_option maxHeartbeats 4000000 in
theorem exQMade0 {w : World} {v : Value} {D i0 i1 i2 i3 m0 m1 m2 m3 : Int} (h : (Fq.st [.v (.int .u16 D), .v (.int .u16 i0), .v (.int .u16 i1), .v (.int .u16 i2), .v (.int .u16 i3), .v (.int .u8 m0), .v (.int .u8 m1), .v (.int .u8 m2), .v (.int .u8 m3)]).P v w) (hD : 0 ≤ D ∧ D ≤ 65535) (hi : 0 ≤ i0 ∧ i0 ≤ 65535) (hm : 0 ≤ m0 ∧ m0 ≤ 255) {n : Int} (hn : zBq D = n) {P : F3} (hP : zFd n i0 m0 = P) :
  Calls Tryz.prog 33 #[v, .int .i64 0] w fun e w' => ∃ v', e = .returned v' ∧ Below w.heap.size w w' ∧ (Fq.st [.n P.a, .n P.b, .n P.c]).P v' w' := by
 have hsz := zJc D
 rw [hn] at hsz
 obtain ⟨j, hj, hQj, hPj⟩ := zK6 i0 (by omega) (by omega) hsz.2.2
 have hFo := (zKr _ (List.mem_of_getElem? hPj)).bds hsz.2.1
 obtain ⟨F, hF⟩ : ∃ F, F = zCq n i0 := ⟨_, rfl⟩
 rw [← hF] at hPj hFo
 obtain ⟨ps, hps⟩ : ∃ ps, ps = zCa n := ⟨_, rfl⟩
 rw [← hps] at hj hQj hPj
 obtain ⟨nl, hnl⟩ : ∃ nl, nl = ps.length := ⟨_, rfl⟩
 rw [← hnl] at hj hQj
 have BF : Hid (ab F.a < pw 3 ∧ ab F.b < pw 3 ∧ ab F.c < pw 3) := ⟨zC0 (by omega), zC0 (by omega), zC0 (by omega)⟩
 have HSZ := hidd hsz
 have HNE := hidd hn
 have HFE := hidd hF
 have HPS := hidd hps
 have HNL := hidd hnl
 have HJ := hidd hj
 have HPJ := hidd hPj
 have HDD := hidd hD
 have HMM := hidd hm
 have HPE := hidd hP
 have I16 : Hid (IntKind.i64.wrap i0 = i0) := IntWalk.i64_in _ (by omega)
 have HLN : Hid (¬ nl = 0) := by show ¬ _; omega
 have HTJ : Hid (Int.tmod i0 (nl : Int) = (j : Int)) := by show _ = _; rw [Int.tmod_eq_emod_of_nonneg (by omega), hQj]
 obtain ⟨r, hr⟩ : ∃ r, r = m0 % 4 := ⟨_, rfl⟩
 have C4 : Hid (Int.tmod m0 4 = r) := by show _ = _; rw [Int.tmod_eq_emod_of_nonneg (by omega), hr]
 have HR := hidd hr
 obtain ⟨s, es⟩ : ∃ s, s = m0 % 8 - 3 := ⟨_, rfl⟩
 obtain ⟨t, et⟩ : ∃ t, t = m0 / 8 % 8 - 4 := ⟨_, rfl⟩
 have htb := turn_bd es et
 have Bs : Hid (ab s < pw 3) := ab_few (by omega)
 have Bt : Hid (ab t < pw 3) := ab_few (by omega)
 have Bu : Hid (ab (s * t - 1) < pw 3) := ab_few (by omega)
 have Es := hidd es
 have Et := hidd et
 clear hsz hj hQj hPj hFo hF hps hnl hr htb es et hD hi hm hn hP
 obtain ⟨_, rfl, hf0⟩ := h
 have hF0 := hf0
 obtain ⟨_, rfl, _, _, rfl, _, _, rfl, _, _, rfl, _, _, rfl, _, _, rfl, _, _, rfl, _, _, rfl, _, _, rfl, _, rfl⟩ := hf0
 obtain ⟨w1, b1, hw1, hb1, hs1, E⟩ := gS w 57 hF0
 obtain ⟨w2, b2, hw2, hb2, hs2, E⟩ := fO E hs1 33 zBb
 go_enter Tryz.func33, Tryz.ntmps33
 go_upto_region 1 with (fail)
 rw [← hw1]
 rw [← hw2]
 rw [← hb2]
 rw [← hb1]
 clear hw1 hw2 hb1 hb2 hs2 hs1
 refine wp_region_list ?_
 refine zL3 rfl 57 (.tmp 2) rfl zLq rfl rfl (StAt.of_boxQ (E.box 1 rfl)) fun vc hvc => ?_
 go_upto_region 2 with (first | (go_at_call 38; (with_reducible refine (exQSizeN hvc HDD.out HNE.out).mono ?_); rintro e w8 ⟨v8, rfl, hB8, rfl⟩) | (go_at_call 72; (with_reducible refine (exQList HSZ.out.1 HSZ.out.2.1).mono ?_); rintro e w9 ⟨vL, rfl, hB9, hLs⟩; obtain ⟨gg, cp, rfl, hgg, hbox⟩ := hLs.box6 (by rw [← HPS.out]; have := HJ.out; have := HNL.out; omega)) | fail)
 rw [← HPS.out, ← HNL.out] at hbox
 first | rw [← HPS.out, ← HNL.out] | skip
 replace E := Fr.addQ E (hB8.trans (hB9.mono hB8.size)) (Nat.le_trans hB8.size hgg) hbox
 clear hvc hB8 hB9 hLs hgg hbox
 refine rg [Fq.is (.slice (some ⟨gg, 0, none⟩) nl cp), Fq.is (.int .i64 0), Fq.is (.int .i64 0), ip b1 1, ip b1 1, Fq.is (.int .u16 i0), Fq.is (.int .i64 i0), Fq.is (.slice (some ⟨gg, 0, none⟩) nl cp), Fq.is (.int .i64 ((nl : Nat) : Int)), Fq.is (.int .i64 (j : Int)), Fq.is (.pointer (some ⟨gg, j * 6, none⟩)), Fq.st [.n F.a, .n F.b, .n F.c], Fq.any, Fq.any] N3 [⟨12, 13, 6, Fq.st [.n 0, .n 0, .n 0], Fq.st [.n F.a, .n F.b, .n F.c], none⟩] E (fun hp => ⟨?_, ?_, ?_, ?_, ?_, ?_, ?_, ?_, ?_, ?_, ?_, ?_, ?_, ?_, tv⟩) ?_
 ·exact zAa hp fo tv (sqo 5)
 ·exact zAa hp fo tv (sqo 1)
 ·exact zAf (F := fun v _ => v = .int .i64 0) hp fo tv (sqi 1) (fun ρ w hc h => ⟨.int .i64 0, by simp [execOp, go_sem, h, hc], rfl⟩)
 ·exact qa b1 0 1 hp (sqo 2)
 ·exact zAg (F := fun v _ => v = .pointer (some ⟨b1, 1, none⟩)) (G := fun v _ => v = .int .i64 0) hp fo tv (sqi 3) (sqi 2) (fun ρ w hc h h' => ⟨.pointer (some ⟨b1, 1, none⟩), by simp [execOp, go_sem, h, h'], rfl⟩)
 ·exact wXc 1 hp (mq 2 rfl) (sqi 4)
 ·exact zAf (F := fun v _ => v = .int .u16 i0) hp fo tv (sqi 5) (fun ρ w hc h => ⟨.int .i64 i0, by simp [execOp, go_sem, h, I16.out], rfl⟩)
 ·exact zAa hp fo tv (sqo 5)
 ·exact zO0 hp fo tv (sqi 7) (fun _ => rfl)
 ·exact zAg (F := fun v _ => v = .int .i64 i0) (G := fun v _ => v = .int .i64 ((nl : Nat) : Int)) hp fo tv (sqi 6) (sqi 8) (fun ρ w hc h h' => ⟨.int .i64 (j : Int), by simp [execOp, go_sem, h, h', HLN.out, HTJ.out], rfl⟩)
 ·exact zOz (b := gg) (l := nl) (c := cp) (k := j) hp fo tv (sqi 0) (sqi 9) HJ.out (fun _ => rfl)
 ·exact zD8 (off := j * 6) (l := 6) (fs := rowQ ps) (gs := [.n F.a, .n F.b, .n F.c]) hp fo tv (mq 0 rfl) (.inl rfl) rfl zAm (zLp HPJ.out) (sqi 10) (fun v w h => h)
 ·exact aS hp (mq 0 rfl) zBb zB8
 ·exact sS 11 hp (mq 0 rfl) zA7
 intro L vs w3 nb hL hC hn E3
 have e0 := wXi hC 0
 have e1 := wXi hC 1
 have e2 := wXi hC 2
 have e3 := wXi hC 3
 have e4 := wXi hC 4
 have e5 := wXi hC 5
 have e6 := wXi hC 6
 have e7 := wXi hC 7
 have e8 := wXi hC 8
 have e9 := wXi hC 9
 have e10 := wXi hC 10
 have e12 : vs 12 = .pointer (some ⟨nb 12, 0, none⟩) := hn _ (mq 0 rfl)
 have E := E3; try simp only [LM, zAd] at E
 rw [zAe hL]
 simp only [SP, Nat.zero_add, Nat.reduceAdd]
 rw [e0, e1, e2, e3, e4, e5, e6, e7, e8, e9, e10, e12]
 generalize nb 12 = b3_12 at E ⊢
 generalize vs 11 = u3_11
 clear e0 e1 e2 e3 e4 e5 e6 e7 e8 e9 e10 e12 hC hn E3 hL vs L nb
 clear I16 HLN HTJ HJ HPJ HNL HPS HNE HSZ HDD
 go_upto_region 3 with (fail)
 by_cases hz : r = 0
 ·have T6 := hidd hz
  have hQ : F = P := by rw [HFE.out, ← HPE.out]; unfold zFd; rw [if_pos (HR.out.symm.trans hz)]
  have HQ := hidd hQ
  clear hz hQ
  refine rg [Fq.is (.int .i64 0), Fq.is (.int .i64 0), ip b1 5, ip b1 5, Fq.is (.int .u8 m0), Fq.is (.int .u8 r), yT] N4 [] E (fun hp => ⟨?_, ?_, ?_, ?_, ?_, ?_, ?_, tv⟩) ?_
  ·exact zAa hp fo tv (sqo 1)
  ·exact zAf (F := fun v _ => v = .int .i64 0) hp fo tv (sqi 0) (fun ρ w hc h => ⟨.int .i64 0, by simp [execOp, go_sem, h, hc], rfl⟩)
  ·exact qa b1 0 5 hp (sqo 2)
  ·exact zAg (F := fun v _ => v = .pointer (some ⟨b1, 5, none⟩)) (G := fun v _ => v = .int .i64 0) hp fo tv (sqi 2) (sqi 1) (fun ρ w hc h h' => ⟨.pointer (some ⟨b1, 5, none⟩), by simp [execOp, go_sem, h, h'], rfl⟩)
  ·exact wXc 5 hp (mq 3 rfl) (sqi 3)
  ·exact zAf (F := fun v _ => v = .int .u8 m0) hp fo tv (sqi 4) (fun ρ w hc h => ⟨.int .u8 r, by simp [execOp, go_sem, h, hc, C4.out], rfl⟩)
  ·exact zAf (F := fun v _ => v = .int .u8 r) hp fo tv (sqi 5) (fun ρ w hc h => ⟨.bool true, by simp [execOp, go_sem, h, hc, T6.out], rfl⟩)
  intro L vs w4 nb hL hC hn E4
  have e0 := wXi hC 0
  have e1 := wXi hC 1
  have e2 := wXi hC 2
  have e3 := wXi hC 3
  have e4 := wXi hC 4
  have e5 := wXi hC 5
  have e6 := wXi hC 6
  have E := E4; try simp only [LM, zAd] at E
  rw [zAe hL]
  simp only [SP, Nat.zero_add, Nat.reduceAdd]
  rw [e0, e1, e2, e3, e4, e5, e6]
  clear e0 e1 e2 e3 e4 e5 e6 hC hn E4 hL vs L nb
  go_upto_region 4 with (fail)
  refine rg [Fq.st [.n F.a, .n F.b, .n F.c], Fq.any] [none, none, some (1, Fq.st [.n F.a, .n F.b, .n F.c]), none] [] E (fun hp => ⟨?_, ?_, tv⟩) ?_
  ·exact lS 0 6 hp (mq 0 rfl) zAm (sqo 6)
  ·exact sO 0 0 hp (mq 2 rfl) zA7 (sqo 4)
  intro L vs w5 nb hL hC hn E5
  have E := E5; try simp only [LM, zAd] at E
  rw [zAe hL]
  simp only [SP, Nat.zero_add, Nat.reduceAdd]
  generalize vs 0 = u5_0
  clear  hC hn E5 hL vs L nb
  obtain ⟨_, _, hccr, hffr⟩ := zBm (E.box 2 rfl)
  have hPr := hffr
  obtain ⟨r_p0, r_q0, _, rfl, _r_n0, r_p1, r_q1, _, rfl, _r_n1, r_p2, r_q2, _, rfl, _r_n2, rfl⟩ := hffr
  have cr0 := hccr 0 (by simp)
  have cr1 := hccr 1 (by simp)
  have cr2 := hccr 2 (by simp)
  have cr3 := hccr 3 (by simp)
  have cr4 := hccr 4 (by simp)
  have cr5 := hccr 5 (by simp)
  simp only [List.getD_cons_zero, List.getD_cons_succ] at cr0 cr1 cr2 cr3 cr4 cr5
  clear hccr
  have hQ := HQ.out
  clear T6 HQ C4 HR HFE HMM HPE Es Et
  rw [hQ] at hPr
  clear BF Bs Bt Bu
  go_wp2
  refine bodyPost_ret (v := .agg #[r_p0, r_q0, r_p1, r_q1, r_p2, r_q2]) ?_ rfl ⟨_, rfl, E.below, ⟨_, rfl, hPr⟩⟩
  simp [results, Tryz.results33, go_sem, cr0, cr1, cr2, cr3, cr4, cr5]
 ·have T6 := hidd hz
  have hQ : P = ⟨qv F.a F.b F.c s 1, qm F.a F.b F.c s (s * t - 1) 1 t, qv F.a F.b F.c (s * t - 1) t⟩ := by rw [← HPE.out]; unfold zFd; rw [if_neg (fun e => hz (HR.out.trans e)), ← HFE.out, ← Es.out, ← Et.out]
  have HQ := hidd hQ
  clear hz hQ
  refine rg [Fq.is (.int .i64 0), Fq.is (.int .i64 0), ip b1 5, ip b1 5, Fq.is (.int .u8 m0), Fq.is (.int .u8 r), yF] N4 [] E (fun hp => ⟨?_, ?_, ?_, ?_, ?_, ?_, ?_, tv⟩) ?_
  ·exact zAa hp fo tv (sqo 1)
  ·exact zAf (F := fun v _ => v = .int .i64 0) hp fo tv (sqi 0) (fun ρ w hc h => ⟨.int .i64 0, by simp [execOp, go_sem, h, hc], rfl⟩)
  ·exact qa b1 0 5 hp (sqo 2)
  ·exact zAg (F := fun v _ => v = .pointer (some ⟨b1, 5, none⟩)) (G := fun v _ => v = .int .i64 0) hp fo tv (sqi 2) (sqi 1) (fun ρ w hc h h' => ⟨.pointer (some ⟨b1, 5, none⟩), by simp [execOp, go_sem, h, h'], rfl⟩)
  ·exact wXc 5 hp (mq 3 rfl) (sqi 3)
  ·exact zAf (F := fun v _ => v = .int .u8 m0) hp fo tv (sqi 4) (fun ρ w hc h => ⟨.int .u8 r, by simp [execOp, go_sem, h, hc, C4.out], rfl⟩)
  ·exact zAf (F := fun v _ => v = .int .u8 r) hp fo tv (sqi 5) (fun ρ w hc h => ⟨.bool false, by simp [execOp, go_sem, h, hc, T6.out], rfl⟩)
  intro L vs w6 nb hL hC hn E6
  have e0 := wXi hC 0
  have e1 := wXi hC 1
  have e2 := wXi hC 2
  have e3 := wXi hC 3
  have e4 := wXi hC 4
  have e5 := wXi hC 5
  have e6 := wXi hC 6
  have E := E6; try simp only [LM, zAd] at E
  rw [zAe hL]
  simp only [SP, Nat.zero_add, Nat.reduceAdd]
  rw [e0, e1, e2, e3, e4, e5, e6]
  clear e0 e1 e2 e3 e4 e5 e6 hC hn E6 hL vs L nb
  go_upto_region 5 with (fail)
  refine rg [Fq.st [.n F.a, .n F.b, .n F.c], Fq.is (.int .i64 0), Fq.is (.int .i64 0), ip b1 5, ip b1 5, Fq.is (.int .u8 m0), Fq.st [.n s, .n (s * t - 1), .n 1, .n t], Fq.st [.n (qv F.a F.b F.c s 1), .n (qm F.a F.b F.c s (s * t - 1) 1 t), .n (qv F.a F.b F.c (s * t - 1) t)], Fq.any] [none, none, some (8, Fq.st [.n (qv F.a F.b F.c s 1), .n (qm F.a F.b F.c s (s * t - 1) 1 t), .n (qv F.a F.b F.c (s * t - 1) t)]), none] [] E (fun hp => ⟨?_, ?_, ?_, ?_, ?_, ?_, ?_, ?_, ?_, tv⟩) ?_
  ·exact lS 0 6 hp (mq 0 rfl) zAm (sqo 6)
  ·exact zAa hp fo tv (sqo 1)
  ·exact zAf (F := fun v _ => v = .int .i64 0) hp fo tv (sqi 1) (fun ρ w hc h => ⟨.int .i64 0, by simp [execOp, go_sem, h, hc], rfl⟩)
  ·exact qa b1 0 5 hp (sqo 2)
  ·exact zAg (F := fun v _ => v = .pointer (some ⟨b1, 5, none⟩)) (G := fun v _ => v = .int .i64 0) hp fo tv (sqi 3) (sqi 2) (fun ρ w hc h h' => ⟨.pointer (some ⟨b1, 5, none⟩), by simp [execOp, go_sem, h, h'], rfl⟩)
  ·exact wXc 5 hp (mq 3 rfl) (sqi 4)
  ·exact wXa (Fq.is (.int .u8 m0)) hp zMr (sqi 5) fun v w h => (by subst h; exact exQTurn HMM.out Es.out Et.out)
  ·exact wXb (Fq.st [.n F.a, .n F.b, .n F.c]) (Fq.st [.n s, .n (s * t - 1), .n 1, .n t]) hp zMn (sqi 0) (sqi 6) fun v v' w h h' => exQApply h h' (Int.lt_of_lt_of_le BF.out.1 (zAb (by omega))) (Int.lt_of_lt_of_le BF.out.2.1 (zAb (by omega))) (Int.lt_of_lt_of_le BF.out.2.2 (zAb (by omega))) (Int.lt_of_lt_of_le Bs.out (zAb (by omega))) (Int.lt_of_lt_of_le Bu.out (zAb (by omega))) (Int.lt_of_lt_of_le (zAs (by decide) (by decide)) (zAb (by omega))) (Int.lt_of_lt_of_le Bt.out (zAb (by omega)))
  ·exact sO 0 7 hp (mq 2 rfl) zA7 (sqo 4)
  intro L vs w7 nb hL hC hn E7
  have e1 := wXi hC 1
  have e2 := wXi hC 2
  have e3 := wXi hC 3
  have e4 := wXi hC 4
  have e5 := wXi hC 5
  have E := E7; try simp only [LM, zAd] at E
  rw [zAe hL]
  simp only [SP, Nat.zero_add, Nat.reduceAdd]
  rw [e1, e2, e3, e4, e5]
  generalize vs 0 = u7_0
  generalize vs 6 = u7_6
  generalize vs 7 = u7_7
  clear e1 e2 e3 e4 e5 hC hn E7 hL vs L nb
  obtain ⟨_, _, hccr, hffr⟩ := zBm (E.box 2 rfl)
  have hPr := hffr
  obtain ⟨r_p0, r_q0, _, rfl, _r_n0, r_p1, r_q1, _, rfl, _r_n1, r_p2, r_q2, _, rfl, _r_n2, rfl⟩ := hffr
  have cr0 := hccr 0 (by simp)
  have cr1 := hccr 1 (by simp)
  have cr2 := hccr 2 (by simp)
  have cr3 := hccr 3 (by simp)
  have cr4 := hccr 4 (by simp)
  have cr5 := hccr 5 (by simp)
  simp only [List.getD_cons_zero, List.getD_cons_succ] at cr0 cr1 cr2 cr3 cr4 cr5
  clear hccr
  have hQ := HQ.out
  clear T6 HQ C4 HR HFE HMM HPE Es Et
  rw [show qv F.a F.b F.c s 1 = P.a by rw [hQ], show qm F.a F.b F.c s (s * t - 1) 1 t = P.b by rw [hQ], show qv F.a F.b F.c (s * t - 1) t = P.c by rw [hQ]] at hPr
  clear BF Bs Bt Bu
  go_wp2
  refine bodyPost_ret (v := .agg #[r_p0, r_q0, r_p1, r_q1, r_p2, r_q2]) ?_ rfl ⟨_, rfl, E.below, ⟨_, rfl, hPr⟩⟩
  simp [results, Tryz.results33, go_sem, cr0, cr1, cr2, cr3, cr4, cr5]

theorem Rdf.small {a b c n : Int} (hr : Rdf a b c) (hd : b * b - 4 * (a * c) = -n) (h1 : n ≤ 2004) : a.natAbs ≤ 668 ∧ b.natAbs ≤ 668 ∧ c.natAbs ≤ 668 := by
 have h2 := hr.lo
 have h3 := hr.hi
 have h4 := hr.ac
 have h5 := hr.pos
 have e1 : b * b ≤ a * a := by
  rw [← zDl b]
  exact Int.mul_le_mul (by omega) (by omega) (by omega) (by omega)
 have e2 : a * a ≤ a * c := Int.mul_le_mul_of_nonneg_left h4 (by omega)
 have e3 : 1 * c ≤ a * c := Int.mul_le_mul_of_nonneg_right (by omega) (by omega)
 omega
theorem zA0 {x : Int} (h : ab x < pw 3) : ab x < pw 5 := Int.lt_of_lt_of_le h (zAb (by omega))
theorem zLm {a b c p q r s a' b' c' : Int} (h1 : ab a < pw 5 ∧ ab b < pw 5 ∧ ab c < pw 5) (h2 : ab a' < pw 5 ∧ ab b' < pw 5 ∧ ab c' < pw 5) (e1 : redE a b c = 0) (e2 : redE a' b' c' = 0) (hu : Und a b c p q r s a' b' c') : (redT a' b' c').fa = (redT a b c).fa ∧ (redT a' b' c').fb = (redT a b c).fb ∧ (redT a' b' c').fc = (redT a b c).fc := by
 obtain ⟨u1, r1⟩ := zEa h1.1 h1.2.1 h1.2.2 e1
 exact zHf h2.1 h2.2.1 h2.2.2 e2 (hu.back.mul u1) r1
theorem zI8 {a b c n : Int} (h1 : ab a < pw 5 ∧ ab b < pw 5 ∧ ab c < pw 5) (e1 : redE a b c = 0) (hd : b * b - 4 * (a * c) = -n) (hn : 0 < n) (hn2 : n ≤ 2004) : (ab (redT a b c).fa < pw 3 ∧ ab (redT a b c).fb < pw 3 ∧ ab (redT a b c).fc < pw 3) ∧ redE (redT a b c).fa (redT a b c).fb (redT a b c).fc = 0 ∧ ((redT (redT a b c).fa (redT a b c).fb (redT a b c).fc).fa = (redT a b c).fa ∧ (redT (redT a b c).fa (redT a b c).fb (redT a b c).fc).fb = (redT a b c).fb ∧ (redT (redT a b c).fa (redT a b c).fb (redT a b c).fc).fc = (redT a b c).fc) ∧ (redT a b c).fb * (redT a b c).fb - 4 * ((redT a b c).fa * (redT a b c).fc) = -n := by
 obtain ⟨u1, r1⟩ := zEa h1.1 h1.2.1 h1.2.2 e1
 have hd2 := u1.disc.trans hd
 obtain ⟨b1, b2, b3⟩ := r1.small hd2 hn2
 have hb : ab (redT a b c).fa < pw 3 ∧ ab (redT a b c).fb < pw 3 ∧ ab (redT a b c).fc < pw 3 := ⟨zC0 (by omega), zC0 (by omega), zC0 (by omega)⟩
 have e2 : redE (redT a b c).fa (redT a b c).fb (redT a b c).fc = 0 := zEt (by rw [hd2]; omega) r1.pos
 exact ⟨hb, e2, zHf (zA0 hb.1) (zA0 hb.2.1) (zA0 hb.2.2) e2 (Und.one ..) r1, hd2⟩
theorem MOk.b5 {n : Int} {P : F3} (h : MOk n P) : ab P.a < pw 5 ∧ ab P.b < pw 5 ∧ ab P.c < pw 5 := ⟨zA0 h.2.2.1.1, zA0 h.2.2.1.2.1, zA0 h.2.2.1.2.2⟩
theorem same_true {a b c x y z : Int} (h1 : redE a b c = 0) (h2 : redE x y z = 0) : zEu a b c x y z = eqR (redT a b c) (redT x y z) := by
 unfold zEu
 rw [decide_eq_true h1, decide_eq_true h2, Bool.true_and, Bool.true_and]
theorem reducedB {a b c : Int} (e1 : redE a b c = 0) (hr : Rdf a b c) : (dfB a b c && redB a b c) = true := by
 rw [zHe, decide_eq_true e1, (zD9 hr.pos).2 hr]
 rfl
theorem same_und {a b c x y z : Int} (h1 : ab a < pw 5 ∧ ab b < pw 5 ∧ ab c < pw 5) (h2 : ab x < pw 5 ∧ ab y < pw 5 ∧ ab z < pw 5) (hs : zEu a b c x y z = true) : Und a b c (smA (redT a b c) (redT x y z)) (smB (redT a b c) (redT x y z)) (smC (redT a b c) (redT x y z)) (smD (redT a b c) (redT x y z)) x y z := by
 unfold zEu eqR eqF at hs
 simp only [Bool.and_eq_true, decide_eq_true_eq] at hs
 obtain ⟨e1, e2, q1, q2, q3⟩ := hs
 have u1 := (zEa h1.1 h1.2.1 h1.2.2 e1).1
 have u2 := (zEa h2.1 h2.2.1 h2.2.2 e2).1
 rw [q1, q2, q3] at u1
 exact u1.mul u2.back
theorem und_small {a b c p q r s x y z : Int} (h : Und a b c p q r s x y z) (hd : b * b - 4 * (a * c) < 0) (h1 : ab a < pw 3 ∧ ab b < pw 3 ∧ ab c < pw 3) (h2 : ab x < pw 3 ∧ ab y < pw 3 ∧ ab z < pw 3) : ab p < pw 10 ∧ ab q < pw 10 ∧ ab r < pw 10 ∧ ab s < pw 10 := by
 have h4 : ab (4 : Int) < pw 3 := zAs (by decide) (by decide)
 obtain ⟨g1, g2, g3, g4⟩ := h.bds hd
 have up : ∀ {x y z : Int}, x * x ≤ 4 * (y * z) → ab y < pw 3 → ab z < pw 3 → ab x < pw 10 := fun {x y z} hx hy hz => Int.lt_of_le_of_lt (zJl hx) (Int.lt_of_lt_of_le (zBi h4 (zBi hy hz)) (zAb (by omega)))
 exact ⟨up g1 h1.2.2 h2.1, up g2 h1.2.2 h2.2.2, up g3 h1.1 h2.1, up g4 h1.1 h2.2.2⟩
theorem zFk {x k : Int} (h : ab x < k) : ab (-x) < k := by
 unfold ab
 rw [Int.natAbs_neg]
 exact h
theorem Und.opp {a b c p q r s x y z : Int} (h : Und a b c p q r s x y z) : Und a (-b) c p (-q) (-r) s x (-y) z := by
 refine ⟨?_, ?_, ?_, ?_⟩
 ·rw [Int.neg_mul_neg]
  exact h.d
 ·rw [h.ea]
  unfold qv
  simp only [Int.mul_neg, Int.neg_mul, Int.neg_neg]
 ·rw [h.eb]
  unfold qm
  simp only [Int.mul_neg, Int.neg_mul, Int.neg_neg]
  omega
 ·rw [h.ec]
  unfold qv
  simp only [Int.mul_neg, Int.neg_mul, Int.neg_neg]
theorem qv_opp (a b c x y : Int) : qv a (-b) c x y = qv a b c x (-y) := by
 unfold qv
 simp only [Int.mul_neg, Int.neg_mul, Int.neg_neg]
theorem Und.val {a b c p q r s x y z : Int} (h : Und a b c p q r s x y z) (t v : Int) : qv x y z t v = qv a b c (p * t + q * v) (r * t + s * v) := by
 rw [h.ea, h.eb, h.ec]
 exact act_a ..
theorem inv_facts {n : Int} {P : F3} {S I : RS} (h : MOk n P) (h0 : 3 ≤ n) (h1 : n ≤ 2004) (eS : redT P.a P.b P.c = S) (eI : invT P.a P.b P.c = I) : (ab I.fa < pw 3 ∧ ab I.fb < pw 3 ∧ ab I.fc < pw 3) ∧ redE I.fa I.fb I.fc = 0 ∧ (dfB I.fa I.fb I.fc && redB I.fa I.fb I.fc) = true ∧ ((invT I.fa I.fb I.fc).fa = S.fa ∧ (invT I.fa I.fb I.fc).fb = S.fb ∧ (invT I.fa I.fb I.fc).fc = S.fc) ∧ ((invT S.fa S.fb S.fc).fa = I.fa ∧ (invT S.fa S.fb S.fc).fb = I.fb ∧ (invT S.fa S.fb S.fc).fc = I.fc) ∧ zEu S.fa (-S.fb) S.fc I.fa I.fb I.fc = true := by
 have h5 := h.b5
 have hN5 : ab P.a < pw 5 ∧ ab (-P.b) < pw 5 ∧ ab P.c < pw 5 := ⟨h5.1, zFk h5.2.1, h5.2.2⟩
 have eN := zF3 h.1
 have hI : redT P.a (-P.b) P.c = I := by
  rw [← eI]
  unfold invT
  rw [if_pos h.1]
 obtain ⟨uS, rS⟩ := zEa h5.1 h5.2.1 h5.2.2 h.1
 obtain ⟨uI, rI⟩ := zEa hN5.1 hN5.2.1 hN5.2.2 eN
 have sS := zI8 h5 h.1 h.2.1 (by omega) h1
 have sI := zI8 hN5 eN ((zHw ..).trans h.2.1) (by omega) h1
 rw [eS] at uS rS sS
 rw [hI] at uI rI sI
 have uo := uI.opp
 rw [Int.neg_neg] at uo
 have eSo := zF3 sS.2.1
 have k1 := zLm h5 ⟨zA0 sI.1.1, zA0 (zFk sI.1.2.1), zA0 sI.1.2.2⟩ h.1 (zF3 sI.2.1) uo
 have k2 := zLm hN5 ⟨zA0 sS.1.1, zA0 (zFk sS.1.2.1), zA0 sS.1.2.2⟩ eN eSo uS.opp
 rw [eS] at k1
 rw [hI] at k2
 refine ⟨sI.1, sI.2.1, reducedB sI.2.1 rI, ?_, ?_, ?_⟩
 ·unfold invT
  rw [if_pos sI.2.1]
  exact k1
 ·unfold invT
  rw [if_pos sS.2.1]
  exact k2
 ·rw [same_true eSo sI.2.1]
  unfold eqR
  rw [k2.1, k2.2.1, k2.2.2, sI.2.2.1.1, sI.2.2.1.2.1, sI.2.2.1.2.2]
  exact zH9 _ _ _
set_option maxRecDepth 100000 in
set_option maxHeartbeats 4000000 in
theorem zL6 (w : World) (D i0 i1 i2 i3 m0 m1 m2 m3 : Int) (hD : 0 ≤ D ∧ D ≤ 65535) (hi0 : 0 ≤ i0 ∧ i0 ≤ 65535) (hi1 : 0 ≤ i1 ∧ i1 ≤ 65535) (hi2 : 0 ≤ i2 ∧ i2 ≤ 65535) (hi3 : 0 ≤ i3 ∧ i3 ≤ 65535) (hm0 : 0 ≤ m0 ∧ m0 ≤ 255) (hm1 : 0 ≤ m1 ∧ m1 ≤ 255) (hm2 : 0 ≤ m2 ∧ m2 ≤ 255) (hm3 : 0 ≤ m3 ∧ m3 ≤ 255) (z y : Int) (hz : -32768 ≤ z ∧ z ≤ 32767) (hy : -32768 ≤ y ∧ y ≤ 32767) {v v' : Value} (h : (Fq.st [.v (.int .u16 D), .v (.int .u16 i0), .v (.int .u16 i1), .v (.int .u16 i2), .v (.int .u16 i3), .v (.int .u8 m0), .v (.int .u8 m1), .v (.int .u8 m2), .v (.int .u8 m3)]).P v w) (h' : (Fq.st [.v (.int .i16 z), .v (.int .i16 y)]).P v' w) :
  Calls Tryz.prog 6 #[v, v'] w fun e w' => ∃ v', e = .returned v' ∧ Below w.heap.size w w' ∧ v' = .bool true := by
 obtain ⟨n, en⟩ : ∃ x, x = zBq D := ⟨_, rfl⟩
 have hszn := zJc D
 rw [← en] at hszn
 have En := hidd en.symm
 have Zn := hidd hszn
 have HDn := hidd hD
 clear en hszn hD
 obtain ⟨P, eP⟩ : ∃ x, x = zFd n i0 m0 := ⟨_, rfl⟩
 have hokP := madeF_ok (i := i0) (m := m0) Zn.out.1 Zn.out.2.1 Zn.out.2.2
 rw [← eP] at hokP
 have EP := hidd eP.symm
 have OKP := hidd hokP
 have BP := hidd hokP.2.2.1
 have IP := hidd hi0
 have MP := hidd hm0
 clear eP hokP hi0 hm0
 obtain ⟨S, eS⟩ : ∃ x, x = redT P.a P.b P.c := ⟨_, rfl⟩
 have BS := hidd (zF4 OKP.out.b5.1 OKP.out.b5.2.1 OKP.out.b5.2.2)
 have hinS := zEa OKP.out.b5.1 OKP.out.b5.2.1 OKP.out.b5.2.2 OKP.out.1
 have hsS := zI8 OKP.out.b5 OKP.out.1 OKP.out.2.1 (by have := Zn.out; omega) Zn.out.2.1
 rw [← eS] at BS hinS hsS
 have ES := hidd eS.symm
 have US := hidd hinS.1
 have RS := hidd hinS.2
 have FS := hidd hsS.1
 have VS := hidd hsS.2
 clear eS hinS hsS
 obtain ⟨I, eI⟩ : ∃ x, x = invT P.a P.b P.c := ⟨_, rfl⟩
 have hI := inv_facts OKP.out Zn.out.1 Zn.out.2.1 ES.out eI.symm
 have EI := hidd eI.symm
 have FI := hidd hI.1
 have VI := hidd hI.2
 clear eI hI
 have QS := hidd (zH9 S.fa S.fb S.fc)
 have QI := hidd (zH9 I.fa I.fb I.fc)
 obtain ⟨K1, e1⟩ : ∃ x, x = smA (redT S.fa (-S.fb) S.fc) (redT I.fa I.fb I.fc) := ⟨_, rfl⟩
 obtain ⟨K2, e2⟩ : ∃ x, x = smB (redT S.fa (-S.fb) S.fc) (redT I.fa I.fb I.fc) := ⟨_, rfl⟩
 obtain ⟨K3, e3⟩ : ∃ x, x = smC (redT S.fa (-S.fb) S.fc) (redT I.fa I.fb I.fc) := ⟨_, rfl⟩
 obtain ⟨K4, e4⟩ : ∃ x, x = smD (redT S.fa (-S.fb) S.fc) (redT I.fa I.fb I.fc) := ⟨_, rfl⟩
 have hu := same_und ⟨zA0 FS.out.1, zA0 (zFk FS.out.2.1), zA0 FS.out.2.2⟩ ⟨zA0 FI.out.1, zA0 FI.out.2.1, zA0 FI.out.2.2⟩ VI.out.2.2.2.2
 rw [← e1, ← e2, ← e3, ← e4] at hu
 have hks := und_small hu (by rw [zHw, VS.out.2.2]; have := Zn.out; omega) ⟨FS.out.1, zFk FS.out.2.1, FS.out.2.2⟩ FI.out
 have UK := hidd hu
 have BK := hidd hks
 have EK1 := hidd e1
 have EK2 := hidd e2
 have EK3 := hidd e3
 have EK4 := hidd e4
 clear e1 e2 e3 e4 hu hks
 obtain ⟨V, eV⟩ : ∃ V, V = qv I.fa I.fb I.fc z y := ⟨_, rfl⟩
 have eV2 := eV
 rw [UK.out.val z y, qv_opp] at eV2
 have IZ : Hid (IntKind.i64.wrap z = z) := IntWalk.i64_in _ (by omega)
 have IY : Hid (IntKind.i64.wrap y = y) := IntWalk.i64_in _ (by omega)
 have RZ9 : Hid (-9223372036854775808 ≤ z ∧ z ≤ 9223372036854775807) := by show _ ∧ _; omega
 have RY9 : Hid (-9223372036854775808 ≤ y ∧ y ≤ 9223372036854775807) := by show _ ∧ _; omega
 have Bz : Hid (ab z < pw 3) := zAs RZ9.out.1 RZ9.out.2
 have By : Hid (ab y < pw 3) := zAs RY9.out.1 RY9.out.2
 have BV : Hid (ab V < pw 60) := by show _ < _; rw [eV]; exact qv_abK (k := 15) (j := 3) (Int.lt_of_lt_of_le FI.out.1 (zAb (by omega))) (Int.lt_of_lt_of_le FI.out.2.1 (zAb (by omega))) (Int.lt_of_lt_of_le FI.out.2.2 (zAb (by omega))) Bz.out By.out (by omega)
 have EV := hidd eV
 have EV2 := hidd eV2
 clear eV eV2 hz hy
 obtain ⟨_, rfl, hf0⟩ := h
 have hF0 := hf0
 obtain ⟨_, rfl, _, _, rfl, _, _, rfl, _, _, rfl, _, _, rfl, _, _, rfl, _, _, rfl, _, _, rfl, _, _, rfl, _, rfl⟩ := hf0
 obtain ⟨_, rfl, hf1⟩ := h'
 have hF1 := hf1
 obtain ⟨_, rfl, _, _, rfl, _, rfl⟩ := hf1
 obtain ⟨w1, b1, hw1, hb1, hs1, E⟩ := gS w 57 hF0
 obtain ⟨w2, b2, hw2, hb2, hs2, E⟩ := fS E hs1 70 hF1
 go_enter Tryz.func6, Tryz.ntmps6
 go_upto_region 1 with (fail)
 rw [← hw1]
 rw [← hw2]
 rw [← hb2]
 rw [← hb1]
 clear hw1 hw2 hb1 hb2 hs2 hs1
 refine rg [yT, yT] N2 [] E (fun hp => ⟨?_, ?_, tv⟩) ?_
 ·exact q_call0 hp fo tv (zMm) (fun w => zMz w)
 ·exact zAh hp fo tv (sqi 0)
 intro L vs w3 nb hL hC hn E3
 have e0 := wXi hC 0
 have e1 := wXi hC 1
 have E := E3; try simp only [LM, zAd] at E
 rw [zAe hL]
 simp only [SP, Nat.zero_add, Nat.reduceAdd]
 rw [e0, e1]
 clear e0 e1 hC hn E3 hL vs L nb
 go_upto_region 2 with (fail)
 refine rg [yT, yF] N2 [] E (fun hp => ⟨?_, ?_, tv⟩) ?_
 ·exact zAa hp fo tv (sqo 5)
 ·exact zAf (F := fun v _ => v = .bool true) hp fo tv (sqi 0) (fun ρ w _ h => ⟨.bool false, by simp [execOp, go_sem, h], rfl⟩)
 intro L vs w4 nb hL hC hn E4
 have e0 := wXi hC 0
 have e1 := wXi hC 1
 have E := E4; try simp only [LM, zAd] at E
 rw [zAe hL]
 simp only [SP, Nat.zero_add, Nat.reduceAdd]
 rw [e0, e1]
 clear e0 e1 hC hn E4 hL vs L nb
 go_upto_region 4 with (fail)
 refine rg [Fq.st [.v (.int .u16 D), .v (.int .u16 i0), .v (.int .u16 i1), .v (.int .u16 i2), .v (.int .u16 i3), .v (.int .u8 m0), .v (.int .u8 m1), .v (.int .u8 m2), .v (.int .u8 m3)], Fq.st [.n P.a, .n P.b, .n P.c], Fq.any, Fq.any] N2 [⟨2, 3, 6, Fq.st [.n 0, .n 0, .n 0], Fq.st [.n P.a, .n P.b, .n P.c], none⟩] E (fun hp => ⟨?_, ?_, ?_, ?_, tv⟩) ?_
 ·exact lS 0 9 hp (mq 1 rfl) zLq (sqo 2)
 ·exact zAx (F := (Fq.st [.v (.int .u16 D), .v (.int .u16 i0), .v (.int .u16 i1), .v (.int .u16 i2), .v (.int .u16 i3), .v (.int .u8 m0), .v (.int .u8 m1), .v (.int .u8 m2), .v (.int .u8 m3)]).P) (G := (Fq.is (.int .i64 0)).P) hp fo tv (zMq) (sqi 0) (zAj (fun _ => rfl)) (fun v v' w h h' => (by subst h'; exact exQMade0 h HDn.out IP.out MP.out En.out EP.out))
 ·exact aS hp (mq 0 rfl) zBb zB8
 ·exact sS 1 hp (mq 0 rfl) zA7
 intro L vs w5 nb hL hC hn E5
 have e2 : vs 2 = .pointer (some ⟨nb 2, 0, none⟩) := hn _ (mq 0 rfl)
 have E := E5; try simp only [LM, zAd] at E
 rw [zAe hL]
 simp only [SP, Nat.zero_add, Nat.reduceAdd]
 rw [e2]
 generalize nb 2 = b5_2 at E ⊢
 generalize vs 0 = u5_0
 generalize vs 1 = u5_1
 clear e2 hC hn E5 hL vs L nb
 go_upto_region 5 with (fail)
 refine rg [Fq.st [.n P.a, .n P.b, .n P.c], Fq.tup3 (Fq.st [.n S.fa, .n S.fb, .n S.fc]) (Fq.st [.n S.x1, .n S.x2, .n S.x3, .n S.x4]) (Fq.is (.int .i64 0)), Fq.tup3 (Fq.st [.n S.fa, .n S.fb, .n S.fc]) (Fq.st [.n S.x1, .n S.x2, .n S.x3, .n S.x4]) (Fq.is (.int .i64 0)), Fq.st [.n S.fa, .n S.fb, .n S.fc], Fq.st [.n S.x1, .n S.x2, .n S.x3, .n S.x4], Fq.is (.int .i64 0), Fq.any, Fq.any, Fq.any, Fq.any, Fq.is (.int .i64 0)] N3 [⟨6, 8, 6, Fq.st [.n 0, .n 0, .n 0], Fq.st [.n S.fa, .n S.fb, .n S.fc], none⟩, ⟨7, 9, 8, Fq.st [.n 0, .n 0, .n 0, .n 0], Fq.st [.n S.x1, .n S.x2, .n S.x3, .n S.x4], none⟩] E (fun hp => ⟨?_, ?_, ?_, ?_, ?_, ?_, ?_, ?_, ?_, ?_, ?_, tv⟩) ?_
 ·exact lS 0 6 hp (mq 0 rfl) zAm (sqo 6)
 ·exact wXa (Fq.st [.n P.a, .n P.b, .n P.c]) hp zE2 (sqi 0) fun v w h => (by have hh := zE8 h (zA0 BP.out.1) (zA0 BP.out.2.1) (zA0 BP.out.2.2); rw [ES.out, OKP.out.1] at hh; exact hh)
 ·exact zAa hp fo tv (sqi 1)
 ·exact zA1 hp fo tv (sqi 2) (fun v1 v2 v3 w h1 h2 h3 => ⟨_, rfl, h1⟩)
 ·exact zA1 hp fo tv (sqi 2) (fun v1 v2 v3 w h1 h2 h3 => ⟨_, rfl, h2⟩)
 ·exact zA1 hp fo tv (sqi 2) (fun v1 v2 v3 w h1 h2 h3 => ⟨_, rfl, h3⟩)
 ·exact aS hp (mq 0 rfl) zBb zB8
 ·exact aS hp (mq 1 rfl) zB5 zEg
 ·exact sS 3 hp (mq 0 rfl) zA7
 ·exact sS 4 hp (mq 1 rfl) zBz
 ·exact zAh hp fo tv (sqi 5)
 intro L vs w6 nb hL hC hn E6
 have e5 := wXi hC 5
 have e10 := wXi hC 10
 have e6 : vs 6 = .pointer (some ⟨nb 6, 0, none⟩) := hn _ (mq 0 rfl)
 have e7 : vs 7 = .pointer (some ⟨nb 7, 0, none⟩) := hn _ (mq 1 rfl)
 have E := E6; try simp only [LM, zAd] at E
 rw [zAe hL]
 simp only [SP, Nat.zero_add, Nat.reduceAdd]
 rw [e5, e10, e6, e7]
 generalize nb 6 = b6_6 at E ⊢
 generalize nb 7 = b6_7 at E ⊢
 generalize vs 0 = u6_0
 generalize vs 1 = u6_1
 generalize vs 2 = u6_2
 generalize vs 3 = u6_3
 generalize vs 4 = u6_4
 clear e5 e10 e6 e7 hC hn E6 hL vs L nb
 go_upto_region 6 with (fail)
 refine rg [Fq.st [.n P.a, .n P.b, .n P.c], Fq.tup2 (Fq.st [.n I.fa, .n I.fb, .n I.fc]) (Fq.is (.int .i64 0)), Fq.tup2 (Fq.st [.n I.fa, .n I.fb, .n I.fc]) (Fq.is (.int .i64 0)), Fq.st [.n I.fa, .n I.fb, .n I.fc], Fq.is (.int .i64 0), Fq.any, Fq.any, Fq.is (.int .i64 0)] N5 [⟨5, 6, 6, Fq.st [.n 0, .n 0, .n 0], Fq.st [.n I.fa, .n I.fb, .n I.fc], none⟩] E (fun hp => ⟨?_, ?_, ?_, ?_, ?_, ?_, ?_, ?_, tv⟩) ?_
 ·exact lS 0 6 hp (mq 2 rfl) zAm (sqo 6)
 ·exact wXa (Fq.st [.n P.a, .n P.b, .n P.c]) hp zGs (sqi 0) fun v w h => (by have hh := zGv h (zA0 BP.out.1) (zA0 BP.out.2.1) (zA0 BP.out.2.2); rw [EI.out, OKP.out.1] at hh; exact hh)
 ·exact zAa hp fo tv (sqi 1)
 ·exact zCc hp fo tv (sqi 2) (fun v1 v2 w h1 h2 => ⟨_, rfl, h1⟩)
 ·exact zCc hp fo tv (sqi 2) (fun v1 v2 w h1 h2 => ⟨_, rfl, h2⟩)
 ·exact aS hp (mq 0 rfl) zBb zB8
 ·exact sS 3 hp (mq 0 rfl) zA7
 ·exact zAh hp fo tv (sqi 4)
 intro L vs w7 nb hL hC hn E7
 have e4 := wXi hC 4
 have e7 := wXi hC 7
 have e5 : vs 5 = .pointer (some ⟨nb 5, 0, none⟩) := hn _ (mq 0 rfl)
 have E := E7; try simp only [LM, zAd] at E
 rw [zAe hL]
 simp only [SP, Nat.zero_add, Nat.reduceAdd]
 rw [e4, e7, e5]
 generalize nb 5 = b7_5 at E ⊢
 generalize vs 0 = u7_0
 generalize vs 1 = u7_1
 generalize vs 2 = u7_2
 generalize vs 3 = u7_3
 clear e4 e7 e5 hC hn E7 hL vs L nb
 go_upto_region 7 with (fail)
 refine rg [Fq.st [.n I.fa, .n I.fb, .n I.fc], Fq.tup2 (Fq.st [.n S.fa, .n S.fb, .n S.fc]) (Fq.is (.int .i64 0)), Fq.tup2 (Fq.st [.n S.fa, .n S.fb, .n S.fc]) (Fq.is (.int .i64 0)), Fq.st [.n S.fa, .n S.fb, .n S.fc], Fq.is (.int .i64 0), Fq.any, Fq.any, Fq.is (.int .i64 0)] N6 [⟨5, 6, 6, Fq.st [.n 0, .n 0, .n 0], Fq.st [.n S.fa, .n S.fb, .n S.fc], none⟩] E (fun hp => ⟨?_, ?_, ?_, ?_, ?_, ?_, ?_, ?_, tv⟩) ?_
 ·exact lS 0 6 hp (mq 0 rfl) zAm (sqo 10)
 ·exact wXa (Fq.st [.n I.fa, .n I.fb, .n I.fc]) hp zGs (sqi 0) fun v w h => (by have hh := zGv h (zA0 FI.out.1) (zA0 FI.out.2.1) (zA0 FI.out.2.2); rw [VI.out.2.2.1.1, VI.out.2.2.1.2.1, VI.out.2.2.1.2.2, VI.out.1] at hh; exact hh)
 ·exact zAa hp fo tv (sqi 1)
 ·exact zCc hp fo tv (sqi 2) (fun v1 v2 w h1 h2 => ⟨_, rfl, h1⟩)
 ·exact zCc hp fo tv (sqi 2) (fun v1 v2 w h1 h2 => ⟨_, rfl, h2⟩)
 ·exact aS hp (mq 0 rfl) zBb zB8
 ·exact sS 3 hp (mq 0 rfl) zA7
 ·exact zAh hp fo tv (sqi 4)
 intro L vs w8 nb hL hC hn E8
 have e4 := wXi hC 4
 have e7 := wXi hC 7
 have e5 : vs 5 = .pointer (some ⟨nb 5, 0, none⟩) := hn _ (mq 0 rfl)
 have E := E8; try simp only [LM, zAd] at E
 rw [zAe hL]
 simp only [SP, Nat.zero_add, Nat.reduceAdd]
 rw [e4, e7, e5]
 generalize nb 5 = b8_5 at E ⊢
 generalize vs 0 = u8_0
 generalize vs 1 = u8_1
 generalize vs 2 = u8_2
 generalize vs 3 = u8_3
 clear e4 e7 e5 hC hn E8 hL vs L nb
 go_upto_region 8 with (fail)
 refine rg [Fq.st [.n S.fa, .n S.fb, .n S.fc], Fq.tup2 (Fq.st [.n I.fa, .n I.fb, .n I.fc]) (Fq.is (.int .i64 0)), Fq.tup2 (Fq.st [.n I.fa, .n I.fb, .n I.fc]) (Fq.is (.int .i64 0)), Fq.st [.n I.fa, .n I.fb, .n I.fc], Fq.is (.int .i64 0), Fq.any, Fq.any, Fq.is (.int .i64 0)] N7 [⟨5, 6, 6, Fq.st [.n 0, .n 0, .n 0], Fq.st [.n I.fa, .n I.fb, .n I.fc], none⟩] E (fun hp => ⟨?_, ?_, ?_, ?_, ?_, ?_, ?_, ?_, tv⟩) ?_
 ·exact lS 0 6 hp (mq 2 rfl) zAm (sqo 7)
 ·exact wXa (Fq.st [.n S.fa, .n S.fb, .n S.fc]) hp zGs (sqi 0) fun v w h => (by have hh := zGv h (zA0 FS.out.1) (zA0 FS.out.2.1) (zA0 FS.out.2.2); rw [VI.out.2.2.2.1.1, VI.out.2.2.2.1.2.1, VI.out.2.2.2.1.2.2, VS.out.1] at hh; exact hh)
 ·exact zAa hp fo tv (sqi 1)
 ·exact zCc hp fo tv (sqi 2) (fun v1 v2 w h1 h2 => ⟨_, rfl, h1⟩)
 ·exact zCc hp fo tv (sqi 2) (fun v1 v2 w h1 h2 => ⟨_, rfl, h2⟩)
 ·exact aS hp (mq 0 rfl) zBb zB8
 ·exact sS 3 hp (mq 0 rfl) zA7
 ·exact zAh hp fo tv (sqi 4)
 intro L vs w9 nb hL hC hn E9
 have e4 := wXi hC 4
 have e7 := wXi hC 7
 have e5 : vs 5 = .pointer (some ⟨nb 5, 0, none⟩) := hn _ (mq 0 rfl)
 have E := E9; try simp only [LM, zAd] at E
 rw [zAe hL]
 simp only [SP, Nat.zero_add, Nat.reduceAdd]
 rw [e4, e7, e5]
 generalize nb 5 = b9_5 at E ⊢
 generalize vs 0 = u9_0
 generalize vs 1 = u9_1
 generalize vs 2 = u9_2
 generalize vs 3 = u9_3
 clear e4 e7 e5 hC hn E9 hL vs L nb
 go_upto_region 9 with (fail)
 refine rg [Fq.is (.int .i64 0), yF, yF, Fq.is (.int .i64 0), yF, yF, yF, Fq.is (.int .i64 0), yF, yF, yF, Fq.is (.int .i64 0), yF, yF, yF, Fq.st [.n I.fa, .n I.fb, .n I.fc], yT, yF, yF, yF, Fq.st [.n S.fa, .n S.fb, .n S.fc], Fq.st [.n S.fa, .n S.fb, .n S.fc], yT, yF, yF, yF, Fq.st [.n I.fa, .n I.fb, .n I.fc], Fq.st [.n I.fa, .n I.fb, .n I.fc], yT, yF, yF] N8 [] E (fun hp => ⟨?_, ?_, ?_, ?_, ?_, ?_, ?_, ?_, ?_, ?_, ?_, ?_, ?_, ?_, ?_, ?_, ?_, ?_, ?_, ?_, ?_, ?_, ?_, ?_, ?_, ?_, ?_, ?_, ?_, ?_, ?_, tv⟩) ?_
 ·exact zAa hp fo tv (sqo 9)
 ·exact zAf (F := fun v _ => v = .int .i64 0) hp fo tv (sqi 0) (fun ρ w hc h => ⟨.bool false, by simp [execOp, go_sem, h, hc], rfl⟩)
 ·exact zAa hp fo tv (sqi 1)
 ·exact zAa hp fo gqi (sqo 11)
 ·exact zAf (F := fun v _ => v = .int .i64 0) hp fo gqi (sqi 3) (fun ρ w hc h => ⟨.bool false, by simp [execOp, go_sem, h, hc], rfl⟩)
 ·exact zAg (F := fun v _ => v = .bool false) (G := fun v _ => v = .bool false) hp fo tv (sqi 2) (sqi 4) (fun ρ w hc h h' => ⟨_, by simp [execOp, go_sem, h, h'], rfl⟩)
 ·exact zAa hp fo tv (sqi 5)
 ·exact zAa hp fo gqi (sqo 13)
 ·exact zAf (F := fun v _ => v = .int .i64 0) hp fo gqi (sqi 7) (fun ρ w hc h => ⟨.bool false, by simp [execOp, go_sem, h, hc], rfl⟩)
 ·exact zAg (F := fun v _ => v = .bool false) (G := fun v _ => v = .bool false) hp fo tv (sqi 6) (sqi 8) (fun ρ w hc h h' => ⟨_, by simp [execOp, go_sem, h, h'], rfl⟩)
 ·exact zAa hp fo tv (sqi 9)
 ·exact zAa hp fo gqi (sqo 15)
 ·exact zAf (F := fun v _ => v = .int .i64 0) hp fo gqi (sqi 11) (fun ρ w hc h => ⟨.bool false, by simp [execOp, go_sem, h, hc], rfl⟩)
 ·exact zAg (F := fun v _ => v = .bool false) (G := fun v _ => v = .bool false) hp fo tv (sqi 10) (sqi 12) (fun ρ w hc h h' => ⟨_, by simp [execOp, go_sem, h, h'], rfl⟩)
 ·exact zAa hp fo tv (sqi 13)
 ·exact lG 0 6 hp gqi (mq 2 rfl) zAm (sqo 10) fun v w h => h
 ·exact zAn (F := (Fq.st [.n I.fa, .n I.fb, .n I.fc]).P) hp fo gqi (zH4) (sqi 15) (fun v w h => zIb h (Int.lt_of_lt_of_le FI.out.1 (zAb (by omega))) (Int.lt_of_lt_of_le FI.out.2.1 (zAb (by omega))) (Int.lt_of_lt_of_le FI.out.2.2 (zAb (by omega))) VI.out.2.1)
 ·exact zAf (F := fun v _ => v = .bool true) hp fo gqi (sqi 16) (fun ρ w _ h => ⟨.bool false, by simp [execOp, go_sem, h], rfl⟩)
 ·exact zAg (F := fun v _ => v = .bool false) (G := fun v _ => v = .bool false) hp fo tv (sqi 14) (sqi 17) (fun ρ w hc h h' => ⟨_, by simp [execOp, go_sem, h, h'], rfl⟩)
 ·exact zAa hp fo tv (sqi 18)
 ·exact lG 0 6 hp gqi (mq 1 rfl) zAm (sqo 12) fun v w h => h
 ·exact lG 0 6 hp gqi (mq 3 rfl) zAm (sqo 7) fun v w h => h
 ·exact zAx (F := (Fq.st [.n S.fa, .n S.fb, .n S.fc]).P) (G := (Fq.st [.n S.fa, .n S.fb, .n S.fc]).P) hp fo gqi (zE1) (sqi 20) (sqi 21) (fun v v' w h h' => zFa h h' QS.out)
 ·exact zAf (F := fun v _ => v = .bool true) hp fo gqi (sqi 22) (fun ρ w _ h => ⟨.bool false, by simp [execOp, go_sem, h], rfl⟩)
 ·exact zAg (F := fun v _ => v = .bool false) (G := fun v _ => v = .bool false) hp fo tv (sqi 19) (sqi 23) (fun ρ w hc h h' => ⟨_, by simp [execOp, go_sem, h, h'], rfl⟩)
 ·exact zAa hp fo tv (sqi 24)
 ·exact lG 0 6 hp gqi (mq 0 rfl) zAm (sqo 14) fun v w h => h
 ·exact lG 0 6 hp gqi (mq 2 rfl) zAm (sqo 10) fun v w h => h
 ·exact zAx (F := (Fq.st [.n I.fa, .n I.fb, .n I.fc]).P) (G := (Fq.st [.n I.fa, .n I.fb, .n I.fc]).P) hp fo gqi (zE1) (sqi 26) (sqi 27) (fun v v' w h h' => zFa h h' QI.out)
 ·exact zAf (F := fun v _ => v = .bool true) hp fo gqi (sqi 28) (fun ρ w _ h => ⟨.bool false, by simp [execOp, go_sem, h], rfl⟩)
 ·exact zAg (F := fun v _ => v = .bool false) (G := fun v _ => v = .bool false) hp fo tv (sqi 25) (sqi 29) (fun ρ w hc h h' => ⟨_, by simp [execOp, go_sem, h, h'], rfl⟩)
 intro L vs w10 nb hL hC hn E10
 have e0 := wXi hC 0
 have e1 := wXi hC 1
 have e2 := wXi hC 2
 have e3 := wXi hC 3
 have e4 := wXi hC 4
 have e5 := wXi hC 5
 have e6 := wXi hC 6
 have e7 := wXi hC 7
 have e8 := wXi hC 8
 have e9 := wXi hC 9
 have e10 := wXi hC 10
 have e11 := wXi hC 11
 have e12 := wXi hC 12
 have e13 := wXi hC 13
 have e14 := wXi hC 14
 have e16 := wXi hC 16
 have e17 := wXi hC 17
 have e18 := wXi hC 18
 have e19 := wXi hC 19
 have e22 := wXi hC 22
 have e23 := wXi hC 23
 have e24 := wXi hC 24
 have e25 := wXi hC 25
 have e28 := wXi hC 28
 have e29 := wXi hC 29
 have e30 := wXi hC 30
 have E := E10; try simp only [LM, zAd] at E
 rw [zAe hL]
 simp only [SP, Nat.zero_add, Nat.reduceAdd]
 rw [e0, e1, e2, e3, e4, e5, e6, e7, e8, e9, e10, e11, e12, e13, e14, e16, e17, e18, e19, e22, e23, e24, e25, e28, e29, e30]
 generalize vs 15 = u10_15
 generalize vs 20 = u10_20
 generalize vs 21 = u10_21
 generalize vs 26 = u10_26
 generalize vs 27 = u10_27
 clear e0 e1 e2 e3 e4 e5 e6 e7 e8 e9 e10 e11 e12 e13 e14 e16 e17 e18 e19 e22 e23 e24 e25 e28 e29 e30 hC hn E10 hL vs L nb
 go_upto_region 11 with (fail)
 have B11 : Hid (ab ((-S.fb)) < pw 3) := zDo FS.out.2.1
 refine rg [ip b6_6 0, Fq.num S.fa, ip b6_6 2, Fq.num S.fb, Fq.num (-S.fb), ip b6_6 4, Fq.num S.fc, Fq.st [.n S.fa, .n (-S.fb), .n S.fc], Fq.st [.n I.fa, .n I.fb, .n I.fc], Fq.tup2 (Fq.st [.n K1, .n K2, .n K3, .n K4]) (yT), Fq.tup2 (Fq.st [.n K1, .n K2, .n K3, .n K4]) (yT), Fq.st [.n K1, .n K2, .n K3, .n K4], yT, Fq.any, Fq.any, yT] N8 [⟨13, 14, 8, Fq.st [.n 0, .n 0, .n 0, .n 0], Fq.st [.n K1, .n K2, .n K3, .n K4], none⟩] E (fun hp => ⟨?_, ?_, ?_, ?_, ?_, ?_, ?_, ?_, ?_, ?_, ?_, ?_, ?_, ?_, ?_, ?_, tv⟩) ?_
 ·exact qa b6_6 0 0 hp (sqo 7)
 ·exact lN 0 2 hp (mq 3 rfl) zAc (sqi 0)
 ·exact qa b6_6 0 2 hp (sqo 7)
 ·exact lN 2 2 hp (mq 3 rfl) zAc (sqi 2)
 ·exact wXa (Fq.num S.fb) hp zH0 (sqi 3) fun v w h => exK (RNegV h) B11.out (by omega)
 ·exact qa b6_6 0 4 hp (sqo 7)
 ·exact lN 4 2 hp (mq 3 rfl) zAc (sqi 5)
 ·exact zF2 (z0 := S.fa) (z1 := (-S.fb)) (z2 := S.fc) hp fo tv (sqi 1) (sqi 4) (sqi 6) (fun v w h => h)
 ·exact lS 0 6 hp (mq 2 rfl) zAm (sqo 10)
 ·exact wXb (Fq.st [.n S.fa, .n (-S.fb), .n S.fc]) (Fq.st [.n I.fa, .n I.fb, .n I.fc]) hp zMs (sqi 7) (sqi 8) fun v v' w h h' => (by have hh := exPSameY h h' (zA0 FS.out.1) (zA0 B11.out) (zA0 FS.out.2.2) (zA0 FI.out.1) (zA0 FI.out.2.1) (zA0 FI.out.2.2) VI.out.2.2.2.2; rw [← EK1.out, ← EK2.out, ← EK3.out, ← EK4.out] at hh; exact hh)
 ·exact zAa hp fo tv (sqi 9)
 ·exact zCc hp fo tv (sqi 10) (fun v1 v2 w h1 h2 => ⟨_, rfl, h1⟩)
 ·exact zCc hp fo tv (sqi 10) (fun v1 v2 w h1 h2 => ⟨_, rfl, h2⟩)
 ·exact aS hp (mq 0 rfl) zB5 zEg
 ·exact sS 11 hp (mq 0 rfl) zBz
 ·exact zAh hp fo tv (sqi 12)
 intro L vs w12 nb hL hC hn E12
 have e0 := wXi hC 0
 have e2 := wXi hC 2
 have e5 := wXi hC 5
 have e12 := wXi hC 12
 have e15 := wXi hC 15
 have e13 : vs 13 = .pointer (some ⟨nb 13, 0, none⟩) := hn _ (mq 0 rfl)
 have E := E12; try simp only [LM, zAd] at E
 rw [zAe hL]
 simp only [SP, Nat.zero_add, Nat.reduceAdd]
 rw [e0, e2, e5, e12, e15, e13]
 generalize nb 13 = b12_13 at E ⊢
 generalize vs 1 = u12_1
 generalize vs 3 = u12_3
 generalize vs 4 = u12_4
 generalize vs 6 = u12_6
 generalize vs 7 = u12_7
 generalize vs 8 = u12_8
 generalize vs 9 = u12_9
 generalize vs 10 = u12_10
 generalize vs 11 = u12_11
 clear e0 e2 e5 e12 e15 e13 hC hn E12 hL vs L nb
 go_upto_region 12 with (fail)
 refine rg [ip b2 0, Fq.is (.int .i16 z), Fq.is (.int .i64 z), Fq.num z, ip b2 1, Fq.is (.int .i16 y), Fq.is (.int .i64 y), Fq.num y, Fq.any, Fq.any, Fq.any, Fq.any] N9 [⟨8, 10, 2, Fq.num 0, Fq.num z, none⟩, ⟨9, 11, 2, Fq.num 0, Fq.num y, none⟩] E (fun hp => ⟨?_, ?_, ?_, ?_, ?_, ?_, ?_, ?_, ?_, ?_, ?_, ?_, tv⟩) ?_
 ·exact zAf (F := fun v _ => v = .pointer (some ⟨b2, 0, none⟩)) hp fo tv (sqo 3) (fun ρ w hc h => ⟨.pointer (some ⟨b2, 0, none⟩), by simp [execOp, go_sem, h, hc], rfl⟩)
 ·exact wXc 0 hp (mq 7 rfl) (sqi 0)
 ·exact zAf (F := fun v _ => v = .int .i16 z) hp fo tv (sqi 1) (fun ρ w hc h => ⟨.int .i64 z, by simp [execOp, go_sem, h, IZ.out], rfl⟩)
 ·exact wXa (Fq.is (.int .i64 z)) hp zB2 (sqi 2) fun v w h => (by subst h; exact rOfK w z RZ9.out.1 RZ9.out.2)
 ·exact zAf (F := fun v _ => v = .pointer (some ⟨b2, 0, none⟩)) hp fo tv (sqo 3) (fun ρ w hc h => ⟨.pointer (some ⟨b2, 1, none⟩), by simp [execOp, go_sem, h, hc], rfl⟩)
 ·exact wXc 1 hp (mq 7 rfl) (sqi 4)
 ·exact zAf (F := fun v _ => v = .int .i16 y) hp fo tv (sqi 5) (fun ρ w hc h => ⟨.int .i64 y, by simp [execOp, go_sem, h, IY.out], rfl⟩)
 ·exact wXa (Fq.is (.int .i64 y)) hp zB2 (sqi 6) fun v w h => (by subst h; exact rOfK w y RY9.out.1 RY9.out.2)
 ·exact aN hp (mq 0 rfl)
 ·exact aN hp (mq 1 rfl)
 ·exact sN 3 hp (mq 0 rfl)
 ·exact sN 7 hp (mq 1 rfl)
 intro L vs w13 nb hL hC hn E13
 have e0 := wXi hC 0
 have e1 := wXi hC 1
 have e2 := wXi hC 2
 have e4 := wXi hC 4
 have e5 := wXi hC 5
 have e6 := wXi hC 6
 have e8 : vs 8 = .pointer (some ⟨nb 8, 0, none⟩) := hn _ (mq 0 rfl)
 have e9 : vs 9 = .pointer (some ⟨nb 9, 0, none⟩) := hn _ (mq 1 rfl)
 have E := E13; try simp only [LM, zAd] at E
 rw [zAe hL]
 simp only [SP, Nat.zero_add, Nat.reduceAdd]
 rw [e0, e1, e2, e4, e5, e6, e8, e9]
 generalize nb 8 = b13_8 at E ⊢
 generalize nb 9 = b13_9 at E ⊢
 generalize vs 3 = u13_3
 generalize vs 7 = u13_7
 clear e0 e1 e2 e4 e5 e6 e8 e9 hC hn E13 hL vs L nb
 go_upto_region 13 with (fail)
 have B14 : Hid (ab ((K1 * z)) < pw 13) := zAt BK.out.1 Bz.out (by omega)
 have B15 : Hid (ab ((K2 * y)) < pw 13) := zAt BK.out.2.1 By.out (by omega)
 have B16 : Hid (ab (((K1 * z) + (K2 * y))) < pw 14) := zA5 B14.out B15.out (by omega) (by omega)
 have B17 : Hid (ab ((K3 * z)) < pw 13) := zAt BK.out.2.2.1 Bz.out (by omega)
 have B18 : Hid (ab ((K4 * y)) < pw 13) := zAt BK.out.2.2.2 By.out (by omega)
 have B19 : Hid (ab (((K3 * z) + (K4 * y))) < pw 14) := zA5 B17.out B18.out (by omega) (by omega)
 refine rg [ip b12_13 0, Fq.num K1, Fq.num z, Fq.num (K1 * z), ip b12_13 2, Fq.num K2, Fq.num y, Fq.num (K2 * y), Fq.num ((K1 * z) + (K2 * y)), ip b12_13 4, Fq.num K3, Fq.num z, Fq.num (K3 * z), ip b12_13 6, Fq.num K4, Fq.num y, Fq.num (K4 * y), Fq.num ((K3 * z) + (K4 * y)), Fq.any, Fq.any, Fq.any, Fq.any] N11 [⟨18, 20, 2, Fq.num 0, Fq.num ((K1 * z) + (K2 * y)), none⟩, ⟨19, 21, 2, Fq.num 0, Fq.num ((K3 * z) + (K4 * y)), none⟩] E (fun hp => ⟨?_, ?_, ?_, ?_, ?_, ?_, ?_, ?_, ?_, ?_, ?_, ?_, ?_, ?_, ?_, ?_, ?_, ?_, ?_, ?_, ?_, ?_, tv⟩) ?_
 ·exact qa b12_13 0 0 hp (sqo 16)
 ·exact lN 0 2 hp (mq 2 rfl) zAc (sqi 0)
 ·exact lI 0 hp (mq 0 rfl) (sqo 18) fun us w hl h => zAp hl h
 ·exact wXb (Fq.num K1) (Fq.num z) hp zB1 (sqi 1) (sqi 2) fun v v' w h h' => exK (zBy h h') B14.out (by omega)
 ·exact qa b12_13 0 2 hp (sqo 16)
 ·exact lN 2 2 hp (mq 2 rfl) zAc (sqi 4)
 ·exact lI 0 hp (mq 1 rfl) (sqo 19) fun us w hl h => zAp hl h
 ·exact wXb (Fq.num K2) (Fq.num y) hp zB1 (sqi 5) (sqi 6) fun v v' w h h' => exK (zBy h h') B15.out (by omega)
 ·exact wXb (Fq.num (K1 * z)) (Fq.num (K2 * y)) hp zEz (sqi 3) (sqi 7) fun v v' w h h' => exK (zDn h h') B16.out (by omega)
 ·exact qa b12_13 0 4 hp (sqo 16)
 ·exact lN 4 2 hp (mq 2 rfl) zAc (sqi 9)
 ·exact lI 0 hp (mq 0 rfl) (sqo 18) fun us w hl h => zAp hl h
 ·exact wXb (Fq.num K3) (Fq.num z) hp zB1 (sqi 10) (sqi 11) fun v v' w h h' => exK (zBy h h') B17.out (by omega)
 ·exact qa b12_13 0 6 hp (sqo 16)
 ·exact lN 6 2 hp (mq 2 rfl) zAc (sqi 13)
 ·exact lI 0 hp (mq 1 rfl) (sqo 19) fun us w hl h => zAp hl h
 ·exact wXb (Fq.num K4) (Fq.num y) hp zB1 (sqi 14) (sqi 15) fun v v' w h h' => exK (zBy h h') B18.out (by omega)
 ·exact wXb (Fq.num (K3 * z)) (Fq.num (K4 * y)) hp zEz (sqi 12) (sqi 16) fun v v' w h h' => exK (zDn h h') B19.out (by omega)
 ·exact aN hp (mq 0 rfl)
 ·exact aN hp (mq 1 rfl)
 ·exact sN 8 hp (mq 0 rfl)
 ·exact sN 17 hp (mq 1 rfl)
 intro L vs w20 nb hL hC hn E20
 have e0 := wXi hC 0
 have e4 := wXi hC 4
 have e9 := wXi hC 9
 have e13 := wXi hC 13
 have e18 : vs 18 = .pointer (some ⟨nb 18, 0, none⟩) := hn _ (mq 0 rfl)
 have e19 : vs 19 = .pointer (some ⟨nb 19, 0, none⟩) := hn _ (mq 1 rfl)
 have E := E20; try simp only [LM, zAd] at E
 rw [zAe hL]
 simp only [SP, Nat.zero_add, Nat.reduceAdd]
 rw [e0, e4, e9, e13, e18, e19]
 generalize nb 18 = b20_18 at E ⊢
 generalize nb 19 = b20_19 at E ⊢
 generalize vs 1 = u20_1
 generalize vs 2 = u20_2
 generalize vs 3 = u20_3
 generalize vs 5 = u20_5
 generalize vs 6 = u20_6
 generalize vs 7 = u20_7
 generalize vs 8 = u20_8
 generalize vs 10 = u20_10
 generalize vs 11 = u20_11
 generalize vs 12 = u20_12
 generalize vs 14 = u20_14
 generalize vs 15 = u20_15
 generalize vs 16 = u20_16
 generalize vs 17 = u20_17
 clear e0 e4 e9 e13 e18 e19 hC hn E20 hL vs L nb
 go_upto_region 14 with (fail)
 have B21 : Hid (ab ((-((K3 * z) + (K4 * y)))) < pw 14) := zDo B19.out
 refine rg [yT, yT, Fq.st [.n I.fa, .n I.fb, .n I.fc], Fq.num z, Fq.num y, Fq.num V, Fq.st [.n S.fa, .n S.fb, .n S.fc], Fq.num ((K1 * z) + (K2 * y)), Fq.num ((K3 * z) + (K4 * y)), Fq.num (-((K3 * z) + (K4 * y))), Fq.num V, yT, yT, yT, yT, yT, yT] N13 [] E (fun hp => ⟨?_, ?_, ?_, ?_, ?_, ?_, ?_, ?_, ?_, ?_, ?_, ?_, ?_, ?_, ?_, ?_, ?_, tv⟩) ?_
 ·exact zAa hp fo tv (sqo 17)
 ·exact zAa hp fo tv (sqi 0)
 ·exact lG 0 6 hp gqi (mq 7 rfl) zAm (sqo 10) fun v w h => h
 ·exact zCd (off := 0) hp fo gqi (mq 2 rfl) (.inl rfl) (Nat.le_of_ble_eq_true rfl) (sqo 18) (fun us w hl h => zAp hl h)
 ·exact zCd (off := 0) hp fo gqi (mq 3 rfl) (.inl rfl) (Nat.le_of_ble_eq_true rfl) (sqo 19) (fun us w hl h => zAp hl h)
 ·exact zCb (F := (Fq.st [.n I.fa, .n I.fb, .n I.fc]).P) (G := (Fq.num z).P) (F3 := (Fq.num y).P) hp fo gqi (zGt) (sqi 2) (sqi 3) (sqi 4) (fun v v' u w h h' g => (by have hh := zGw h h' g (Int.lt_of_lt_of_le FI.out.1 (zAb (by omega))) (Int.lt_of_lt_of_le FI.out.2.1 (zAb (by omega))) (Int.lt_of_lt_of_le FI.out.2.2 (zAb (by omega))) (Int.lt_of_lt_of_le Bz.out (zAb (by omega))) (Int.lt_of_lt_of_le By.out (zAb (by omega))); rw [← EV.out] at hh; exact hh))
 ·exact lG 0 6 hp gqi (mq 8 rfl) zAm (sqo 7) fun v w h => h
 ·exact zCd (off := 0) hp fo gqi (mq 0 rfl) (.inl rfl) (Nat.le_of_ble_eq_true rfl) (sqo 20) (fun us w hl h => zAp hl h)
 ·exact zCd (off := 0) hp fo gqi (mq 1 rfl) (.inl rfl) (Nat.le_of_ble_eq_true rfl) (sqo 21) (fun us w hl h => zAp hl h)
 ·exact zAn (F := (Fq.num ((K3 * z) + (K4 * y))).P) hp fo gqi (zH0) (sqi 8) (fun v w h => exK (RNegV h) B21.out (by omega))
 ·exact zCb (F := (Fq.st [.n S.fa, .n S.fb, .n S.fc]).P) (G := (Fq.num ((K1 * z) + (K2 * y))).P) (F3 := (Fq.num (-((K3 * z) + (K4 * y)))).P) hp fo gqi (zGt) (sqi 6) (sqi 7) (sqi 9) (fun v v' u w h h' g => (by have hh := zGw h h' g (Int.lt_of_lt_of_le FS.out.1 (zAb (by omega))) (Int.lt_of_lt_of_le FS.out.2.1 (zAb (by omega))) (Int.lt_of_lt_of_le FS.out.2.2 (zAb (by omega))) (Int.lt_of_lt_of_le B16.out (zAb (by omega))) (Int.lt_of_lt_of_le B21.out (zAb (by omega))); rw [← EV2.out] at hh; exact hh))
 ·exact zAx (F := (Fq.num V).P) (G := (Fq.num V).P) hp fo gqi (zCs) (sqi 5) (sqi 10) (fun v v' w h h' => zCt h h' (decide_eq_true rfl))
 ·exact zAg (F := fun v _ => v = .bool true) (G := fun v _ => v = .bool true) hp fo tv (sqi 1) (sqi 11) (fun ρ w hc h h' => ⟨_, by simp [execOp, go_sem, h, h'], rfl⟩)
 ·exact zAa hp fo tv (sqi 12)
 ·exact zAa hp fo gqi (sqo 5)
 ·exact zAg (F := fun v _ => v = .bool true) (G := fun v _ => v = .bool true) hp fo tv (sqi 13) (sqi 14) (fun ρ w hc h h' => ⟨_, by simp [execOp, go_sem, h, h'], rfl⟩)
 ·exact zAh hp fo tv (sqi 15)
 intro L vs w22 nb hL hC hn E22
 have e0 := wXi hC 0
 have e1 := wXi hC 1
 have e11 := wXi hC 11
 have e12 := wXi hC 12
 have e13 := wXi hC 13
 have e14 := wXi hC 14
 have e15 := wXi hC 15
 have e16 := wXi hC 16
 have E := E22; try simp only [LM, zAd] at E
 rw [zAe hL]
 simp only [SP, Nat.zero_add, Nat.reduceAdd]
 rw [e0, e1, e11, e12, e13, e14, e15, e16]
 generalize vs 2 = u22_2
 generalize vs 3 = u22_3
 generalize vs 4 = u22_4
 generalize vs 5 = u22_5
 generalize vs 6 = u22_6
 generalize vs 7 = u22_7
 generalize vs 8 = u22_8
 generalize vs 9 = u22_9
 generalize vs 10 = u22_10
 clear e0 e1 e11 e12 e13 e14 e15 e16 hC hn E22 hL vs L nb
 clear EP OKP IP MP En Zn HDn ES US RS VS EI VI QS QI UK EK1 EK2 EK3 EK4 IZ IY RZ9 RY9 EV EV2
 clear B11 B14 B15 B16 B17 B18 B19 B21 BP BS FS FI BK Bz By BV
 go_wp2
 refine bodyPost_ret (v := .bool true) ?_ rfl ⟨_, rfl, E.below, rfl⟩
 simp [results, Tryz.results6, go_sem]

theorem zL7 (w : World) (D i0 i1 i2 i3 m0 m1 m2 m3 : Int) (hD : 0 ≤ D ∧ D ≤ 65535) (hi0 : 0 ≤ i0 ∧ i0 ≤ 65535) (hi1 : 0 ≤ i1 ∧ i1 ≤ 65535) (hi2 : 0 ≤ i2 ∧ i2 ≤ 65535) (hi3 : 0 ≤ i3 ∧ i3 ≤ 65535) (hm0 : 0 ≤ m0 ∧ m0 ≤ 255) (hm1 : 0 ≤ m1 ∧ m1 ≤ 255) (hm2 : 0 ≤ m2 ∧ m2 ≤ 255) (hm3 : 0 ≤ m3 ∧ m3 ≤ 255) (z y : Int) (hz : -32768 ≤ z ∧ z ≤ 32767) (hy : -32768 ≤ y ∧ y ≤ 32767) : Calls Tryz.prog 6 #[.agg #[.int .u16 D, .int .u16 i0, .int .u16 i1, .int .u16 i2, .int .u16 i3, .int .u8 m0, .int .u8 m1, .int .u8 m2, .int .u8 m3], .agg #[.int .i16 z, .int .i16 y]] w fun e w' => e = .returned (.bool true) ∧ Below w.heap.size w w' := by
 refine (zL6 w D i0 i1 i2 i3 m0 m1 m2 m3 hD hi0 hi1 hi2 hi3 hm0 hm1 hm2 hm3 z y hz hy ⟨[.int .u16 D, .int .u16 i0, .int .u16 i1, .int .u16 i2, .int .u16 i3, .int .u8 m0, .int .u8 m1, .int .u8 m2, .int .u8 m3], rfl, _, rfl, rfl, _, rfl, rfl, _, rfl, rfl, _, rfl, rfl, _, rfl, rfl, _, rfl, rfl, _, rfl, rfl, _, rfl, rfl, _, rfl, rfl, rfl⟩ ⟨[.int .i16 z, .int .i16 y], rfl, _, rfl, rfl, _, rfl, rfl, rfl⟩).mono ?_
 rintro e w' ⟨v', rfl, hb, rfl⟩
 exact ⟨rfl, hb⟩

end Go.Proofs.YtdhkhedhnolcjaaGreat
