/- Sc, Sd. -/
import Derived.Test.YtpkeeacdkkmknaaBx6
namespace Go.Proofs.Ytpkeeacdkkmknaa
open Go Go.RowKit

theorem wpList_loadSt {w : World} {ops : Array Oper} {rest : List Oper} {o : Oper} {a : Act} {Q : Exit → Act → World → Prop} (hgd : o.guard = none) (T : TypeId) (x : Operand) (ho : o.op = .load T x) {b off l : Nat} {fs : List Fd} (hT : rowB T l = true) (hl : sz fs = l)
  (hx : a.eval x = .pointer (some ⟨b, off, none⟩)) (hS : StAt w b off fs) (h : ∀ v, (Fq.st fs).P v w → wpList Try.prog ops Q rest (a.put o.dst v) w) : wpList Try.prog ops Q (o :: rest) a w := by
 refine wpList_plain hgd fun K hK => ?_
 obtain ⟨es, hfit, hat⟩ := hS
 obtain ⟨⟨dd, hu, hd'⟩, hi⟩ := rowB_of hT
 have hr : w.rangeAt b off es := by
  intro j v hv
  have hj := (List.getElem?_eq_some_iff.1 hv).1
  rw [hat j hj, List.getD, hv]
  rfl
 have := run_loadVar_mid (P := Try.prog) w b off T _ dd hr hu hd' (by rw [hfit.length, hl]; exact hi)
 unfold Oper.wp
 have e : (execOp a.eval o).run Try.prog w = .ok (.value (.agg es.toArray)) w := by
  unfold execOp
  simp only [ho, hx, Instr.loadAt, Instr.sureAddr, Sem.run_bind, Sem.run_pure, Result.andThen_ok, this]
 rw [e]
 exact hK _ _ (h _ ⟨_, rfl, hfit⟩)
theorem Fr.add {w0 W0 W : World} {bs : List (Nat × Nat × Fq)} (E : Fr w0 bs W0) (hb : Below W0.heap.size W0 W) {g m : Nat} {F : Fq} (hg : W0.heap.size ≤ g) (hB : Bq W g m F) : Fr w0 ((g, m, F) :: bs) W := by
 have h2 := E.later hb
 refine ⟨h2.below, fun x hx => ?_, ?_⟩
 ·rcases List.mem_cons.1 hx with rfl | hx
  ·exact ⟨Nat.le_trans E.below.size hg, hB⟩
  ·exact h2.boxes x hx
 ·rw [List.map_cons, List.nodup_cons]
  refine ⟨fun hm => ?_, E.apart⟩
  obtain ⟨x, hx, e⟩ := List.mem_map.1 hm
  have := (E.boxes x hx).2.lt
  omega
def rowF (pre : List Value) (fs : List Fd) : List Fd := pre.map .v ++ fs
theorem row_cut : ∀ (pre : List Value) (fs : List Fd), cutF pre.length (rowF pre fs) = some fs
 | [], _ => by unfold rowF; cases ‹List Fd› <;> rfl
 | _ :: pre, fs => row_cut pre fs
theorem row_sub {pre : List Value} {i : Nat} (h : pre.length = i * 5) (P : Pt) : subF (i * 5) 5 (rowF pre (ptF P)) = some (ptF P) := by
 unfold subF
 rw [← h, row_cut]
 rfl
theorem fits_v {w : World} : ∀ {pre : List Value}, (∀ u ∈ pre, tameB u = true) → Fits w (pre.map .v) pre
 | [], _ => rfl
 | u :: pre, h => ⟨pre, rfl, h u (List.mem_cons_self ..), fits_v fun x hx => h x (List.mem_cons_of_mem _ hx)⟩
theorem RowC.box {B : Nat} {w : World} {fss : List (List Fd)} {g n cap i : Nat} {fs : List Fd} (h : ∀ i fs, fss[i]? = some fs → ∃ pre es, pre.length = i * 5 ∧ es.length = 5 ∧ Fits w fs es ∧ At w g (pre ++ es) ∧ ∀ u ∈ pre, tameB u = true) (hi : fss[i]? = some fs) : ∃ pre, pre.length = i * 5 ∧ Bq w g (i * 5 + 5) (Fq.st (rowF pre fs)) := by
 obtain ⟨pre, es, h1, h2, h3, h4, h5⟩ := h i fs hi
 have h6 : Fits w (rowF pre fs) (pre ++ es) := (fits_v h5).append h3
 exact ⟨pre, h1, pre ++ es, by simp [h1, h2], by omega, h4, h6.tame, _, rfl, h6⟩
theorem ptsY_on {A B M : Int} (hc : curveB A B M = true) {x : Nat} (hx : (x : Int) < M) : ∀ {y : Nat}, (y : Int) ≤ M → AllOn A B M (ptsY A B M x y)
 | 0, _ => fun P hP => by simp [ptsY] at hP
 | y + 1, hy => by
  intro P hP
  rw [ptsY] at hP
  rcases List.mem_append.1 hP with hP | hP
  ·exact ptsY_on hc hx (by omega) P hP
  ·by_cases h : (y : Int) * y % M = (((x : Int) * (x * x)) + (A * x) + B) % M
   ·rw [if_pos h] at hP
    simp at hP
    subst hP
    exact on_pt (x := (x : Int)) (y := (y : Int)) hc ⟨by omega, hx⟩ ⟨by omega, by omega⟩ h
   ·rw [if_neg h] at hP
    simp at hP
theorem ptsX_on {A B M : Int} (hc : curveB A B M = true) : ∀ {x : Nat}, (x : Int) ≤ M → AllOn A B M (ptsX A B M x)
 | 0, _ => fun P hP => by simp [ptsX] at hP; subst hP; exact on_of hc (fun _ => ⟨rfl, rfl⟩) (fun e => by cases e)
 | x + 1, hx => by
  intro P hP
  rw [ptsX] at hP
  rcases List.mem_append.1 hP with hP | hP
  ·exact ptsX_on hc (by omega) P hP
  ·exact ptsY_on hc (by omega) (by omega) P hP
theorem ptsX_pos (A B M : Int) : ∀ x, 0 < (ptsX A B M x).length
 | 0 => by simp [ptsX]
 | x + 1 => by rw [ptsX, List.length_append]; have := ptsX_pos A B M x; omega
def madeP (A B M Q : Int) : Pt := (ptsX A B M M.toNat).getD (Q % ((ptsX A B M M.toNat).length : Int)).toNat ⟨0, 0, true⟩
theorem madeP_at (A B M Q : Int) : ∃ i : Nat, i < (ptsX A B M M.toNat).length ∧ Q % ((ptsX A B M M.toNat).length : Int) = i ∧ (ptsX A B M M.toNat)[i]? = some (madeP A B M Q) := by
 have h0 := ptsX_pos A B M M.toNat
 have h1 := Int.emod_nonneg Q (show ((ptsX A B M M.toNat).length : Int) ≠ 0 by omega)
 have h2 := Int.emod_lt_of_pos Q (show (0 : Int) < ((ptsX A B M M.toNat).length : Int) by omega)
 refine ⟨(Q % ((ptsX A B M M.toNat).length : Int)).toNat, by omega, by omega, ?_⟩
 unfold madeP
 rw [List.getD, List.getElem?_eq_getElem (by omega)]
 rfl
theorem madeP_on {A B M Q : Int} (hc : curveB A B M = true) (hM : 0 ≤ M) : onB A B M (madeP A B M Q).x (madeP A B M Q).y (madeP A B M Q).i = true := by
 obtain ⟨i, _, _, h⟩ := madeP_at A B M Q
 exact ptsX_on hc (by omega) _ (List.mem_of_getElem? h)
section
variable {os : List Oper} {Q : Exit → Act → World → Prop} {a : Act} {p : Pq} {B B0 : Nat} {w0 : World}
variable {i s : Nat} {d : Option Tmp} {ty : TypeId} {ps : String} {af : Array Edge} {gd : Option (Nat × Bool)}
theorem q_lenT_api_Point {x : Operand} {ad : Option Addr} {k c : Nat} (hp : p.Ok B B0) (hF : p.Free i) (hg : GdQ os a p B B0 w0 af gd) (hx : SrcQ os a p B B0 w0 af x fun v _ => v = .slice ad k c) (hC : ∀ w, (p.c i).P (.int .i64 k) w) :
  StepQ os Q a p B B0 w0 i { dst := d, op := .call { callee := .builtin .len, args := #[x], argTypes := #[34] }, type := ty, pos := ps, after := af, guard := gd } :=
 q_one hp hF hg hx fun ρ w _ h => ⟨.int .i64 k, by simp [go_sem, h], hC w⟩
theorem q_index_api_Point {b l c k : Nat} {x y : Operand} (hp : p.Ok B B0) (hF : p.Free i) (hg : GdQ os a p B B0 w0 af gd) (hx : SrcQ os a p B B0 w0 af x fun v _ => v = .slice (some ⟨b, 0, none⟩) l c) (hy : SrcQ os a p B B0 w0 af y fun v _ => v = .int .i64 k) (hk : k < l)
  (hC : ∀ w, (p.c i).P (.pointer (some ⟨b, k * 5, none⟩)) w) :
  StepQ os Q a p B B0 w0 i { dst := d, op := .indexAddr 34 x y, type := ty, pos := ps, after := af, guard := gd } :=
 q_two hp hF hg hx hy fun ρ w _ h h' => ⟨_, by
  have h0 : (k : Int) < (l : Int) := by omega
  have h1 : (0 : Int) ≤ (k : Int) := by omega
  simp [execOp, go_sem, h, h', h0, h1], hC w⟩
end
set_option maxRecDepth 100000 in
set_option maxHeartbeats 4000000 in
theorem exMade {w : World} {v : Value} {M9 A X Y Q m a x y b : Int} {P : Pt} (h : (Fq.st [.v (.int .u8 M9), .v (.int .u8 A), .v (.int .u8 X), .v (.int .u8 Y), .v (.int .u16 Q)]).P v w) (hM : 0 ≤ M9 ∧ M9 ≤ 255) (hA : 0 ≤ A ∧ A ≤ 255) (hX : 0 ≤ X ∧ X ≤ 255) (hY : 0 ≤ Y ∧ Y ≤ 255) (hQ : 0 ≤ Q ∧ Q ≤ 65535) (em : m = 5 + 2 * (M9 % 128)) (ea : a = A % m) (ex : x = X % m) (ey : y = Y % m) (eb : b = (y * y - ((x * x) + a) * x) % m) (eP : P = madeP a b m Q) :
  Calls Try.prog 21 #[v] w fun e w' => ∃ v', e = .returned v' ∧ Below w.heap.size w w' ∧ (Fq.tup3 (Fq.st [.n a, .n b, .n m]) (Fq.st [.n x, .n y, .v (.bool false)]) (Fq.st (ptF P))).P v' w' := by
 obtain ⟨r, hr⟩ : ∃ r, r = M9 % 128 := ⟨_, rfl⟩
 rw [← hr] at em
 have hr0 : 0 ≤ r ∧ r ≤ 127 := by omega
 have hm : 5 ≤ m ∧ m ≤ 259 ∧ m % 2 = 1 := by omega
 have ha0 : 0 ≤ a ∧ a < m := by rw [ea]; exact ⟨Int.emod_nonneg _ (by omega), Int.emod_lt_of_pos _ (by omega)⟩
 have hx0 : 0 ≤ x ∧ x < m := by rw [ex]; exact ⟨Int.emod_nonneg _ (by omega), Int.emod_lt_of_pos _ (by omega)⟩
 have hy0 : 0 ≤ y ∧ y < m := by rw [ey]; exact ⟨Int.emod_nonneg _ (by omega), Int.emod_lt_of_pos _ (by omega)⟩
 have hb0 : 0 ≤ b ∧ b < m := by rw [eb]; exact ⟨Int.emod_nonneg _ (by omega), Int.emod_lt_of_pos _ (by omega)⟩
 have C0 : Hid (Int.tmod M9 128 = r) := by show _ = _; rw [Int.tmod_eq_emod_of_nonneg (by omega), hr]
 have C1 : Hid (IntKind.i64.wrap (2 * r) = 2 * r) := IntWalk.i64_in _ (by omega)
 have C2 : Hid (IntKind.i64.wrap (5 + 2 * r) = m) := by show _ = _; rw [em]; exact IntWalk.i64_in _ (by omega)
 have IM : Hid (IntKind.i64.wrap M9 = M9) := IntWalk.i64_in _ (by omega)
 have IA : Hid (IntKind.i64.wrap A = A) := IntWalk.i64_in _ (by omega)
 have IX : Hid (IntKind.i64.wrap X = X) := IntWalk.i64_in _ (by omega)
 have IY : Hid (IntKind.i64.wrap Y = Y) := IntWalk.i64_in _ (by omega)
 have IQ : Hid (IntKind.i64.wrap Q = Q) := IntWalk.i64_in _ (by omega)
 have TA : Hid (Int.tmod A m = a) := by show _ = _; rw [Int.tmod_eq_emod_of_nonneg (by omega), ea]
 have TX : Hid (Int.tmod X m = x) := by show _ = _; rw [Int.tmod_eq_emod_of_nonneg (by omega), ex]
 have TY : Hid (Int.tmod Y m = y) := by show _ = _; rw [Int.tmod_eq_emod_of_nonneg (by omega), ey]
 have HM0 : Hid (¬ m = 0) := by show ¬ _; omega
 have HMM := hidd hm
 have HA0 := hidd ha0
 have HX0 := hidd hx0
 have HY0 := hidd hy0
 have HB0 := hidd hb0
 have HEB := hidd eb.symm
 obtain ⟨i, hi, hQi, hPi⟩ := madeP_at a b m Q
 rw [← eP] at hPi
 obtain ⟨nl, hnl⟩ : ∃ nl, nl = (ptsX a b m m.toNat).length := ⟨_, rfl⟩
 rw [← hnl] at hi hQi
 have HI := hidd hi
 have HNL := hidd hnl
 have HPI := hidd hPi
 have HTQ : Hid (Int.tmod Q (nl : Int) = (i : Int)) := by show _ = _; rw [Int.tmod_eq_emod_of_nonneg (by omega), hQi]
 have HLN : Hid (¬ nl = 0) := by show ¬ _; omega
 clear hr hr0 hm ha0 hx0 hy0 hb0 em ea ex ey eb eP hi hQi hPi hnl hM hA hX hY hQ
 obtain ⟨_, rfl, hf0⟩ := h
 have hF0 := hf0
 obtain ⟨_, rfl, _, _, rfl, _, _, rfl, _, _, rfl, _, _, rfl, _, rfl⟩ := hf0
 obtain ⟨w1, b1, hw1, hb1, hs1, E⟩ := fr_start w (F := Fq.st [.v (.int .u8 M9), .v (.int .u8 A), .v (.int .u8 X), .v (.int .u8 Y), .v (.int .u16 Q)]) (us := [.int .u8 M9, .int .u8 A, .int .u8 X, .int .u8 Y, .int .u16 Q]) 24 rfl (by simp) (hF0.tame) (show (Fq.st [.v (.int .u8 M9), .v (.int .u8 A), .v (.int .u8 X), .v (.int .u8 Y), .v (.int .u16 Q)]).P _ w from ⟨_, rfl, hF0⟩)
 obtain ⟨w2, b2, hw2, hb2, hs2, E⟩ := fr_more E hs1 (F := Fq.st [.n 0, .n 0, .n 0]) (us := [.bool false, .slice none 0 0, .bool false, .slice none 0 0, .bool false, .slice none 0 0]) 31 rfl (by simp) ((Fits.tame (fits0_api_Mod w))) (fits0P_api_Mod _)
 obtain ⟨w3, b3, hw3, hb3, hs3, E⟩ := fr_more E hs2 (F := Fq.st [.n 0, .n 0, .v (.bool false)]) (us := [.bool false, .slice none 0 0, .bool false, .slice none 0 0, .bool false]) 37 rfl (by simp) ((Fits.tame (fits0_api_Point w))) (fits0P_api_Point _)
 obtain ⟨w4, b4, hw4, hb4, hs4, E⟩ := fr_more E hs3 (F := Fq.st [.n 0, .n 0, .v (.bool false)]) (us := [.bool false, .slice none 0 0, .bool false, .slice none 0 0, .bool false]) 37 rfl (by simp) ((Fits.tame (fits0_api_Point w))) (fits0P_api_Point _)
 go_enter Try.func21, Try.ntmps21
 go_upto_region 1 with (fail)
 rw [← hw1]
 rw [← hw2]
 rw [← hw3]
 rw [← hw4]
 rw [← hb4]
 rw [← hb3]
 rw [← hb2]
 rw [← hb1]
 clear hw1 hw2 hw3 hw4 hb1 hb2 hb3 hb4 hs4 hs1 hs2 hs3
 refine region_fr (C := [Fq.is (.pointer (some ⟨b1, 0, none⟩)), Fq.is (.int .u8 M9), Fq.is (.int .i64 M9), Fq.is (.int .i64 r), Fq.is (.int .i64 (2 * r)), Fq.is (.int .i64 m), Fq.is (.int .i64 m)]) (ks := [none, none, none, none]) (new := []) E rfl (by kernel_rfl) rfl rfl (fun hp => ⟨?_, ?_, ?_, ?_, ?_, ?_, ?_, trivial⟩) ?_
 ·exact q_addr (b := b1) (off := 0) (off' := 0) hp (free_of rfl) trivial (sqo 1) (fun ρ w h => by simp [execOp, go_sem, h]) (fun _ => rfl)
 ·exact q_load1 (off := 0) (fs := [.v (.int .u8 M9), .v (.int .u8 A), .v (.int .u8 X), .v (.int .u8 Y), .v (.int .u16 Q)]) (u := .int .u8 M9) hp (free_of rfl) trivial (mq 3 rfl) (.inl rfl) rfl rfl (fun ρ w b h1 h2 => by simp [execOp, go_sem, h1, h2]) (sqi 0) (fun _ => rfl)
 ·exact q_one (F := fun v _ => v = .int .u8 M9) hp (free_of rfl) trivial (sqi 1) (fun ρ w hc h => ⟨.int .i64 M9, by simp [execOp, go_sem, h, IM.out], rfl⟩)
 ·exact q_one (F := fun v _ => v = .int .i64 M9) hp (free_of rfl) trivial (sqi 2) (fun ρ w hc h => ⟨.int .i64 r, by simp [execOp, go_sem, h, hc, C0.out], rfl⟩)
 ·exact q_one (F := fun v _ => v = .int .i64 r) hp (free_of rfl) trivial (sqi 3) (fun ρ w hc h => ⟨.int .i64 (2 * r), by simp [execOp, go_sem, h, hc, C1.out], rfl⟩)
 ·exact q_one (F := fun v _ => v = .int .i64 (2 * r)) hp (free_of rfl) trivial (sqi 4) (fun ρ w hc h => ⟨.int .i64 m, by simp [execOp, go_sem, h, hc, C2.out], rfl⟩)
 ·exact q_assign hp (free_of rfl) trivial (sqi 5)
 intro L vs w5 nb hL hC hn E5
 have e0 : vs 0 = .pointer (some ⟨b1, 0, none⟩) := hC 0 (by simp)
 have e1 : vs 1 = .int .u8 M9 := hC 1 (by simp)
 have e2 : vs 2 = .int .i64 M9 := hC 2 (by simp)
 have e3 : vs 3 = .int .i64 r := hC 3 (by simp)
 have e4 : vs 4 = .int .i64 (2 * r) := hC 4 (by simp)
 have e5 : vs 5 = .int .i64 m := hC 5 (by simp)
 have e6 : vs 6 = .int .i64 m := hC 6 (by simp)
 have E : Fr w [(b4, 5, Fq.st [.n 0, .n 0, .v (.bool false)]), (b3, 5, Fq.st [.n 0, .n 0, .v (.bool false)]), (b2, 6, Fq.st [.n 0, .n 0, .n 0]), (b1, 5, Fq.st [.v (.int .u8 M9), .v (.int .u8 A), .v (.int .u8 X), .v (.int .u8 Y), .v (.int .u16 Q)])] w5 := E5
 rw [lay_all hL]
 simp only [putAll, dstOf, List.length_cons, List.length_nil, Nat.zero_add, Nat.reduceAdd, List.getElem?_toArray, List.getElem?_cons_zero, List.getElem?_cons_succ, Option.bind_some, Act.put, List.setIfInBounds_toArray, List.set_cons_succ, List.set_cons_zero]
 rw [e0, e1, e2, e3, e4, e5, e6]
 clear e0 e1 e2 e3 e4 e5 e6 hC hn E5 hL vs L nb
 clear C0 C1 C2 IM
 go_upto_region 2 with (fail)
 refine region_fr (C := [Fq.is (.int .i64 m), Fq.is (.pointer (some ⟨b1, 1, none⟩)), Fq.is (.int .u8 A), Fq.is (.int .i64 A), Fq.is (.int .i64 m), Fq.is (.int .i64 a), Fq.is (.pointer (some ⟨b1, 2, none⟩)), Fq.is (.int .u8 X), Fq.is (.int .i64 X), Fq.is (.int .i64 m), Fq.is (.int .i64 x), Fq.is (.pointer (some ⟨b1, 3, none⟩)), Fq.is (.int .u8 Y), Fq.is (.int .i64 Y), Fq.is (.int .i64 m), Fq.is (.int .i64 y), Fq.st [.n a, .n b, .n m], Fq.any, Fq.any]) (ks := [none, none, none, none]) (new := [⟨17, 18, 6, Fq.st [.n 0, .n 0, .n 0], Fq.st [.n a, .n b, .n m], none⟩]) E rfl (by kernel_rfl) rfl rfl (fun hp => ⟨?_, ?_, ?_, ?_, ?_, ?_, ?_, ?_, ?_, ?_, ?_, ?_, ?_, ?_, ?_, ?_, ?_, ?_, ?_, trivial⟩) ?_
 ·exact q_move hp (free_of rfl) trivial (sqo 5)
 ·exact q_addr (b := b1) (off := 0) (off' := 1) hp (free_of rfl) trivial (sqo 1) (fun ρ w h => by simp [execOp, go_sem, h]) (fun _ => rfl)
 ·exact q_load1 (off := 1) (fs := [.v (.int .u8 M9), .v (.int .u8 A), .v (.int .u8 X), .v (.int .u8 Y), .v (.int .u16 Q)]) (u := .int .u8 A) hp (free_of rfl) trivial (mq 3 rfl) (.inl rfl) rfl rfl (fun ρ w b h1 h2 => by simp [execOp, go_sem, h1, h2]) (sqi 1) (fun _ => rfl)
 ·exact q_one (F := fun v _ => v = .int .u8 A) hp (free_of rfl) trivial (sqi 2) (fun ρ w hc h => ⟨.int .i64 A, by simp [execOp, go_sem, h, IA.out], rfl⟩)
 ·exact q_move hp (free_of rfl) trivial (sqo 5)
 ·exact q_two (F := fun v _ => v = .int .i64 A) (G := fun v _ => v = .int .i64 m) hp (free_of rfl) trivial (sqi 3) (sqi 4) (fun ρ w hc h h' => ⟨.int .i64 a, by simp [execOp, go_sem, h, h', HM0.out, TA.out], rfl⟩)
 ·exact q_addr (b := b1) (off := 0) (off' := 2) hp (free_of rfl) trivial (sqo 1) (fun ρ w h => by simp [execOp, go_sem, h]) (fun _ => rfl)
 ·exact q_load1 (off := 2) (fs := [.v (.int .u8 M9), .v (.int .u8 A), .v (.int .u8 X), .v (.int .u8 Y), .v (.int .u16 Q)]) (u := .int .u8 X) hp (free_of rfl) trivial (mq 3 rfl) (.inl rfl) rfl rfl (fun ρ w b h1 h2 => by simp [execOp, go_sem, h1, h2]) (sqi 6) (fun _ => rfl)
 ·exact q_one (F := fun v _ => v = .int .u8 X) hp (free_of rfl) trivial (sqi 7) (fun ρ w hc h => ⟨.int .i64 X, by simp [execOp, go_sem, h, IX.out], rfl⟩)
 ·exact q_move hp (free_of rfl) trivial (sqo 5)
 ·exact q_two (F := fun v _ => v = .int .i64 X) (G := fun v _ => v = .int .i64 m) hp (free_of rfl) trivial (sqi 8) (sqi 9) (fun ρ w hc h h' => ⟨.int .i64 x, by simp [execOp, go_sem, h, h', HM0.out, TX.out], rfl⟩)
 ·exact q_addr (b := b1) (off := 0) (off' := 3) hp (free_of rfl) trivial (sqo 1) (fun ρ w h => by simp [execOp, go_sem, h]) (fun _ => rfl)
 ·exact q_load1 (off := 3) (fs := [.v (.int .u8 M9), .v (.int .u8 A), .v (.int .u8 X), .v (.int .u8 Y), .v (.int .u16 Q)]) (u := .int .u8 Y) hp (free_of rfl) trivial (mq 3 rfl) (.inl rfl) rfl rfl (fun ρ w b h1 h2 => by simp [execOp, go_sem, h1, h2]) (sqi 11) (fun _ => rfl)
 ·exact q_one (F := fun v _ => v = .int .u8 Y) hp (free_of rfl) trivial (sqi 12) (fun ρ w hc h => ⟨.int .i64 Y, by simp [execOp, go_sem, h, IY.out], rfl⟩)
 ·exact q_move hp (free_of rfl) trivial (sqo 5)
 ·exact q_two (F := fun v _ => v = .int .i64 Y) (G := fun v _ => v = .int .i64 m) hp (free_of rfl) trivial (sqi 13) (sqi 14) (fun ρ w hc h h' => ⟨.int .i64 y, by simp [execOp, go_sem, h, h', HM0.out, TY.out], rfl⟩)
 ·exact q_call4 (F := (Fq.is (.int .i64 m)).P) (G := (Fq.is (.int .i64 a)).P) (F3 := (Fq.is (.int .i64 x)).P) (F4 := (Fq.is (.int .i64 y)).P) hp (free_of rfl) trivial (enq_f_algorist_algoristref06_Curve) (sqi 0) (sqi 5) (sqi 10) (sqi 15) (fun v v' u u' w h h' g g' => (by subst h h' g g'; exact exCurve (by have := HMM.out; omega) (by have := HA0.out; have := HMM.out; omega) (by have := HX0.out; have := HMM.out; omega) (by have := HY0.out; have := HMM.out; omega) HEB.out))
 ·exact q_allocSt (us := [.bool false, .slice none 0 0, .bool false, .slice none 0 0, .bool false, .slice none 0 0]) (fs := [.n 0, .n 0, .n 0]) hp (mq 0 rfl) rfl rfl rfl (Nat.lt_of_sub_eq_succ rfl) rfl fits0_api_Mod (fun ρ w => ralloc_api_Mod ρ w) rfl (Nat.ne_of_beq_eq_false rfl) (fun _ _ => trivial) (old_ne rfl) (newk_ne rfl)
 ·exact q_storeNewSt (fs := [.n 0, .n 0, .n 0]) (gs := [.n a, .n b, .n m]) hp (mq 0 rfl) rfl rfl rfl rfl size_api_Mod rfl (own_ptr rfl rfl (by simp) rfl) (sq_in 16 rfl rfl (by simp) rfl (fun v w h => fitv_st h)) (fun _ _ => trivial) (old_ne rfl) (newi_ne rfl)
 intro L vs w6 nb hL hC hn E6
 have e0 : vs 0 = .int .i64 m := hC 0 (by simp)
 have e1 : vs 1 = .pointer (some ⟨b1, 1, none⟩) := hC 1 (by simp)
 have e2 : vs 2 = .int .u8 A := hC 2 (by simp)
 have e3 : vs 3 = .int .i64 A := hC 3 (by simp)
 have e4 : vs 4 = .int .i64 m := hC 4 (by simp)
 have e5 : vs 5 = .int .i64 a := hC 5 (by simp)
 have e6 : vs 6 = .pointer (some ⟨b1, 2, none⟩) := hC 6 (by simp)
 have e7 : vs 7 = .int .u8 X := hC 7 (by simp)
 have e8 : vs 8 = .int .i64 X := hC 8 (by simp)
 have e9 : vs 9 = .int .i64 m := hC 9 (by simp)
 have e10 : vs 10 = .int .i64 x := hC 10 (by simp)
 have e11 : vs 11 = .pointer (some ⟨b1, 3, none⟩) := hC 11 (by simp)
 have e12 : vs 12 = .int .u8 Y := hC 12 (by simp)
 have e13 : vs 13 = .int .i64 Y := hC 13 (by simp)
 have e14 : vs 14 = .int .i64 m := hC 14 (by simp)
 have e15 : vs 15 = .int .i64 y := hC 15 (by simp)
 have e17 : vs 17 = .pointer (some ⟨nb 17, 0, none⟩) := hn _ (mq 0 rfl)
 have E : Fr w [(nb 17, 6, Fq.st [.n a, .n b, .n m]), (b4, 5, Fq.st [.n 0, .n 0, .v (.bool false)]), (b3, 5, Fq.st [.n 0, .n 0, .v (.bool false)]), (b2, 6, Fq.st [.n 0, .n 0, .n 0]), (b1, 5, Fq.st [.v (.int .u8 M9), .v (.int .u8 A), .v (.int .u8 X), .v (.int .u8 Y), .v (.int .u16 Q)])] w6 := E6
 rw [lay_all hL]
 simp only [putAll, dstOf, List.length_cons, List.length_nil, Nat.zero_add, Nat.reduceAdd, List.getElem?_toArray, List.getElem?_cons_zero, List.getElem?_cons_succ, Option.bind_some, Act.put, List.setIfInBounds_toArray, List.set_cons_succ, List.set_cons_zero]
 rw [e0, e1, e2, e3, e4, e5, e6, e7, e8, e9, e10, e11, e12, e13, e14, e15, e17]
 generalize nb 17 = b6_17 at E ⊢
 generalize vs 16 = u6_16
 clear e0 e1 e2 e3 e4 e5 e6 e7 e8 e9 e10 e11 e12 e13 e14 e15 e17 hC hn E6 hL vs L nb
 clear IA TA
 go_upto_region 3 with (fail)
 refine wp_region_list ?_
 refine wpList_loadSt rfl 31 (.tmp 6) rfl row_api_Mod rfl rfl (StAt.of_box (E.box 0 rfl)) fun vc hvc => ?_
 go_upto_region 4 with (first | (go_at_call 11; (with_reducible refine (exPoints hvc (by have := HMM.out; omega) HA0.out HB0.out).mono ?_); rintro e w9 ⟨vL, rfl, hBL, hL0, hL1, _, gg, cp, rfl, hgg, hrow⟩) | fail)
 first | rw [← HNL.out] | rw [List.length_map, ← HNL.out]
 obtain ⟨pre, hpre, hbox⟩ := RowC.box (B := 0) (n := 0) (cap := 0) hrow (i := i) (fs := ptF P) (by rw [List.getElem?_map, HPI.out]; rfl)
 have HPRE := hidd hpre
 replace E := Fr.add E hBL hgg hbox
 clear hvc hBL hL0 hL1 hgg hrow hbox hpre
 refine region_fr (C := [Fq.st [.n a, .n b, .n m], Fq.is (.pointer (some ⟨b1, 2, none⟩)), Fq.is (.int .u8 X), Fq.is (.int .i64 X), Fq.is (.int .i64 m), Fq.is (.int .i64 x), Fq.is (.pointer (some ⟨b1, 3, none⟩)), Fq.is (.int .u8 Y), Fq.is (.int .i64 Y), Fq.is (.int .i64 m), Fq.is (.int .i64 y), Fq.st [.n x, .n y, .v (.bool false)], Fq.is (.slice (some ⟨gg, 0, none⟩) nl cp), Fq.is (.pointer (some ⟨b1, 4, none⟩)), Fq.is (.int .u16 Q), Fq.is (.int .i64 Q), Fq.is (.slice (some ⟨gg, 0, none⟩) nl cp), Fq.is (.int .i64 ((nl : Nat) : Int)), Fq.is (.int .i64 (i : Int)), Fq.is (.pointer (some ⟨gg, i * 5, none⟩)), Fq.st [.n P.x, .n P.y, .v (.bool P.i)], Fq.any, Fq.any, Fq.any]) (ks := [none, none, some (23, Fq.st [.n P.x, .n P.y, .v (.bool P.i)]), some (22, Fq.st [.n x, .n y, .v (.bool false)]), some (21, Fq.st [.n a, .n b, .n m]), none]) (new := []) E rfl (by kernel_rfl) rfl rfl (fun hp => ⟨?_, ?_, ?_, ?_, ?_, ?_, ?_, ?_, ?_, ?_, ?_, ?_, ?_, ?_, ?_, ?_, ?_, ?_, ?_, ?_, ?_, ?_, ?_, ?_, trivial⟩) ?_
 ·exact q_loadSt (off := 0) (l := 6) (fs := [.n a, .n b, .n m]) (gs := [.n a, .n b, .n m]) hp (free_of rfl) trivial (mq 1 rfl) (.inl rfl) rfl row_api_Mod rfl (sqo 6) (fun v w h => h)
 ·exact q_addr (b := b1) (off := 0) (off' := 2) hp (free_of rfl) trivial (sqo 1) (fun ρ w h => by simp [execOp, go_sem, h]) (fun _ => rfl)
 ·exact q_load1 (off := 2) (fs := [.v (.int .u8 M9), .v (.int .u8 A), .v (.int .u8 X), .v (.int .u8 Y), .v (.int .u16 Q)]) (u := .int .u8 X) hp (free_of rfl) trivial (mq 5 rfl) (.inl rfl) rfl rfl (fun ρ w b h1 h2 => by simp [execOp, go_sem, h1, h2]) (sqi 1) (fun _ => rfl)
 ·exact q_one (F := fun v _ => v = .int .u8 X) hp (free_of rfl) trivial (sqi 2) (fun ρ w hc h => ⟨.int .i64 X, by simp [execOp, go_sem, h, IX.out], rfl⟩)
 ·exact q_move hp (free_of rfl) trivial (sqo 5)
 ·exact q_two (F := fun v _ => v = .int .i64 X) (G := fun v _ => v = .int .i64 m) hp (free_of rfl) trivial (sqi 3) (sqi 4) (fun ρ w hc h h' => ⟨.int .i64 x, by simp [execOp, go_sem, h, h', HM0.out, TX.out], rfl⟩)
 ·exact q_addr (b := b1) (off := 0) (off' := 3) hp (free_of rfl) trivial (sqo 1) (fun ρ w h => by simp [execOp, go_sem, h]) (fun _ => rfl)
 ·exact q_load1 (off := 3) (fs := [.v (.int .u8 M9), .v (.int .u8 A), .v (.int .u8 X), .v (.int .u8 Y), .v (.int .u16 Q)]) (u := .int .u8 Y) hp (free_of rfl) trivial (mq 5 rfl) (.inl rfl) rfl rfl (fun ρ w b h1 h2 => by simp [execOp, go_sem, h1, h2]) (sqi 6) (fun _ => rfl)
 ·exact q_one (F := fun v _ => v = .int .u8 Y) hp (free_of rfl) trivial (sqi 7) (fun ρ w hc h => ⟨.int .i64 Y, by simp [execOp, go_sem, h, IY.out], rfl⟩)
 ·exact q_move hp (free_of rfl) trivial (sqo 5)
 ·exact q_two (F := fun v _ => v = .int .i64 Y) (G := fun v _ => v = .int .i64 m) hp (free_of rfl) trivial (sqi 8) (sqi 9) (fun ρ w hc h h' => ⟨.int .i64 y, by simp [execOp, go_sem, h, h', HM0.out, TY.out], rfl⟩)
 ·exact q_call2 (F := (Fq.is (.int .i64 x)).P) (G := (Fq.is (.int .i64 y)).P) hp (free_of rfl) trivial (enq_f_algorist_algoristlaw06_at) (sqi 5) (sqi 10) (fun v v' w h h' => (by subst h h'; exact exAt (by have := HX0.out; have := HMM.out; omega) (by have := HY0.out; have := HMM.out; omega)))
 ·exact q_move hp (free_of rfl) trivial (sqo 7)
 ·exact q_addr (b := b1) (off := 0) (off' := 4) hp (free_of rfl) trivial (sqo 1) (fun ρ w h => by simp [execOp, go_sem, h]) (fun _ => rfl)
 ·exact q_load1 (off := 4) (fs := [.v (.int .u8 M9), .v (.int .u8 A), .v (.int .u8 X), .v (.int .u8 Y), .v (.int .u16 Q)]) (u := .int .u16 Q) hp (free_of rfl) trivial (mq 5 rfl) (.inl rfl) rfl rfl (fun ρ w b h1 h2 => by simp [execOp, go_sem, h1, h2]) (sqi 13) (fun _ => rfl)
 ·exact q_one (F := fun v _ => v = .int .u16 Q) hp (free_of rfl) trivial (sqi 14) (fun ρ w hc h => ⟨.int .i64 Q, by simp [execOp, go_sem, h, IQ.out], rfl⟩)
 ·exact q_move hp (free_of rfl) trivial (sqo 7)
 ·exact q_lenT_api_Point hp (free_of rfl) trivial (sqi 16) (fun _ => rfl)
 ·exact q_two (F := fun v _ => v = .int .i64 Q) (G := fun v _ => v = .int .i64 ((nl : Nat) : Int)) hp (free_of rfl) trivial (sqi 15) (sqi 17) (fun ρ w hc h h' => ⟨.int .i64 (i : Int), by simp [execOp, go_sem, h, h', HLN.out, HTQ.out], rfl⟩)
 ·exact q_index_api_Point (b := gg) (l := nl) (c := cp) (k := i) hp (free_of rfl) trivial (sqi 12) (sqi 18) HI.out (fun _ => rfl)
 ·exact q_loadSt (off := i * 5) (l := 5) (fs := rowF pre (ptF P)) (gs := [.n P.x, .n P.y, .v (.bool P.i)]) hp (free_of rfl) trivial (mq 0 rfl) (.inl rfl) rfl row_api_Point (row_sub HPRE.out P) (sqi 19) (fun v w h => h)
 ·exact q_storeOldSt (off := 0) (fs := [.n 0, .n 0, .n 0]) (gs := [.n a, .n b, .n m]) (fs' := [.n a, .n b, .n m]) hp (mq 4 rfl) rfl rfl rfl size_api_Mod rfl (sqo 2) (sq_in 0 rfl rfl (by simp) rfl (fun v w h => fitv_st h)) (fun _ _ => trivial) (newik_ne rfl)
 ·exact q_storeOldSt (off := 0) (fs := [.n 0, .n 0, .v (.bool false)]) (gs := [.n x, .n y, .v (.bool false)]) (fs' := [.n x, .n y, .v (.bool false)]) hp (mq 3 rfl) rfl rfl rfl size_api_Point rfl (sqo 3) (sq_in 11 rfl rfl (by simp) rfl (fun v w h => fitv_st h)) (fun _ _ => trivial) (newik_ne rfl)
 ·exact q_storeOldSt (off := 0) (fs := [.n 0, .n 0, .v (.bool false)]) (gs := [.n P.x, .n P.y, .v (.bool P.i)]) (fs' := [.n P.x, .n P.y, .v (.bool P.i)]) hp (mq 2 rfl) rfl rfl rfl size_api_Point rfl (sqo 4) (sq_in 20 rfl rfl (by simp) rfl (fun v w h => fitv_st h)) (fun _ _ => trivial) (newik_ne rfl)
 intro L vs w7 nb hL hC hn E7
 have e1 : vs 1 = .pointer (some ⟨b1, 2, none⟩) := hC 1 (by simp)
 have e2 : vs 2 = .int .u8 X := hC 2 (by simp)
 have e3 : vs 3 = .int .i64 X := hC 3 (by simp)
 have e4 : vs 4 = .int .i64 m := hC 4 (by simp)
 have e5 : vs 5 = .int .i64 x := hC 5 (by simp)
 have e6 : vs 6 = .pointer (some ⟨b1, 3, none⟩) := hC 6 (by simp)
 have e7 : vs 7 = .int .u8 Y := hC 7 (by simp)
 have e8 : vs 8 = .int .i64 Y := hC 8 (by simp)
 have e9 : vs 9 = .int .i64 m := hC 9 (by simp)
 have e10 : vs 10 = .int .i64 y := hC 10 (by simp)
 have e12 : vs 12 = .slice (some ⟨gg, 0, none⟩) nl cp := hC 12 (by simp)
 have e13 : vs 13 = .pointer (some ⟨b1, 4, none⟩) := hC 13 (by simp)
 have e14 : vs 14 = .int .u16 Q := hC 14 (by simp)
 have e15 : vs 15 = .int .i64 Q := hC 15 (by simp)
 have e16 : vs 16 = .slice (some ⟨gg, 0, none⟩) nl cp := hC 16 (by simp)
 have e17 : vs 17 = .int .i64 ((nl : Nat) : Int) := hC 17 (by simp)
 have e18 : vs 18 = .int .i64 (i : Int) := hC 18 (by simp)
 have e19 : vs 19 = .pointer (some ⟨gg, i * 5, none⟩) := hC 19 (by simp)
 have E : Fr w [(gg, (i * 5 + 5), Fq.st (rowF pre (ptF P))), (b6_17, 6, Fq.st [.n a, .n b, .n m]), (b4, 5, Fq.st [.n P.x, .n P.y, .v (.bool P.i)]), (b3, 5, Fq.st [.n x, .n y, .v (.bool false)]), (b2, 6, Fq.st [.n a, .n b, .n m]), (b1, 5, Fq.st [.v (.int .u8 M9), .v (.int .u8 A), .v (.int .u8 X), .v (.int .u8 Y), .v (.int .u16 Q)])] w7 := E7
 rw [lay_all hL]
 simp only [putAll, dstOf, List.length_cons, List.length_nil, Nat.zero_add, Nat.reduceAdd, List.getElem?_toArray, List.getElem?_cons_zero, List.getElem?_cons_succ, Option.bind_some, Act.put, List.setIfInBounds_toArray, List.set_cons_succ, List.set_cons_zero]
 rw [e1, e2, e3, e4, e5, e6, e7, e8, e9, e10, e12, e13, e14, e15, e16, e17, e18, e19]
 generalize vs 0 = u7_0
 generalize vs 11 = u7_11
 generalize vs 20 = u7_20
 clear e1 e2 e3 e4 e5 e6 e7 e8 e9 e10 e12 e13 e14 e15 e16 e17 e18 e19 hC hn E7 hL vs L nb
 clear IX IY IQ TX TY HM0 HMM HA0 HX0 HY0 HB0 HEB HI HNL HPI HTQ HLN HPRE
 obtain ⟨_, _, hcr, hfr⟩ := box_st (E.box 4 rfl)
 have hRr := hfr
 obtain ⟨r_p0, r_q0, _, rfl, _r_n0, r_p1, r_q1, _, rfl, _r_n1, r_p2, r_q2, _, rfl, _r_n2, rfl⟩ := hfr
 have cr0 := hcr 0 (by simp)
 have cr1 := hcr 1 (by simp)
 have cr2 := hcr 2 (by simp)
 have cr3 := hcr 3 (by simp)
 have cr4 := hcr 4 (by simp)
 have cr5 := hcr 5 (by simp)
 simp only [List.getD_cons_zero, List.getD_cons_succ] at cr0 cr1 cr2 cr3 cr4 cr5
 clear hcr
 obtain ⟨_, _, hcq, hfq⟩ := box_st (E.box 3 rfl)
 have hRq := hfq
 obtain ⟨q_p0, q_q0, _, rfl, _q_n0, q_p1, q_q1, _, rfl, _q_n1, _, rfl, _, rfl⟩ := hfq
 have cq0 := hcq 0 (by simp)
 have cq1 := hcq 1 (by simp)
 have cq2 := hcq 2 (by simp)
 have cq3 := hcq 3 (by simp)
 have cq4 := hcq 4 (by simp)
 simp only [List.getD_cons_zero, List.getD_cons_succ] at cq0 cq1 cq2 cq3 cq4
 clear hcq
 obtain ⟨_, _, hct, hft⟩ := box_st (E.box 2 rfl)
 have hRt := hft
 obtain ⟨t_p0, t_q0, _, rfl, _t_n0, t_p1, t_q1, _, rfl, _t_n1, _, rfl, _, rfl⟩ := hft
 have ct0 := hct 0 (by simp)
 have ct1 := hct 1 (by simp)
 have ct2 := hct 2 (by simp)
 have ct3 := hct 3 (by simp)
 have ct4 := hct 4 (by simp)
 simp only [List.getD_cons_zero, List.getD_cons_succ] at ct0 ct1 ct2 ct3 ct4
 clear hct
 go_wp2
 refine bodyPost_ret (v := .tuple #[.agg #[r_p0, r_q0, r_p1, r_q1, r_p2, r_q2], .agg #[q_p0, q_q0, q_p1, q_q1, .bool false], .agg #[t_p0, t_q0, t_p1, t_q1, .bool P.i]]) ?_ rfl ⟨_, rfl, E.below, _, _, _, rfl, ⟨_, rfl, hRr⟩, ⟨_, rfl, hRq⟩, ⟨_, rfl, hRt⟩⟩
 simp [results, Try.results21, go_sem, cr0, cr1, cr2, cr3, cr4, cr5, cq0, cq1, cq2, cq3, cq4, ct0, ct1, ct2, ct3, ct4]

end Go.Proofs.Ytpkeeacdkkmknaa

namespace Go.Proofs.Ytpkeeacdkkmknaa
open Go Go.RowKit

def SOK (A B M : Int) (S : Pt) (d e : Int) : Prop := (e = 0 ∧ d = 0 ∧ onB A B M S.x S.y S.i = true) ∨ (e = 6 ∧ PDiv M d)
theorem pdiv_ab {M d : Int} (hM : M ≤ 259) (h : PDiv M d) : ab d < pw 5 := ab5 (by have := h.1; have := h.2.1; omega)
theorem add_sok {A B M : Int} {P Q : Pt} (hm : 0 ≤ M ∧ M ≤ 259) (h : onB A B M P.x P.y P.i = true) (h' : onB A B M Q.x Q.y Q.i = true) : ∃ S d e, addS A B M P Q = (S, d, e) ∧ SOK A B M S d e ∧ ((ab S.x < pw 5 ∧ ab S.y < pw 5) ∧ ab d < pw 5) := by
 rcases add_cases h h' with ⟨d, h1, h2⟩ | ⟨T, h1, h2, _⟩
 ·exact ⟨_, _, _, h1, .inr ⟨rfl, h2⟩, ⟨ab5 (by decide), ab5 (by decide)⟩, pdiv_ab hm.2 h2⟩
 ·exact ⟨_, _, _, h1, .inl ⟨rfl, rfl, h2⟩, (onB_ok h2).1.ab (ab5 (by omega)), ab5 (by decide)⟩
theorem times_sok {A B M n : Int} {P : Pt} (hm : 0 ≤ M ∧ M ≤ 259) (h : onB A B M P.x P.y P.i = true) : ∃ S d e, timesS A B M n P = (S, d, e) ∧ SOK A B M S d e ∧ ((ab S.x < pw 5 ∧ ab S.y < pw 5) ∧ ab d < pw 5) := by
 rcases times_cases h with ⟨d, h1, h2⟩ | ⟨T, h1, h2⟩
 ·exact ⟨_, _, _, h1, .inr ⟨rfl, h2⟩, ⟨ab5 (by decide), ab5 (by decide)⟩, pdiv_ab hm.2 h2⟩
 ·exact ⟨_, _, _, h1, .inl ⟨rfl, rfl, h2⟩, (onB_ok h2).1.ab (ab5 (by omega)), ab5 (by decide)⟩
theorem row_algoristlaw06_Curve : rowB 24 5 = true := by kernel_rfl
section
variable {os : List Oper} {Q : Exit → Act → World → Prop} {a : Act} {p : Pq} {B B0 : Nat} {w0 : World}
variable {i s : Nat} {d : Option Tmp} {ty : TypeId} {ps : String} {af : Array Edge} {gd : Option (Nat × Bool)}
theorem q_lenT_algoristref06_Sum {x : Operand} {ad : Option Addr} {k c : Nat} (hp : p.Ok B B0) (hF : p.Free i) (hg : GdQ os a p B B0 w0 af gd) (hx : SrcQ os a p B B0 w0 af x fun v _ => v = .slice ad k c) (hC : ∀ w, (p.c i).P (.int .i64 k) w) :
  StepQ os Q a p B B0 w0 i { dst := d, op := .call { callee := .builtin .len, args := #[x], argTypes := #[56] }, type := ty, pos := ps, after := af, guard := gd } :=
 q_one hp hF hg hx fun ρ w _ h => ⟨.int .i64 k, by simp [go_sem, h], hC w⟩
theorem q_buildSums4 {n0 : Nb} {o1 o2 o3 o4 : Operand} {x1 y1 : Int} {i1 : Bool} {d1 e1 : Int} {x2 y2 : Int} {i2 : Bool} {d2 e2 : Int} {x3 y3 : Int} {i3 : Bool} {d3 e3 : Int} {x4 y4 : Int} {i4 : Bool} {d4 e4 : Int} (hp : p.Ok B B0) (hg : GdQ os a p B B0 w0 af gd) (hi : n0 ∈ p.new) (hii : n0.i = i) (hki : n0.k = i) (hsl : n0.s = some 4) (hm : n0.m = 32) (hF1 : n0.F1 = Fq.st [.n x1, .n y1, .v (.bool i1), .n d1, .v (.int .i64 e1), .n x2, .n y2, .v (.bool i2), .n d2, .v (.int .i64 e2), .n x3, .n y3, .v (.bool i3), .n d3, .v (.int .i64 e3), .n x4, .n y4, .v (.bool i4), .n d4, .v (.int .i64 e4)])
  (g1 : SrcQ os a p B B0 w0 af o1 (Fq.st [.n x1, .n y1, .v (.bool i1), .n d1, .v (.int .i64 e1)]).P)
  (g2 : SrcQ os a p B B0 w0 af o2 (Fq.st [.n x2, .n y2, .v (.bool i2), .n d2, .v (.int .i64 e2)]).P)
  (g3 : SrcQ os a p B B0 w0 af o3 (Fq.st [.n x3, .n y3, .v (.bool i3), .n d3, .v (.int .i64 e3)]).P)
  (g4 : SrcQ os a p B B0 w0 af o4 (Fq.st [.n x4, .n y4, .v (.bool i4), .n d4, .v (.int .i64 e4)]).P)
  (hC : ∀ v w', (p.c i).P v w') (h1 : ∀ o ∈ p.old, o.k ≠ i) (h2 : ∀ n ∈ p.new, n.i ≠ i → n.k ≠ i) :
  StepQ os Q a p B B0 w0 i { dst := d, op := .buildSlice 56 4 #[(0, o1), (1, o2), (2, o3), (3, o4)], type := ty, pos := ps, after := af, guard := gd } := by
 intro hio L vs w hG hL hd hc
 obtain ⟨_, E1, f1⟩ := g1 L vs w hG hd
 have z1 := f1
 obtain ⟨_, _, _, rfl, p1, _, _, _, rfl, v1, _, rfl, _, _, _, _, rfl, s1, _, rfl, _, rfl⟩ := f1
 obtain ⟨m1, ao1, k1, c1, wp1⟩ := p1.parts
 injection wp1 with wp1
 have wp1 := congrArg Array.toList wp1
 simp at wp1
 obtain ⟨rfl, rfl⟩ := wp1
 obtain ⟨n1, bo1, l1, q1, wv1⟩ := v1.parts
 injection wv1 with wv1
 have wv1 := congrArg Array.toList wv1
 simp at wv1
 obtain ⟨rfl, rfl⟩ := wv1
 obtain ⟨r1, so1, t1, u1, ws1⟩ := s1.parts
 injection ws1 with ws1
 have ws1 := congrArg Array.toList ws1
 simp at ws1
 obtain ⟨rfl, rfl⟩ := ws1
 obtain ⟨_, E2, f2⟩ := g2 L vs w hG hd
 have z2 := f2
 obtain ⟨_, _, _, rfl, p2, _, _, _, rfl, v2, _, rfl, _, _, _, _, rfl, s2, _, rfl, _, rfl⟩ := f2
 obtain ⟨m2, ao2, k2, c2, wp2⟩ := p2.parts
 injection wp2 with wp2
 have wp2 := congrArg Array.toList wp2
 simp at wp2
 obtain ⟨rfl, rfl⟩ := wp2
 obtain ⟨n2, bo2, l2, q2, wv2⟩ := v2.parts
 injection wv2 with wv2
 have wv2 := congrArg Array.toList wv2
 simp at wv2
 obtain ⟨rfl, rfl⟩ := wv2
 obtain ⟨r2, so2, t2, u2, ws2⟩ := s2.parts
 injection ws2 with ws2
 have ws2 := congrArg Array.toList ws2
 simp at ws2
 obtain ⟨rfl, rfl⟩ := ws2
 obtain ⟨_, E3, f3⟩ := g3 L vs w hG hd
 have z3 := f3
 obtain ⟨_, _, _, rfl, p3, _, _, _, rfl, v3, _, rfl, _, _, _, _, rfl, s3, _, rfl, _, rfl⟩ := f3
 obtain ⟨m3, ao3, k3, c3, wp3⟩ := p3.parts
 injection wp3 with wp3
 have wp3 := congrArg Array.toList wp3
 simp at wp3
 obtain ⟨rfl, rfl⟩ := wp3
 obtain ⟨n3, bo3, l3, q3, wv3⟩ := v3.parts
 injection wv3 with wv3
 have wv3 := congrArg Array.toList wv3
 simp at wv3
 obtain ⟨rfl, rfl⟩ := wv3
 obtain ⟨r3, so3, t3, u3, ws3⟩ := s3.parts
 injection ws3 with ws3
 have ws3 := congrArg Array.toList ws3
 simp at ws3
 obtain ⟨rfl, rfl⟩ := ws3
 obtain ⟨_, E4, f4⟩ := g4 L vs w hG hd
 have z4 := f4
 obtain ⟨_, _, _, rfl, p4, _, _, _, rfl, v4, _, rfl, _, _, _, _, rfl, s4, _, rfl, _, rfl⟩ := f4
 obtain ⟨m4, ao4, k4, c4, wp4⟩ := p4.parts
 injection wp4 with wp4
 have wp4 := congrArg Array.toList wp4
 simp at wp4
 obtain ⟨rfl, rfl⟩ := wp4
 obtain ⟨n4, bo4, l4, q4, wv4⟩ := v4.parts
 injection wv4 with wv4
 have wv4 := congrArg Array.toList wv4
 simp at wv4
 obtain ⟨rfl, rfl⟩ := wv4
 obtain ⟨r4, so4, t4, u4, ws4⟩ := s4.parts
 injection ws4 with ws4
 have ws4 := congrArg Array.toList ws4
 simp at ws4
 obtain ⟨rfl, rfl⟩ := ws4
 obtain ⟨us, hus⟩ : ∃ us : List Value, us = [.bool m1, .slice ao1 k1 c1, .bool n1, .slice bo1 l1 q1, .bool i1, .bool r1, .slice so1 t1 u1, .int .i64 e1, .bool m2, .slice ao2 k2 c2, .bool n2, .slice bo2 l2 q2, .bool i2, .bool r2, .slice so2 t2 u2, .int .i64 e2, .bool m3, .slice ao3 k3 c3, .bool n3, .slice bo3 l3 q3, .bool i3, .bool r3, .slice so3 t3 u3, .int .i64 e3, .bool m4, .slice ao4 k4 c4, .bool n4, .slice bo4 l4 q4, .bool i4, .bool r4, .slice so4 t4 u4, .int .i64 e4] := ⟨_, rfl⟩
 refine wpOp_step hio fun K' hK => ?_
 rw [if_pos (wanted_of (o := { dst := d, op := .buildSlice 56 4 #[(0, o1), (1, o2), (2, o3), (3, o4)], type := ty, pos := ps, after := af, guard := gd }) hg hG hd)]
 have e : (execOp (lay os.toArray L vs os.toArray.size a).eval ({ dst := d, op := .buildSlice 56 4 #[(0, o1), (1, o2), (2, o3), (3, o4)], type := ty, pos := ps, after := af, guard := gd } : Oper)).run Try.prog w = .ok (.value (.slice (some ⟨w.heap.size, 0, none⟩) 4 4)) (w.alloc (.cells us.toArray 41)) := by
  generalize (lay os.toArray L vs os.toArray.size a).eval = ρ at E1 E2 E3 E4
  simp [execOp, go_sem, E1, E2, E3, E4, hus]
 unfold Oper.wp
 rw [e]
 have hb := alloc_below w (.cells us.toArray 41)
 have hfit : Fits w [.n x1, .n y1, .v (.bool i1), .n d1, .v (.int .i64 e1), .n x2, .n y2, .v (.bool i2), .n d2, .v (.int .i64 e2), .n x3, .n y3, .v (.bool i3), .n d3, .v (.int .i64 e3), .n x4, .n y4, .v (.bool i4), .n d4, .v (.int .i64 e4)] us := by rw [hus]; exact z1.append (z2.append (z3.append z4))
 subst hii
 have hnow : n0.now (up L n0.i true) = n0.F1 := by
  unfold Nb.now
  rw [hsl]
  rfl
 have hlay := hG.lay hp hi (F := n0.F1) hnow hC h1 h2 41 (us := us) (by rw [hus, hm]; rfl) (by omega) hfit.tame (by rw [hF1]; exact ⟨us, rfl, hfit.mono hb⟩)
 have hptr : n0.ptr w.heap.size = .slice (some ⟨w.heap.size, 0, none⟩) 4 4 := by unfold Nb.ptr; rw [hsl]
 rw [hptr] at hlay
 exact hK _ _ ⟨_, rfl, hlay⟩
end
set_option maxRecDepth 100000 in
set_option maxHeartbeats 4000000 in
theorem PointDivides_any (w : World) {v : Value} {M9 A X Y Q : Int} (h : (Fq.st [.v (.int .u8 M9), .v (.int .u8 A), .v (.int .u8 X), .v (.int .u8 Y), .v (.int .u16 Q)]).P v w) (hM : 0 ≤ M9 ∧ M9 ≤ 255) (hA : 0 ≤ A ∧ A ≤ 255) (hX : 0 ≤ X ∧ X ≤ 255) (hY : 0 ≤ Y ∧ Y ≤ 255) (hQ : 0 ≤ Q ∧ Q ≤ 65535) (neg : Bool) (ao : Option Addr) (n c : Nat) (xs : List Int) (hS : Sl w ao n c xs) (hn : n ≤ 9223372036854775807) :
  Calls Try.prog 5 #[v, .agg #[.bool neg, .slice ao n c]] w fun e w' => ∃ v', e = .returned v' ∧ Below w.heap.size w w' ∧ v' = .bool true := by
 obtain ⟨m, em⟩ : ∃ m, m = 5 + 2 * (M9 % 128) := ⟨_, rfl⟩
 have hm : 5 ≤ m ∧ m ≤ 259 ∧ m % 2 = 1 := by omega
 obtain ⟨a, ea⟩ : ∃ a, a = A % m := ⟨_, rfl⟩
 obtain ⟨x, ex⟩ : ∃ x, x = X % m := ⟨_, rfl⟩
 obtain ⟨y, ey⟩ : ∃ y, y = Y % m := ⟨_, rfl⟩
 obtain ⟨b, eb⟩ : ∃ b, b = (y * y - ((x * x) + a) * x) % m := ⟨_, rfl⟩
 obtain ⟨T, eT⟩ : ∃ T, T = madeP a b m Q := ⟨_, rfl⟩
 obtain ⟨N, eN⟩ : ∃ N, N = sgn neg (val (xs.take 2)) := ⟨_, rfl⟩
 have ha0 : 0 ≤ a ∧ a < m := by rw [ea]; exact ⟨Int.emod_nonneg _ (by omega), Int.emod_lt_of_pos _ (by omega)⟩
 have hx0 : 0 ≤ x ∧ x < m := by rw [ex]; exact ⟨Int.emod_nonneg _ (by omega), Int.emod_lt_of_pos _ (by omega)⟩
 have hy0 : 0 ≤ y ∧ y < m := by rw [ey]; exact ⟨Int.emod_nonneg _ (by omega), Int.emod_lt_of_pos _ (by omega)⟩
 have hb0 : 0 ≤ b ∧ b < m := by rw [eb]; exact ⟨Int.emod_nonneg _ (by omega), Int.emod_lt_of_pos _ (by omega)⟩
 have hc : curveB a b m = true := by simp only [curveB, resB, Bool.and_eq_true, decide_eq_true_eq]; omega
 have hon1 : onB a b m x y false = true := by rw [eb]; exact curve_on (by omega) hm.2.2 ha0 hx0 hy0
 have hon2 : onB a b m T.x T.y T.i = true := by rw [eT]; exact madeP_on hc (by omega)
 have BM : Hid (ab m < pw 5) := ab5 (by omega)
 have BA : Hid (ab a < pw 5) := ab5 (by omega)
 have BB : Hid (ab b < pw 5) := ab5 (by omega)
 have BP : Hid (ab x < pw 5 ∧ ab y < pw 5) := ⟨ab5 (by omega), ab5 (by omega)⟩
 have BT : Hid (ab T.x < pw 5 ∧ ab T.y < pw 5) := (onB_ok hon2).1.ab BM.out
 have BN : Hid (ab N < pw 20) := by show _ < _; rw [eN]; exact Int.lt_of_lt_of_le (Num.ofMade hS.digs) (pw_le (by omega))
 have hmm : 0 ≤ m ∧ m ≤ 259 := by omega
 obtain ⟨S0, d0, er0, h0, K0, B0⟩ := add_sok (P := ⟨x, y, false⟩) (Q := T) hmm hon1 hon2
 obtain ⟨S1, d1, er1, h1, K1, B1⟩ := add_sok (P := T) (Q := T) hmm hon2 hon2
 obtain ⟨S2, d2, er2, h2, K2, B2⟩ := times_sok (n := N) (P := ⟨x, y, false⟩) hmm hon1
 obtain ⟨S3, d3, er3, h3, K3, B3⟩ := times_sok (n := N) (P := T) hmm hon2
 have G0 := hidd h0
 have G1 := hidd h1
 have G2 := hidd h2
 have G3 := hidd h3
 replace K0 := hidd K0
 replace K1 := hidd K1
 replace K2 := hidd K2
 replace K3 := hidd K3
 replace B0 := hidd B0
 replace B1 := hidd B1
 replace B2 := hidd B2
 replace B3 := hidd B3
 have EM := hidd em
 have EA := hidd ea
 have EX := hidd ex
 have EY := hidd ey
 have EB := hidd eb
 have ET := hidd eT
 have EN := hidd eN
 have HHM := hidd hM
 have HHA := hidd hA
 have HHX := hidd hX
 have HHY := hidd hY
 have HHQ := hidd hQ
 have HKN := hidd hn
 have HM0 : Hid (0 < m) := by show 0 < m; omega
 clear h0 h1 h2 h3 em ea ex ey eb eT eN hM hA hX hY hQ hn hm ha0 hx0 hy0 hb0 hc hon1 hon2 hmm
 obtain ⟨_, rfl, hf0⟩ := h
 have hF0 := hf0
 obtain ⟨_, rfl, _, _, rfl, _, _, rfl, _, _, rfl, _, _, rfl, _, rfl⟩ := hf0
 obtain ⟨w1, b1, hw1, hb1, hs1, E⟩ := fr_start w (F := Fq.st [.v (.int .u8 M9), .v (.int .u8 A), .v (.int .u8 X), .v (.int .u8 Y), .v (.int .u16 Q)]) (us := [.int .u8 M9, .int .u8 A, .int .u8 X, .int .u8 Y, .int .u16 Q]) 24 rfl (by simp) (hF0.tame) (show (Fq.st [.v (.int .u8 M9), .v (.int .u8 A), .v (.int .u8 X), .v (.int .u8 Y), .v (.int .u16 Q)]).P _ w from ⟨_, rfl, hF0⟩)
 obtain ⟨w2, b2, hw2, hb2, hs2, E⟩ := fr_more E hs1 (F := Fq.raw neg ao n c xs) (us := [.bool neg, .slice ao n c]) 49 rfl (by simp) (tame_int _ _ _ _) ((Fq.raw neg ao n c xs).mono (show (Fq.raw neg ao n c xs).P _ w from ⟨rfl, hS⟩) E.below)
 go_enter Try.func5, Try.ntmps5
 go_upto_region 1 with (fail)
 rw [← hw1]
 rw [← hw2]
 rw [← hb2]
 rw [← hb1]
 clear hw1 hw2 hb1 hb2 hs2 hs1
 refine region_fr (C := [Fq.is (.bool true), Fq.is (.bool true)]) (ks := [none, none]) (new := []) E rfl (by kernel_rfl) rfl rfl (fun hp => ⟨?_, ?_, trivial⟩) ?_
 ·exact q_call0 hp (free_of rfl) trivial (enq_f_algorist_algoristlaw06_examples) (fun w => exSixExamples w)
 ·exact q_assign hp (free_of rfl) trivial (sqi 0)
 intro L vs w3 nb hL hC hn E3
 have e0 : vs 0 = .bool true := hC 0 (by simp)
 have e1 : vs 1 = .bool true := hC 1 (by simp)
 have E : Fr w [(b2, 2, Fq.raw neg ao n c xs), (b1, 5, Fq.st [.v (.int .u8 M9), .v (.int .u8 A), .v (.int .u8 X), .v (.int .u8 Y), .v (.int .u16 Q)])] w3 := E3
 rw [lay_all hL]
 simp only [putAll, dstOf, List.length_cons, List.length_nil, Nat.zero_add, Nat.reduceAdd, List.getElem?_toArray, List.getElem?_cons_zero, List.getElem?_cons_succ, Option.bind_some, Act.put, List.setIfInBounds_toArray, List.set_cons_succ, List.set_cons_zero]
 rw [e0, e1]
 clear e0 e1 hC hn E3 hL vs L nb
 go_upto_region 2 with (fail)
 refine region_fr (C := [Fq.is (.bool true), Fq.is (.bool false)]) (ks := [none, none]) (new := []) E rfl (by kernel_rfl) rfl rfl (fun hp => ⟨?_, ?_, trivial⟩) ?_
 ·exact q_move hp (free_of rfl) trivial (sqo 5)
 ·exact q_one (F := fun v _ => v = .bool true) hp (free_of rfl) trivial (sqi 0) (fun ρ w _ h => ⟨.bool false, by simp [execOp, go_sem, h], rfl⟩)
 intro L vs w4 nb hL hC hn E4
 have e0 : vs 0 = .bool true := hC 0 (by simp)
 have e1 : vs 1 = .bool false := hC 1 (by simp)
 have E : Fr w [(b2, 2, Fq.raw neg ao n c xs), (b1, 5, Fq.st [.v (.int .u8 M9), .v (.int .u8 A), .v (.int .u8 X), .v (.int .u8 Y), .v (.int .u16 Q)])] w4 := E4
 rw [lay_all hL]
 simp only [putAll, dstOf, List.length_cons, List.length_nil, Nat.zero_add, Nat.reduceAdd, List.getElem?_toArray, List.getElem?_cons_zero, List.getElem?_cons_succ, Option.bind_some, Act.put, List.setIfInBounds_toArray, List.set_cons_succ, List.set_cons_zero]
 rw [e0, e1]
 clear e0 e1 hC hn E4 hL vs L nb
 go_upto_region 4 with (fail)
 refine region_fr (C := [Fq.st [.v (.int .u8 M9), .v (.int .u8 A), .v (.int .u8 X), .v (.int .u8 Y), .v (.int .u16 Q)], Fq.tup3 (Fq.st [.n a, .n b, .n m]) (Fq.st [.n x, .n y, .v (.bool false)]) (Fq.st [.n T.x, .n T.y, .v (.bool T.i)]), Fq.tup3 (Fq.st [.n a, .n b, .n m]) (Fq.st [.n x, .n y, .v (.bool false)]) (Fq.st [.n T.x, .n T.y, .v (.bool T.i)]), Fq.st [.n a, .n b, .n m], Fq.st [.n x, .n y, .v (.bool false)], Fq.st [.n T.x, .n T.y, .v (.bool T.i)], Fq.any, Fq.any, Fq.any, Fq.any, Fq.any, Fq.any]) (ks := [none, none]) (new := [⟨6, 9, 6, Fq.st [.n 0, .n 0, .n 0], Fq.st [.n a, .n b, .n m], none⟩, ⟨7, 10, 5, Fq.st [.n 0, .n 0, .v (.bool false)], Fq.st [.n x, .n y, .v (.bool false)], none⟩, ⟨8, 11, 5, Fq.st [.n 0, .n 0, .v (.bool false)], Fq.st [.n T.x, .n T.y, .v (.bool T.i)], none⟩]) E rfl (by kernel_rfl) rfl rfl (fun hp => ⟨?_, ?_, ?_, ?_, ?_, ?_, ?_, ?_, ?_, ?_, ?_, ?_, trivial⟩) ?_
 ·exact q_loadSt (off := 0) (l := 5) (fs := [.v (.int .u8 M9), .v (.int .u8 A), .v (.int .u8 X), .v (.int .u8 Y), .v (.int .u16 Q)]) (gs := [.v (.int .u8 M9), .v (.int .u8 A), .v (.int .u8 X), .v (.int .u8 Y), .v (.int .u16 Q)]) hp (free_of rfl) trivial (mq 1 rfl) (.inl rfl) rfl row_algoristlaw06_Curve rfl (sqo 2) (fun v w h => h)
 ·exact q_call1 (F := (Fq.st [.v (.int .u8 M9), .v (.int .u8 A), .v (.int .u8 X), .v (.int .u8 Y), .v (.int .u16 Q)]).P) hp (free_of rfl) trivial (enq_f_algorist_algoristlaw06_made) (sqi 0) (fun v w h => exMade h HHM.out HHA.out HHX.out HHY.out HHQ.out EM.out EA.out EX.out EY.out EB.out ET.out)
 ·exact q_move hp (free_of rfl) trivial (sqi 1)
 ·exact q_extract3 hp (free_of rfl) trivial (sqi 2) (fun v1 v2 v3 w h1 h2 h3 => ⟨_, rfl, h1⟩)
 ·exact q_extract3 hp (free_of rfl) trivial (sqi 2) (fun v1 v2 v3 w h1 h2 h3 => ⟨_, rfl, h2⟩)
 ·exact q_extract3 hp (free_of rfl) trivial (sqi 2) (fun v1 v2 v3 w h1 h2 h3 => ⟨_, rfl, h3⟩)
 ·exact q_allocSt (us := [.bool false, .slice none 0 0, .bool false, .slice none 0 0, .bool false, .slice none 0 0]) (fs := [.n 0, .n 0, .n 0]) hp (mq 0 rfl) rfl rfl rfl (Nat.lt_of_sub_eq_succ rfl) rfl fits0_api_Mod (fun ρ w => ralloc_api_Mod ρ w) rfl (Nat.ne_of_beq_eq_false rfl) (fun _ _ => trivial) (old_ne rfl) (newk_ne rfl)
 ·exact q_allocSt (us := [.bool false, .slice none 0 0, .bool false, .slice none 0 0, .bool false]) (fs := [.n 0, .n 0, .v (.bool false)]) hp (mq 1 rfl) rfl rfl rfl (Nat.lt_of_sub_eq_succ rfl) rfl fits0_api_Point (fun ρ w => ralloc_api_Point ρ w) rfl (Nat.ne_of_beq_eq_false rfl) (fun _ _ => trivial) (old_ne rfl) (newk_ne rfl)
 ·exact q_allocSt (us := [.bool false, .slice none 0 0, .bool false, .slice none 0 0, .bool false]) (fs := [.n 0, .n 0, .v (.bool false)]) hp (mq 2 rfl) rfl rfl rfl (Nat.lt_of_sub_eq_succ rfl) rfl fits0_api_Point (fun ρ w => ralloc_api_Point ρ w) rfl (Nat.ne_of_beq_eq_false rfl) (fun _ _ => trivial) (old_ne rfl) (newk_ne rfl)
 ·exact q_storeNewSt (fs := [.n 0, .n 0, .n 0]) (gs := [.n a, .n b, .n m]) hp (mq 0 rfl) rfl rfl rfl rfl size_api_Mod rfl (own_ptr rfl rfl (by simp) rfl) (sq_in 3 rfl rfl (by simp) rfl (fun v w h => fitv_st h)) (fun _ _ => trivial) (old_ne rfl) (newi_ne rfl)
 ·exact q_storeNewSt (fs := [.n 0, .n 0, .v (.bool false)]) (gs := [.n x, .n y, .v (.bool false)]) hp (mq 1 rfl) rfl rfl rfl rfl size_api_Point rfl (own_ptr rfl rfl (by simp) rfl) (sq_in 4 rfl rfl (by simp) rfl (fun v w h => fitv_st h)) (fun _ _ => trivial) (old_ne rfl) (newi_ne rfl)
 ·exact q_storeNewSt (fs := [.n 0, .n 0, .v (.bool false)]) (gs := [.n T.x, .n T.y, .v (.bool T.i)]) hp (mq 2 rfl) rfl rfl rfl rfl size_api_Point rfl (own_ptr rfl rfl (by simp) rfl) (sq_in 5 rfl rfl (by simp) rfl (fun v w h => fitv_st h)) (fun _ _ => trivial) (old_ne rfl) (newi_ne rfl)
 intro L vs w5 nb hL hC hn E5
 have e6 : vs 6 = .pointer (some ⟨nb 6, 0, none⟩) := hn _ (mq 0 rfl)
 have e7 : vs 7 = .pointer (some ⟨nb 7, 0, none⟩) := hn _ (mq 1 rfl)
 have e8 : vs 8 = .pointer (some ⟨nb 8, 0, none⟩) := hn _ (mq 2 rfl)
 have E : Fr w [(nb 6, 6, Fq.st [.n a, .n b, .n m]), (nb 7, 5, Fq.st [.n x, .n y, .v (.bool false)]), (nb 8, 5, Fq.st [.n T.x, .n T.y, .v (.bool T.i)]), (b2, 2, Fq.raw neg ao n c xs), (b1, 5, Fq.st [.v (.int .u8 M9), .v (.int .u8 A), .v (.int .u8 X), .v (.int .u8 Y), .v (.int .u16 Q)])] w5 := E5
 rw [lay_all hL]
 simp only [putAll, dstOf, List.length_cons, List.length_nil, Nat.zero_add, Nat.reduceAdd, List.getElem?_toArray, List.getElem?_cons_zero, List.getElem?_cons_succ, Option.bind_some, Act.put, List.setIfInBounds_toArray, List.set_cons_succ, List.set_cons_zero]
 rw [e6, e7, e8]
 generalize nb 6 = b5_6 at E ⊢
 generalize nb 7 = b5_7 at E ⊢
 generalize nb 8 = b5_8 at E ⊢
 generalize vs 0 = u5_0
 generalize vs 1 = u5_1
 generalize vs 2 = u5_2
 generalize vs 3 = u5_3
 generalize vs 4 = u5_4
 generalize vs 5 = u5_5
 clear e6 e7 e8 hC hn E5 hL vs L nb
 go_upto_region 5 with (fail)
 refine region_frS (same := [(19, 18)]) (C := [Fq.st [.n a, .n b, .n m], Fq.st [.n x, .n y, .v (.bool false)], Fq.st [.n T.x, .n T.y, .v (.bool T.i)], Fq.st [.n S0.x, .n S0.y, .v (.bool S0.i), .n d0, .v (.int .i64 er0)], Fq.st [.n a, .n b, .n m], Fq.st [.n T.x, .n T.y, .v (.bool T.i)], Fq.st [.n T.x, .n T.y, .v (.bool T.i)], Fq.st [.n S1.x, .n S1.y, .v (.bool S1.i), .n d1, .v (.int .i64 er1)], Fq.st [.n a, .n b, .n m], Fq.raw neg ao n c xs, Fq.num N, Fq.st [.n x, .n y, .v (.bool false)], Fq.st [.n S2.x, .n S2.y, .v (.bool S2.i), .n d2, .v (.int .i64 er2)], Fq.st [.n a, .n b, .n m], Fq.raw neg ao n c xs, Fq.num N, Fq.st [.n T.x, .n T.y, .v (.bool T.i)], Fq.st [.n S3.x, .n S3.y, .v (.bool S3.i), .n d3, .v (.int .i64 er3)], Fq.any, Fq.any]) (ks := [none, none, none, none, none]) (new := [⟨18, 18, 32, Fq.st [.n S0.x, .n S0.y, .v (.bool S0.i), .n d0, .v (.int .i64 er0), .n S1.x, .n S1.y, .v (.bool S1.i), .n d1, .v (.int .i64 er1), .n S2.x, .n S2.y, .v (.bool S2.i), .n d2, .v (.int .i64 er2), .n S3.x, .n S3.y, .v (.bool S3.i), .n d3, .v (.int .i64 er3)], Fq.st [.n S0.x, .n S0.y, .v (.bool S0.i), .n d0, .v (.int .i64 er0), .n S1.x, .n S1.y, .v (.bool S1.i), .n d1, .v (.int .i64 er1), .n S2.x, .n S2.y, .v (.bool S2.i), .n d2, .v (.int .i64 er2), .n S3.x, .n S3.y, .v (.bool S3.i), .n d3, .v (.int .i64 er3)], (some 4)⟩]) E rfl (by kernel_rfl) rfl rfl (fun hp => ⟨?_, ?_, ?_, ?_, ?_, ?_, ?_, ?_, ?_, ?_, ?_, ?_, ?_, ?_, ?_, ?_, ?_, ?_, ?_, ?_, trivial⟩) ?_
 ·exact stepS_of (q_loadSt (off := 0) (l := 6) (fs := [.n a, .n b, .n m]) (gs := [.n a, .n b, .n m]) hp (free_of rfl) trivial (mq 0 rfl) (.inl rfl) rfl row_api_Mod rfl (sqo 6) (fun v w h => h)) rfl
 ·exact stepS_of (q_loadSt (off := 0) (l := 5) (fs := [.n x, .n y, .v (.bool false)]) (gs := [.n x, .n y, .v (.bool false)]) hp (free_of rfl) trivial (mq 1 rfl) (.inl rfl) rfl row_api_Point rfl (sqo 7) (fun v w h => h)) rfl
 ·exact stepS_of (q_loadSt (off := 0) (l := 5) (fs := [.n T.x, .n T.y, .v (.bool T.i)]) (gs := [.n T.x, .n T.y, .v (.bool T.i)]) hp (free_of rfl) trivial (mq 2 rfl) (.inl rfl) rfl row_api_Point rfl (sqo 8) (fun v w h => h)) rfl
 ·exact stepS_of (q_call3 (F := (Fq.st [.n a, .n b, .n m]).P) (G := (Fq.st [.n x, .n y, .v (.bool false)]).P) (F3 := (Fq.st [.n T.x, .n T.y, .v (.bool T.i)]).P) hp (free_of rfl) trivial (enq_f_algorist_algoristlaw06_add) (sqi 0) (sqi 1) (sqi 2) (fun v v' u w h h' g => exLAdd (P := (⟨x, y, false⟩ : Pt)) (Q := T) (R := (S0, d0, er0)) h h' g BM.out BA.out BB.out BP.out BT.out G0.out)) rfl
 ·exact stepS_of (q_loadSt (off := 0) (l := 6) (fs := [.n a, .n b, .n m]) (gs := [.n a, .n b, .n m]) hp (free_of rfl) trivial (mq 0 rfl) (.inl rfl) rfl row_api_Mod rfl (sqo 6) (fun v w h => h)) rfl
 ·exact stepS_of (q_loadSt (off := 0) (l := 5) (fs := [.n T.x, .n T.y, .v (.bool T.i)]) (gs := [.n T.x, .n T.y, .v (.bool T.i)]) hp (free_of rfl) trivial (mq 2 rfl) (.inl rfl) rfl row_api_Point rfl (sqo 8) (fun v w h => h)) rfl
 ·exact stepS_of (q_loadSt (off := 0) (l := 5) (fs := [.n T.x, .n T.y, .v (.bool T.i)]) (gs := [.n T.x, .n T.y, .v (.bool T.i)]) hp (free_of rfl) trivial (mq 2 rfl) (.inl rfl) rfl row_api_Point rfl (sqo 8) (fun v w h => h)) rfl
 ·exact stepS_of (q_call3 (F := (Fq.st [.n a, .n b, .n m]).P) (G := (Fq.st [.n T.x, .n T.y, .v (.bool T.i)]).P) (F3 := (Fq.st [.n T.x, .n T.y, .v (.bool T.i)]).P) hp (free_of rfl) trivial (enq_f_algorist_algoristlaw06_add) (sqi 4) (sqi 5) (sqi 6) (fun v v' u w h h' g => exLAdd (P := T) (Q := T) (R := (S1, d1, er1)) h h' g BM.out BA.out BB.out BT.out BT.out G1.out)) rfl
 ·exact stepS_of (q_loadSt (off := 0) (l := 6) (fs := [.n a, .n b, .n m]) (gs := [.n a, .n b, .n m]) hp (free_of rfl) trivial (mq 0 rfl) (.inl rfl) rfl row_api_Mod rfl (sqo 6) (fun v w h => h)) rfl
 ·exact stepS_of (q_loadRaw (off := 0) hp (free_of rfl) trivial (mq 3 rfl) (.inl rfl) (Nat.le_of_ble_eq_true rfl) (sqo 3) (fun us w hl h => ld_raw hl h)) rfl
 ·exact stepS_of (q_call2 (F := (Fq.raw neg ao n c xs).P) (G := (Fq.is (.int .i64 2)).P) hp (free_of rfl) trivial (enq_R_Made) (sqi 9) (sq_const (fun _ => rfl)) (fun v v' w h h' => (by rw [EN.out]; exact exRMade (j := 2) h h' HKN.out (by omega)))) rfl
 ·exact stepS_of (q_loadSt (off := 0) (l := 5) (fs := [.n x, .n y, .v (.bool false)]) (gs := [.n x, .n y, .v (.bool false)]) hp (free_of rfl) trivial (mq 1 rfl) (.inl rfl) rfl row_api_Point rfl (sqo 7) (fun v w h => h)) rfl
 ·exact stepS_of (q_call3 (F := (Fq.st [.n a, .n b, .n m]).P) (G := (Fq.num N).P) (F3 := (Fq.st [.n x, .n y, .v (.bool false)]).P) hp (free_of rfl) trivial (enq_f_algorist_algoristlaw06_times) (sqi 8) (sqi 10) (sqi 11) (fun v v' u w h h' g => exLTimes (P := (⟨x, y, false⟩ : Pt)) (R := (S2, d2, er2)) h h' g BM.out BA.out BB.out BN.out BP.out G2.out)) rfl
 ·exact stepS_of (q_loadSt (off := 0) (l := 6) (fs := [.n a, .n b, .n m]) (gs := [.n a, .n b, .n m]) hp (free_of rfl) trivial (mq 0 rfl) (.inl rfl) rfl row_api_Mod rfl (sqo 6) (fun v w h => h)) rfl
 ·exact stepS_of (q_loadRaw (off := 0) hp (free_of rfl) trivial (mq 3 rfl) (.inl rfl) (Nat.le_of_ble_eq_true rfl) (sqo 3) (fun us w hl h => ld_raw hl h)) rfl
 ·exact stepS_of (q_call2 (F := (Fq.raw neg ao n c xs).P) (G := (Fq.is (.int .i64 2)).P) hp (free_of rfl) trivial (enq_R_Made) (sqi 14) (sq_const (fun _ => rfl)) (fun v v' w h h' => (by rw [EN.out]; exact exRMade (j := 2) h h' HKN.out (by omega)))) rfl
 ·exact stepS_of (q_loadSt (off := 0) (l := 5) (fs := [.n T.x, .n T.y, .v (.bool T.i)]) (gs := [.n T.x, .n T.y, .v (.bool T.i)]) hp (free_of rfl) trivial (mq 2 rfl) (.inl rfl) rfl row_api_Point rfl (sqo 8) (fun v w h => h)) rfl
 ·exact stepS_of (q_call3 (F := (Fq.st [.n a, .n b, .n m]).P) (G := (Fq.num N).P) (F3 := (Fq.st [.n T.x, .n T.y, .v (.bool T.i)]).P) hp (free_of rfl) trivial (enq_f_algorist_algoristlaw06_times) (sqi 13) (sqi 15) (sqi 16) (fun v v' u w h h' g => exLTimes (P := T) (R := (S3, d3, er3)) h h' g BM.out BA.out BB.out BN.out BT.out G3.out)) rfl
 ·exact stepS_of (q_buildSums4 hp trivial (mq 0 rfl) rfl rfl rfl rfl rfl (sqi 3) (sqi 7) (sqi 12) (sqi 17) (fun _ _ => trivial) (old_ne rfl) (newks_ne rfl)) rfl
 ·exact stepS_assign hp (free_of rfl) rfl (j := 18) rfl (by simp) rfl (fun _ _ => trivial) rfl (Nat.ne_of_beq_eq_false rfl)
 intro L vs w6 nb hsm hL hC hn E6
 have e18 : vs 18 = .slice (some ⟨nb 18, 0, none⟩) 4 4 := hn _ (mq 0 rfl)
 have e19 : vs 19 = .slice (some ⟨nb 18, 0, none⟩) 4 4 := (hsm (19, 18) (by simp) (Nat.lt_of_sub_eq_succ rfl)).trans e18
 have E : Fr w [(nb 18, 32, Fq.st [.n S0.x, .n S0.y, .v (.bool S0.i), .n d0, .v (.int .i64 er0), .n S1.x, .n S1.y, .v (.bool S1.i), .n d1, .v (.int .i64 er1), .n S2.x, .n S2.y, .v (.bool S2.i), .n d2, .v (.int .i64 er2), .n S3.x, .n S3.y, .v (.bool S3.i), .n d3, .v (.int .i64 er3)]), (b5_6, 6, Fq.st [.n a, .n b, .n m]), (b5_7, 5, Fq.st [.n x, .n y, .v (.bool false)]), (b5_8, 5, Fq.st [.n T.x, .n T.y, .v (.bool T.i)]), (b2, 2, Fq.raw neg ao n c xs), (b1, 5, Fq.st [.v (.int .u8 M9), .v (.int .u8 A), .v (.int .u8 X), .v (.int .u8 Y), .v (.int .u16 Q)])] w6 := E6
 rw [lay_all hL]
 simp only [putAll, dstOf, List.length_cons, List.length_nil, Nat.zero_add, Nat.reduceAdd, List.getElem?_toArray, List.getElem?_cons_zero, List.getElem?_cons_succ, Option.bind_some, Act.put, List.setIfInBounds_toArray, List.set_cons_succ, List.set_cons_zero]
 rw [e18, e19]
 generalize nb 18 = b6_18 at E ⊢
 generalize vs 0 = u6_0
 generalize vs 1 = u6_1
 generalize vs 2 = u6_2
 generalize vs 3 = u6_3
 generalize vs 4 = u6_4
 generalize vs 5 = u6_5
 generalize vs 6 = u6_6
 generalize vs 7 = u6_7
 generalize vs 8 = u6_8
 generalize vs 9 = u6_9
 generalize vs 10 = u6_10
 generalize vs 11 = u6_11
 generalize vs 12 = u6_12
 generalize vs 13 = u6_13
 generalize vs 14 = u6_14
 generalize vs 15 = u6_15
 generalize vs 16 = u6_16
 generalize vs 17 = u6_17
 clear e18 e19 hsm hC hn E6 hL vs L nb
 clear G0 G1 G2 G3 EM EA EX EY EB ET EN HHM HHA HHX HHY HHQ HKN BP BT BN
 go_upto_region 6 with (fail)
 refine region_fr (C := [Fq.is (.int .i64 0)]) (ks := [none, none, none, none, none, none]) (new := []) E rfl (by kernel_rfl) rfl rfl (fun hp => ⟨?_, trivial⟩) ?_
 ·exact q_assign hp (free_of rfl) trivial (sq_const (fun _ => rfl))
 intro L vs w7 nb hL hC hn E7
 have e0 : vs 0 = .int .i64 0 := hC 0 (by simp)
 have E : Fr w [(b6_18, 32, Fq.st [.n S0.x, .n S0.y, .v (.bool S0.i), .n d0, .v (.int .i64 er0), .n S1.x, .n S1.y, .v (.bool S1.i), .n d1, .v (.int .i64 er1), .n S2.x, .n S2.y, .v (.bool S2.i), .n d2, .v (.int .i64 er2), .n S3.x, .n S3.y, .v (.bool S3.i), .n d3, .v (.int .i64 er3)]), (b5_6, 6, Fq.st [.n a, .n b, .n m]), (b5_7, 5, Fq.st [.n x, .n y, .v (.bool false)]), (b5_8, 5, Fq.st [.n T.x, .n T.y, .v (.bool T.i)]), (b2, 2, Fq.raw neg ao n c xs), (b1, 5, Fq.st [.v (.int .u8 M9), .v (.int .u8 A), .v (.int .u8 X), .v (.int .u8 Y), .v (.int .u16 Q)])] w7 := E7
 rw [lay_all hL]
 simp only [putAll, dstOf, List.length_cons, List.length_nil, Nat.zero_add, List.getElem?_toArray, List.getElem?_cons_zero, Option.bind_some, Act.put, List.setIfInBounds_toArray, List.set_cons_succ, List.set_cons_zero]
 rw [e0]
 clear e0 hC hn E7 hL vs L nb
 have HE := hidd E
 clear E
 obtain ⟨W0, rfl⟩ : ∃ W0, W0 = w7 := ⟨_, rfl⟩
 go_wp2_with (fail)
 go_loopw [10] (fun vi W => ∃ i : Int, vi = .int .i64 i ∧ 0 ≤ i ∧ i ≤ 4 ∧ Fr w [(b6_18, 32, Fq.st [.n S0.x, .n S0.y, .v (.bool S0.i), .n d0, .v (.int .i64 er0), .n S1.x, .n S1.y, .v (.bool S1.i), .n d1, .v (.int .i64 er1), .n S2.x, .n S2.y, .v (.bool S2.i), .n d2, .v (.int .i64 er2), .n S3.x, .n S3.y, .v (.bool S3.i), .n d3, .v (.int .i64 er3)]), (b5_6, 6, Fq.st [.n a, .n b, .n m]), (b5_7, 5, Fq.st [.n x, .n y, .v (.bool false)]), (b5_8, 5, Fq.st [.n T.x, .n T.y, .v (.bool T.i)]), (b2, 2, Fq.raw neg ao n c xs), (b1, 5, Fq.st [.v (.int .u8 M9), .v (.int .u8 A), .v (.int .u8 X), .v (.int .u8 Y), .v (.int .u16 Q)])] W) (fun vi _ => (4 - intOf vi).toNat)
 case atStart => exact ⟨0, rfl, by omega, by omega, HE.out⟩
 case round =>
  clear HE
  obtain ⟨V2, rfl⟩ : ∃ V2, V2 = wr := ⟨_, rfl⟩
  obtain ⟨i, rfl, hi0, hi4, E⟩ := hrel
  have hic : i = 0 ∨ i = 1 ∨ i = 2 ∨ i = 3 ∨ i = 4 := by omega
  clear hi0 hi4
  rcases hic with rfl | rfl | rfl | rfl | rfl
  ·have KJ := K0.out
   go_upto_region 7 with (fail)
   refine region_fr (C := [Fq.is (.int .i64 0), Fq.is (.slice (some ⟨b6_18, 0, none⟩) 4 4), Fq.is (.int .i64 ((4 : Nat) : Int)), Fq.is (.bool true)]) (ks := [none, none, none, none, none, none]) (new := []) E rfl (by kernel_rfl) rfl rfl (fun hp => ⟨?_, ?_, ?_, ?_, trivial⟩) ?_
   ·exact q_move hp (free_of rfl) trivial (sqo 10)
   ·exact q_move hp (free_of rfl) trivial (sqo 9)
   ·exact q_lenT_algoristref06_Sum hp (free_of rfl) trivial (sqi 1) (fun _ => rfl)
   ·exact q_two (F := fun v _ => v = .int .i64 0) (G := fun v _ => v = .int .i64 ((4 : Nat) : Int)) hp (free_of rfl) trivial (sqi 0) (sqi 2) (fun ρ w hc h h' => ⟨.bool true, by simp [execOp, go_sem, h, h'], rfl⟩)
   intro L vs w8 nb hL hC hn E8
   have e0 : vs 0 = .int .i64 0 := hC 0 (by simp)
   have e1 : vs 1 = .slice (some ⟨b6_18, 0, none⟩) 4 4 := hC 1 (by simp)
   have e2 : vs 2 = .int .i64 ((4 : Nat) : Int) := hC 2 (by simp)
   have e3 : vs 3 = .bool true := hC 3 (by simp)
   have E : Fr w [(b6_18, 32, Fq.st [.n S0.x, .n S0.y, .v (.bool S0.i), .n d0, .v (.int .i64 er0), .n S1.x, .n S1.y, .v (.bool S1.i), .n d1, .v (.int .i64 er1), .n S2.x, .n S2.y, .v (.bool S2.i), .n d2, .v (.int .i64 er2), .n S3.x, .n S3.y, .v (.bool S3.i), .n d3, .v (.int .i64 er3)]), (b5_6, 6, Fq.st [.n a, .n b, .n m]), (b5_7, 5, Fq.st [.n x, .n y, .v (.bool false)]), (b5_8, 5, Fq.st [.n T.x, .n T.y, .v (.bool T.i)]), (b2, 2, Fq.raw neg ao n c xs), (b1, 5, Fq.st [.v (.int .u8 M9), .v (.int .u8 A), .v (.int .u8 X), .v (.int .u8 Y), .v (.int .u16 Q)])] w8 := E8
   rw [lay_all hL]
   simp only [putAll, dstOf, List.length_cons, List.length_nil, Nat.zero_add, Nat.reduceAdd, List.getElem?_toArray, List.getElem?_cons_zero, List.getElem?_cons_succ, Option.bind_some, Act.put, List.setIfInBounds_toArray, List.set_cons_succ, List.set_cons_zero]
   rw [e0, e1, e2, e3]
   clear e0 e1 e2 e3 hC hn E8 hL vs L nb
   rcases KJ with ⟨he, hd, hon⟩ | ⟨he, hdv⟩
   ·have HE := hidd he
    have HSG : Hid (cmpI d0 0 = 0) := cmpIq0.2 hd
    have HON := hidd hon
    clear he hd hon
    go_upto_region 9 with (fail)
    refine region_fr (C := [Fq.is (.slice (some ⟨b6_18, 0, none⟩) 4 4), Fq.is (.int .i64 0), Fq.is (.pointer (some ⟨b6_18, 0, none⟩)), Fq.is (.pointer (some ⟨b6_18, 7, none⟩)), Fq.is (.int .i64 er0), Fq.is (.bool true)]) (ks := [none, none, none, none, none, none]) (new := []) E rfl (by kernel_rfl) rfl rfl (fun hp => ⟨?_, ?_, ?_, ?_, ?_, ?_, trivial⟩) ?_
    ·exact q_move hp (free_of rfl) trivial (sqo 9)
    ·exact q_move hp (free_of rfl) trivial (sqo 10)
    ·exact q_two (F := fun v _ => v = .slice (some ⟨b6_18, 0, none⟩) 4 4) (G := fun v _ => v = .int .i64 0) hp (free_of rfl) trivial (sqi 0) (sqi 1) (fun ρ w hc h h' => ⟨_, by simp [execOp, go_sem, h, h', hc], rfl⟩)
    ·exact q_addr (b := b6_18) (off := 0) (off' := 7) hp (free_of rfl) trivial (sqi 2) (fun ρ w h => by simp [execOp, go_sem, h]) (fun _ => rfl)
    ·exact q_load1 (off := 7) (fs := [.n S0.x, .n S0.y, .v (.bool S0.i), .n d0, .v (.int .i64 er0), .n S1.x, .n S1.y, .v (.bool S1.i), .n d1, .v (.int .i64 er1), .n S2.x, .n S2.y, .v (.bool S2.i), .n d2, .v (.int .i64 er2), .n S3.x, .n S3.y, .v (.bool S3.i), .n d3, .v (.int .i64 er3)]) (u := .int .i64 er0) hp (free_of rfl) trivial (mq 0 rfl) (.inl rfl) rfl rfl (fun ρ w b h1 h2 => by simp [execOp, go_sem, h1, h2]) (sqi 3) (fun _ => rfl)
    ·exact q_one (F := fun v _ => v = .int .i64 er0) hp (free_of rfl) trivial (sqi 4) (fun ρ w hc h => ⟨.bool true, by simp [execOp, go_sem, h, hc, HE.out], rfl⟩)
    intro L vs w9 nb hL hC hn E9
    have e0 : vs 0 = .slice (some ⟨b6_18, 0, none⟩) 4 4 := hC 0 (by simp)
    have e1 : vs 1 = .int .i64 0 := hC 1 (by simp)
    have e2 : vs 2 = .pointer (some ⟨b6_18, 0, none⟩) := hC 2 (by simp)
    have e3 : vs 3 = .pointer (some ⟨b6_18, 7, none⟩) := hC 3 (by simp)
    have e4 : vs 4 = .int .i64 er0 := hC 4 (by simp)
    have e5 : vs 5 = .bool true := hC 5 (by simp)
    have E : Fr w [(b6_18, 32, Fq.st [.n S0.x, .n S0.y, .v (.bool S0.i), .n d0, .v (.int .i64 er0), .n S1.x, .n S1.y, .v (.bool S1.i), .n d1, .v (.int .i64 er1), .n S2.x, .n S2.y, .v (.bool S2.i), .n d2, .v (.int .i64 er2), .n S3.x, .n S3.y, .v (.bool S3.i), .n d3, .v (.int .i64 er3)]), (b5_6, 6, Fq.st [.n a, .n b, .n m]), (b5_7, 5, Fq.st [.n x, .n y, .v (.bool false)]), (b5_8, 5, Fq.st [.n T.x, .n T.y, .v (.bool T.i)]), (b2, 2, Fq.raw neg ao n c xs), (b1, 5, Fq.st [.v (.int .u8 M9), .v (.int .u8 A), .v (.int .u8 X), .v (.int .u8 Y), .v (.int .u16 Q)])] w9 := E9
    rw [lay_all hL]
    simp only [putAll, dstOf, List.length_cons, List.length_nil, Nat.zero_add, Nat.reduceAdd, List.getElem?_toArray, List.getElem?_cons_zero, List.getElem?_cons_succ, Option.bind_some, Act.put, List.setIfInBounds_toArray, List.set_cons_succ, List.set_cons_zero]
    rw [e0, e1, e2, e3, e4, e5]
    clear e0 e1 e2 e3 e4 e5 hC hn E9 hL vs L nb
    go_upto_region 10 with (fail)
    refine region_fr (C := [Fq.st [.n a, .n b, .n m], Fq.is (.slice (some ⟨b6_18, 0, none⟩) 4 4), Fq.is (.int .i64 0), Fq.is (.pointer (some ⟨b6_18, 0, none⟩)), Fq.is (.pointer (some ⟨b6_18, 0, none⟩)), Fq.st [.n S0.x, .n S0.y, .v (.bool S0.i)], Fq.is (.bool true), Fq.is (.bool false), Fq.is (.bool false), Fq.is (.slice (some ⟨b6_18, 0, none⟩) 4 4), Fq.is (.int .i64 0), Fq.is (.pointer (some ⟨b6_18, 0, none⟩)), Fq.is (.pointer (some ⟨b6_18, 5, none⟩)), Fq.num d0, Fq.is (.int .i64 (cmpI d0 0)), Fq.is (.bool false), Fq.is (.bool false)]) (ks := [none, none, none, none, none, none]) (new := []) E rfl (by kernel_rfl) rfl rfl (fun hp => ⟨?_, ?_, ?_, ?_, ?_, ?_, ?_, ?_, ?_, ?_, ?_, ?_, ?_, ?_, ?_, ?_, ?_, trivial⟩) ?_
    ·exact q_loadSt (off := 0) (l := 6) (fs := [.n a, .n b, .n m]) (gs := [.n a, .n b, .n m]) hp (free_of rfl) trivial (mq 1 rfl) (.inl rfl) rfl row_api_Mod rfl (sqo 6) (fun v w h => h)
    ·exact q_move hp (free_of rfl) trivial (sqo 9)
    ·exact q_move hp (free_of rfl) trivial (sqo 10)
    ·exact q_two (F := fun v _ => v = .slice (some ⟨b6_18, 0, none⟩) 4 4) (G := fun v _ => v = .int .i64 0) hp (free_of rfl) trivial (sqi 1) (sqi 2) (fun ρ w hc h h' => ⟨_, by simp [execOp, go_sem, h, h', hc], rfl⟩)
    ·exact q_addr (b := b6_18) (off := 0) (off' := 0) hp (free_of rfl) trivial (sqi 3) (fun ρ w h => by simp [execOp, go_sem, h]) (fun _ => rfl)
    ·exact q_loadSt (off := 0) (l := 5) (fs := [.n S0.x, .n S0.y, .v (.bool S0.i), .n d0, .v (.int .i64 er0), .n S1.x, .n S1.y, .v (.bool S1.i), .n d1, .v (.int .i64 er1), .n S2.x, .n S2.y, .v (.bool S2.i), .n d2, .v (.int .i64 er2), .n S3.x, .n S3.y, .v (.bool S3.i), .n d3, .v (.int .i64 er3)]) (gs := [.n S0.x, .n S0.y, .v (.bool S0.i)]) hp (free_of rfl) trivial (mq 0 rfl) (.inl rfl) rfl row_api_Point rfl (sqi 4) (fun v w h => h)
    ·exact q_call2 (F := (Fq.st [.n a, .n b, .n m]).P) (G := (Fq.st [.n S0.x, .n S0.y, .v (.bool S0.i)]).P) hp (free_of rfl) trivial (enq_f_algorist_point_On) (sqi 0) (sqi 5) (fun v v' w h h' => exOn (x := S0.x) (y := S0.y) (i := S0.i) h h' BM.out BA.out BB.out B0.out.1.1 B0.out.1.2 HON.out)
    ·exact q_one (F := fun v _ => v = .bool true) hp (free_of rfl) trivial (sqi 6) (fun ρ w _ h => ⟨.bool false, by simp [execOp, go_sem, h], rfl⟩)
    ·exact q_move hp (free_of rfl) trivial (sqi 7)
    ·exact q_move hp (free_of rfl) gqi (sqo 9)
    ·exact q_move hp (free_of rfl) gqi (sqo 10)
    ·exact q_two (F := fun v _ => v = .slice (some ⟨b6_18, 0, none⟩) 4 4) (G := fun v _ => v = .int .i64 0) hp (free_of rfl) gqi (sqi 9) (sqi 10) (fun ρ w hc h h' => ⟨_, by simp [execOp, go_sem, h, h', hc], rfl⟩)
    ·exact q_addr (b := b6_18) (off := 0) (off' := 5) hp (free_of rfl) gqi (sqi 11) (fun ρ w h => by simp [execOp, go_sem, h]) (fun _ => rfl)
    ·exact q_loadSt (off := 5) (l := 2) (fs := [.n S0.x, .n S0.y, .v (.bool S0.i), .n d0, .v (.int .i64 er0), .n S1.x, .n S1.y, .v (.bool S1.i), .n d1, .v (.int .i64 er1), .n S2.x, .n S2.y, .v (.bool S2.i), .n d2, .v (.int .i64 er2), .n S3.x, .n S3.y, .v (.bool S3.i), .n d3, .v (.int .i64 er3)]) (gs := [.n d0]) hp (free_of rfl) gqi (mq 0 rfl) (.inl rfl) rfl row_api_Int rfl (sqi 12) (fun v w h => st_num h)
    ·exact q_call1 (F := (Fq.num d0).P) hp (free_of rfl) gqi (enq_Sign) (sqi 13) (fun v w h => exSign h)
    ·exact q_one (F := fun v _ => v = .int .i64 (cmpI d0 0)) hp (free_of rfl) gqi (sqi 14) (fun ρ w hc h => ⟨.bool false, by simp [execOp, go_sem, h, hc, HSG.out], rfl⟩)
    ·exact q_two (F := fun v _ => v = .bool false) (G := fun v _ => v = .bool false) hp (free_of rfl) trivial (sqi 8) (sqi 15) (fun ρ w hc h h' => ⟨_, by simp [execOp, go_sem, h, h'], rfl⟩)
    intro L vs w10 nb hL hC hn E10
    have e1 : vs 1 = .slice (some ⟨b6_18, 0, none⟩) 4 4 := hC 1 (by simp)
    have e2 : vs 2 = .int .i64 0 := hC 2 (by simp)
    have e3 : vs 3 = .pointer (some ⟨b6_18, 0, none⟩) := hC 3 (by simp)
    have e4 : vs 4 = .pointer (some ⟨b6_18, 0, none⟩) := hC 4 (by simp)
    have e6 : vs 6 = .bool true := hC 6 (by simp)
    have e7 : vs 7 = .bool false := hC 7 (by simp)
    have e8 : vs 8 = .bool false := hC 8 (by simp)
    have e9 : vs 9 = .slice (some ⟨b6_18, 0, none⟩) 4 4 := hC 9 (by simp)
    have e10 : vs 10 = .int .i64 0 := hC 10 (by simp)
    have e11 : vs 11 = .pointer (some ⟨b6_18, 0, none⟩) := hC 11 (by simp)
    have e12 : vs 12 = .pointer (some ⟨b6_18, 5, none⟩) := hC 12 (by simp)
    have e14 : vs 14 = .int .i64 (cmpI d0 0) := hC 14 (by simp)
    have e15 : vs 15 = .bool false := hC 15 (by simp)
    have e16 : vs 16 = .bool false := hC 16 (by simp)
    have E : Fr w [(b6_18, 32, Fq.st [.n S0.x, .n S0.y, .v (.bool S0.i), .n d0, .v (.int .i64 er0), .n S1.x, .n S1.y, .v (.bool S1.i), .n d1, .v (.int .i64 er1), .n S2.x, .n S2.y, .v (.bool S2.i), .n d2, .v (.int .i64 er2), .n S3.x, .n S3.y, .v (.bool S3.i), .n d3, .v (.int .i64 er3)]), (b5_6, 6, Fq.st [.n a, .n b, .n m]), (b5_7, 5, Fq.st [.n x, .n y, .v (.bool false)]), (b5_8, 5, Fq.st [.n T.x, .n T.y, .v (.bool T.i)]), (b2, 2, Fq.raw neg ao n c xs), (b1, 5, Fq.st [.v (.int .u8 M9), .v (.int .u8 A), .v (.int .u8 X), .v (.int .u8 Y), .v (.int .u16 Q)])] w10 := E10
    rw [lay_all hL]
    simp only [putAll, dstOf, List.length_cons, List.length_nil, Nat.zero_add, Nat.reduceAdd, List.getElem?_toArray, List.getElem?_cons_zero, List.getElem?_cons_succ, Option.bind_some, Act.put, List.setIfInBounds_toArray, List.set_cons_succ, List.set_cons_zero]
    rw [e1, e2, e3, e4, e6, e7, e8, e9, e10, e11, e12, e14, e15, e16]
    generalize vs 0 = u10_0
    generalize vs 5 = u10_5
    generalize vs 13 = u10_13
    clear e1 e2 e3 e4 e6 e7 e8 e9 e10 e11 e12 e14 e15 e16 hC hn E10 hL vs L nb
    clear HE HSG HON
    clear BM BA BB B0 B1 B2 B3 HM0 K0 K1 K2 K3
    go_wp2
    go_roundw
    case rel => exact ⟨1, by first | rfl | go_num, by omega, by omega, E⟩
    case measure => first | (simp [intOf]; omega) | simp [intOf] | decide
   ·have HE : Hid (¬ er0 = 0) := by show ¬ _; omega
    have HE6 := hidd he
    have HDN : Hid (d0 ≠ 0) := by have := hdv.1; show _ ≠ _; omega
    have HS1 : Hid (cmpI (m % d0) 0 = 0) := cmpIq0.2 hdv.2.2
    have HC1 : Hid (¬ cmpI d0 1 ≤ 0) := by have := hdv.1; have := cmpIqgt.2 this; show ¬ _; omega
    have HC2 : Hid (cmpI d0 m < 0) := cmpIqlt.2 hdv.2.1
    clear he hdv
    go_upto_region 9 with (fail)
    refine region_fr (C := [Fq.is (.slice (some ⟨b6_18, 0, none⟩) 4 4), Fq.is (.int .i64 0), Fq.is (.pointer (some ⟨b6_18, 0, none⟩)), Fq.is (.pointer (some ⟨b6_18, 7, none⟩)), Fq.is (.int .i64 er0), Fq.is (.bool false)]) (ks := [none, none, none, none, none, none]) (new := []) E rfl (by kernel_rfl) rfl rfl (fun hp => ⟨?_, ?_, ?_, ?_, ?_, ?_, trivial⟩) ?_
    ·exact q_move hp (free_of rfl) trivial (sqo 9)
    ·exact q_move hp (free_of rfl) trivial (sqo 10)
    ·exact q_two (F := fun v _ => v = .slice (some ⟨b6_18, 0, none⟩) 4 4) (G := fun v _ => v = .int .i64 0) hp (free_of rfl) trivial (sqi 0) (sqi 1) (fun ρ w hc h h' => ⟨_, by simp [execOp, go_sem, h, h', hc], rfl⟩)
    ·exact q_addr (b := b6_18) (off := 0) (off' := 7) hp (free_of rfl) trivial (sqi 2) (fun ρ w h => by simp [execOp, go_sem, h]) (fun _ => rfl)
    ·exact q_load1 (off := 7) (fs := [.n S0.x, .n S0.y, .v (.bool S0.i), .n d0, .v (.int .i64 er0), .n S1.x, .n S1.y, .v (.bool S1.i), .n d1, .v (.int .i64 er1), .n S2.x, .n S2.y, .v (.bool S2.i), .n d2, .v (.int .i64 er2), .n S3.x, .n S3.y, .v (.bool S3.i), .n d3, .v (.int .i64 er3)]) (u := .int .i64 er0) hp (free_of rfl) trivial (mq 0 rfl) (.inl rfl) rfl rfl (fun ρ w b h1 h2 => by simp [execOp, go_sem, h1, h2]) (sqi 3) (fun _ => rfl)
    ·exact q_one (F := fun v _ => v = .int .i64 er0) hp (free_of rfl) trivial (sqi 4) (fun ρ w hc h => ⟨.bool false, by simp [execOp, go_sem, h, hc, HE.out], rfl⟩)
    intro L vs w11 nb hL hC hn E11
    have e0 : vs 0 = .slice (some ⟨b6_18, 0, none⟩) 4 4 := hC 0 (by simp)
    have e1 : vs 1 = .int .i64 0 := hC 1 (by simp)
    have e2 : vs 2 = .pointer (some ⟨b6_18, 0, none⟩) := hC 2 (by simp)
    have e3 : vs 3 = .pointer (some ⟨b6_18, 7, none⟩) := hC 3 (by simp)
    have e4 : vs 4 = .int .i64 er0 := hC 4 (by simp)
    have e5 : vs 5 = .bool false := hC 5 (by simp)
    have E : Fr w [(b6_18, 32, Fq.st [.n S0.x, .n S0.y, .v (.bool S0.i), .n d0, .v (.int .i64 er0), .n S1.x, .n S1.y, .v (.bool S1.i), .n d1, .v (.int .i64 er1), .n S2.x, .n S2.y, .v (.bool S2.i), .n d2, .v (.int .i64 er2), .n S3.x, .n S3.y, .v (.bool S3.i), .n d3, .v (.int .i64 er3)]), (b5_6, 6, Fq.st [.n a, .n b, .n m]), (b5_7, 5, Fq.st [.n x, .n y, .v (.bool false)]), (b5_8, 5, Fq.st [.n T.x, .n T.y, .v (.bool T.i)]), (b2, 2, Fq.raw neg ao n c xs), (b1, 5, Fq.st [.v (.int .u8 M9), .v (.int .u8 A), .v (.int .u8 X), .v (.int .u8 Y), .v (.int .u16 Q)])] w11 := E11
    rw [lay_all hL]
    simp only [putAll, dstOf, List.length_cons, List.length_nil, Nat.zero_add, Nat.reduceAdd, List.getElem?_toArray, List.getElem?_cons_zero, List.getElem?_cons_succ, Option.bind_some, Act.put, List.setIfInBounds_toArray, List.set_cons_succ, List.set_cons_zero]
    rw [e0, e1, e2, e3, e4, e5]
    clear e0 e1 e2 e3 e4 e5 hC hn E11 hL vs L nb
    go_upto_region 12 with (fail)
    have B12 : Hid (ab ((m / d0)) < pw 6) := ab_divB BM.out (by omega)
    have B13 : Hid (ab ((m % d0)) < pw 5) := ab_modB HDN.out B0.out.2
    refine region_fr (C := [Fq.is (.pointer (some ⟨b5_6, 4, none⟩)), Fq.num m, Fq.is (.slice (some ⟨b6_18, 0, none⟩) 4 4), Fq.is (.int .i64 0), Fq.is (.pointer (some ⟨b6_18, 0, none⟩)), Fq.is (.pointer (some ⟨b6_18, 5, none⟩)), Fq.num d0, Fq.tup3 (Fq.num (m / d0)) (Fq.num (m % d0)) (Fq.is (.int .i64 0)), Fq.tup3 (Fq.num (m / d0)) (Fq.num (m % d0)) (Fq.is (.int .i64 0)), Fq.num (m / d0), Fq.num (m % d0), Fq.is (.int .i64 0), Fq.any, Fq.any, Fq.any, Fq.any, Fq.is (.int .i64 0)]) (ks := [none, none, none, none, none, none]) (new := [⟨12, 14, 2, Fq.num 0, Fq.num (m / d0), none⟩, ⟨13, 15, 2, Fq.num 0, Fq.num (m % d0), none⟩]) E rfl (by kernel_rfl) rfl rfl (fun hp => ⟨?_, ?_, ?_, ?_, ?_, ?_, ?_, ?_, ?_, ?_, ?_, ?_, ?_, ?_, ?_, ?_, ?_, trivial⟩) ?_
    ·exact q_addr (b := b5_6) (off := 0) (off' := 4) hp (free_of rfl) trivial (sqo 6) (fun ρ w h => by simp [execOp, go_sem, h]) (fun _ => rfl)
    ·exact q_loadSt (off := 4) (l := 2) (fs := [.n a, .n b, .n m]) (gs := [.n m]) hp (free_of rfl) trivial (mq 1 rfl) (.inl rfl) rfl row_api_Int rfl (sqi 0) (fun v w h => st_num h)
    ·exact q_move hp (free_of rfl) trivial (sqo 9)
    ·exact q_move hp (free_of rfl) trivial (sqo 10)
    ·exact q_two (F := fun v _ => v = .slice (some ⟨b6_18, 0, none⟩) 4 4) (G := fun v _ => v = .int .i64 0) hp (free_of rfl) trivial (sqi 2) (sqi 3) (fun ρ w hc h h' => ⟨_, by simp [execOp, go_sem, h, h', hc], rfl⟩)
    ·exact q_addr (b := b6_18) (off := 0) (off' := 5) hp (free_of rfl) trivial (sqi 4) (fun ρ w h => by simp [execOp, go_sem, h]) (fun _ => rfl)
    ·exact q_loadSt (off := 5) (l := 2) (fs := [.n S0.x, .n S0.y, .v (.bool S0.i), .n d0, .v (.int .i64 er0), .n S1.x, .n S1.y, .v (.bool S1.i), .n d1, .v (.int .i64 er1), .n S2.x, .n S2.y, .v (.bool S2.i), .n d2, .v (.int .i64 er2), .n S3.x, .n S3.y, .v (.bool S3.i), .n d3, .v (.int .i64 er3)]) (gs := [.n d0]) hp (free_of rfl) trivial (mq 0 rfl) (.inl rfl) rfl row_api_Int rfl (sqi 5) (fun v w h => st_num h)
    ·exact q_call2 (F := (Fq.num m).P) (G := (Fq.num d0).P) hp (free_of rfl) trivial (enq_DivMod) (sqi 1) (sqi 6) (fun v v' w h h' => exDMq h h' HDN.out B12.out B13.out (by omega) (by omega))
    ·exact q_move hp (free_of rfl) trivial (sqi 7)
    ·exact q_extract3 hp (free_of rfl) trivial (sqi 8) (fun v1 v2 v3 w h1 h2 h3 => ⟨_, rfl, h1⟩)
    ·exact q_extract3 hp (free_of rfl) trivial (sqi 8) (fun v1 v2 v3 w h1 h2 h3 => ⟨_, rfl, h2⟩)
    ·exact q_extract3 hp (free_of rfl) trivial (sqi 8) (fun v1 v2 v3 w h1 h2 h3 => ⟨_, rfl, h3⟩)
    ·exact q_allocInt hp (mq 0 rfl) rfl rfl rfl rfl (Nat.ne_of_beq_eq_false rfl) (fun _ _ => trivial) (old_ne rfl) (newk_ne rfl) (fun w => Num.zero w)
    ·exact q_allocInt hp (mq 1 rfl) rfl rfl rfl rfl (Nat.ne_of_beq_eq_false rfl) (fun _ _ => trivial) (old_ne rfl) (newk_ne rfl) (fun w => Num.zero w)
    ·exact q_storeNewInt hp (mq 0 rfl) rfl rfl rfl (own_ptr rfl rfl (by simp) rfl) (sq_in 9 rfl rfl (by simp) rfl (fun v w h => intV_num h)) (fun _ _ => trivial) (old_ne rfl) (newi_ne rfl)
    ·exact q_storeNewInt hp (mq 1 rfl) rfl rfl rfl (own_ptr rfl rfl (by simp) rfl) (sq_in 10 rfl rfl (by simp) rfl (fun v w h => intV_num h)) (fun _ _ => trivial) (old_ne rfl) (newi_ne rfl)
    ·exact q_assign hp (free_of rfl) trivial (sqi 11)
    intro L vs w14 nb hL hC hn E14
    have e0 : vs 0 = .pointer (some ⟨b5_6, 4, none⟩) := hC 0 (by simp)
    have e2 : vs 2 = .slice (some ⟨b6_18, 0, none⟩) 4 4 := hC 2 (by simp)
    have e3 : vs 3 = .int .i64 0 := hC 3 (by simp)
    have e4 : vs 4 = .pointer (some ⟨b6_18, 0, none⟩) := hC 4 (by simp)
    have e5 : vs 5 = .pointer (some ⟨b6_18, 5, none⟩) := hC 5 (by simp)
    have e11 : vs 11 = .int .i64 0 := hC 11 (by simp)
    have e16 : vs 16 = .int .i64 0 := hC 16 (by simp)
    have e12 : vs 12 = .pointer (some ⟨nb 12, 0, none⟩) := hn _ (mq 0 rfl)
    have e13 : vs 13 = .pointer (some ⟨nb 13, 0, none⟩) := hn _ (mq 1 rfl)
    have E : Fr w [(nb 12, 2, Fq.num (m / d0)), (nb 13, 2, Fq.num (m % d0)), (b6_18, 32, Fq.st [.n S0.x, .n S0.y, .v (.bool S0.i), .n d0, .v (.int .i64 er0), .n S1.x, .n S1.y, .v (.bool S1.i), .n d1, .v (.int .i64 er1), .n S2.x, .n S2.y, .v (.bool S2.i), .n d2, .v (.int .i64 er2), .n S3.x, .n S3.y, .v (.bool S3.i), .n d3, .v (.int .i64 er3)]), (b5_6, 6, Fq.st [.n a, .n b, .n m]), (b5_7, 5, Fq.st [.n x, .n y, .v (.bool false)]), (b5_8, 5, Fq.st [.n T.x, .n T.y, .v (.bool T.i)]), (b2, 2, Fq.raw neg ao n c xs), (b1, 5, Fq.st [.v (.int .u8 M9), .v (.int .u8 A), .v (.int .u8 X), .v (.int .u8 Y), .v (.int .u16 Q)])] w14 := E14
    rw [lay_all hL]
    simp only [putAll, dstOf, List.length_cons, List.length_nil, Nat.zero_add, Nat.reduceAdd, List.getElem?_toArray, List.getElem?_cons_zero, List.getElem?_cons_succ, Option.bind_some, Act.put, List.setIfInBounds_toArray, List.set_cons_succ, List.set_cons_zero]
    rw [e0, e2, e3, e4, e5, e11, e16, e12, e13]
    generalize nb 12 = b14_12 at E ⊢
    generalize nb 13 = b14_13 at E ⊢
    generalize vs 1 = u14_1
    generalize vs 6 = u14_6
    generalize vs 7 = u14_7
    generalize vs 8 = u14_8
    generalize vs 9 = u14_9
    generalize vs 10 = u14_10
    clear e0 e2 e3 e4 e5 e11 e16 e12 e13 hC hn E14 hL vs L nb
    go_upto_region 13 with (fail)
    refine region_fr (C := [Fq.is (.slice (some ⟨b6_18, 0, none⟩) 4 4), Fq.is (.int .i64 0), Fq.is (.pointer (some ⟨b6_18, 0, none⟩)), Fq.is (.pointer (some ⟨b6_18, 7, none⟩)), Fq.is (.int .i64 er0), Fq.is (.bool false), Fq.is (.bool false), Fq.is (.int .i64 0), Fq.is (.bool false), Fq.is (.bool false), Fq.is (.bool false), Fq.num (m % d0), Fq.is (.int .i64 (cmpI (m % d0) 0)), Fq.is (.bool false), Fq.is (.bool false), Fq.is (.bool false), Fq.is (.slice (some ⟨b6_18, 0, none⟩) 4 4), Fq.is (.int .i64 0), Fq.is (.pointer (some ⟨b6_18, 0, none⟩)), Fq.is (.pointer (some ⟨b6_18, 5, none⟩)), Fq.num d0, Fq.num 1, Fq.is (.int .i64 (cmpI d0 1)), Fq.is (.bool false), Fq.is (.bool false), Fq.is (.bool false), Fq.is (.slice (some ⟨b6_18, 0, none⟩) 4 4), Fq.is (.int .i64 0), Fq.is (.pointer (some ⟨b6_18, 0, none⟩)), Fq.is (.pointer (some ⟨b6_18, 5, none⟩)), Fq.num d0, Fq.is (.pointer (some ⟨b5_6, 4, none⟩)), Fq.num m, Fq.is (.int .i64 (cmpI d0 m)), Fq.is (.bool false), Fq.is (.bool false)]) (ks := [none, none, none, none, none, none, none, none]) (new := []) E rfl (by kernel_rfl) rfl rfl (fun hp => ⟨?_, ?_, ?_, ?_, ?_, ?_, ?_, ?_, ?_, ?_, ?_, ?_, ?_, ?_, ?_, ?_, ?_, ?_, ?_, ?_, ?_, ?_, ?_, ?_, ?_, ?_, ?_, ?_, ?_, ?_, ?_, ?_, ?_, ?_, ?_, ?_, trivial⟩) ?_
    ·exact q_move hp (free_of rfl) trivial (sqo 9)
    ·exact q_move hp (free_of rfl) trivial (sqo 10)
    ·exact q_two (F := fun v _ => v = .slice (some ⟨b6_18, 0, none⟩) 4 4) (G := fun v _ => v = .int .i64 0) hp (free_of rfl) trivial (sqi 0) (sqi 1) (fun ρ w hc h h' => ⟨_, by simp [execOp, go_sem, h, h', hc], rfl⟩)
    ·exact q_addr (b := b6_18) (off := 0) (off' := 7) hp (free_of rfl) trivial (sqi 2) (fun ρ w h => by simp [execOp, go_sem, h]) (fun _ => rfl)
    ·exact q_load1 (off := 7) (fs := [.n S0.x, .n S0.y, .v (.bool S0.i), .n d0, .v (.int .i64 er0), .n S1.x, .n S1.y, .v (.bool S1.i), .n d1, .v (.int .i64 er1), .n S2.x, .n S2.y, .v (.bool S2.i), .n d2, .v (.int .i64 er2), .n S3.x, .n S3.y, .v (.bool S3.i), .n d3, .v (.int .i64 er3)]) (u := .int .i64 er0) hp (free_of rfl) trivial (mq 2 rfl) (.inl rfl) rfl rfl (fun ρ w b h1 h2 => by simp [execOp, go_sem, h1, h2]) (sqi 3) (fun _ => rfl)
    ·exact q_one (F := fun v _ => v = .int .i64 er0) hp (free_of rfl) trivial (sqi 4) (fun ρ w hc h => ⟨.bool false, by simp [execOp, go_sem, h, hc, HE6.out], rfl⟩)
    ·exact q_move hp (free_of rfl) trivial (sqi 5)
    ·exact q_move hp (free_of rfl) gqi (sqo 13)
    ·exact q_one (F := fun v _ => v = .int .i64 0) hp (free_of rfl) gqi (sqi 7) (fun ρ w hc h => ⟨.bool false, by simp [execOp, go_sem, h, hc], rfl⟩)
    ·exact q_two (F := fun v _ => v = .bool false) (G := fun v _ => v = .bool false) hp (free_of rfl) trivial (sqi 6) (sqi 8) (fun ρ w hc h h' => ⟨_, by simp [execOp, go_sem, h, h'], rfl⟩)
    ·exact q_move hp (free_of rfl) trivial (sqi 9)
    ·exact q_loadInt (off := 0) hp (free_of rfl) gqi (mq 1 rfl) (.inl rfl) (Nat.le_of_ble_eq_true rfl) (sqo 12) (fun us w hl h => ld_num hl h)
    ·exact q_call1 (F := (Fq.num (m % d0)).P) hp (free_of rfl) gqi (enq_Sign) (sqi 11) (fun v w h => exSign h)
    ·exact q_one (F := fun v _ => v = .int .i64 (cmpI (m % d0) 0)) hp (free_of rfl) gqi (sqi 12) (fun ρ w hc h => ⟨.bool false, by simp [execOp, go_sem, h, hc, HS1.out], rfl⟩)
    ·exact q_two (F := fun v _ => v = .bool false) (G := fun v _ => v = .bool false) hp (free_of rfl) trivial (sqi 10) (sqi 13) (fun ρ w hc h h' => ⟨_, by simp [execOp, go_sem, h, h'], rfl⟩)
    ·exact q_move hp (free_of rfl) trivial (sqi 14)
    ·exact q_move hp (free_of rfl) gqi (sqo 9)
    ·exact q_move hp (free_of rfl) gqi (sqo 10)
    ·exact q_two (F := fun v _ => v = .slice (some ⟨b6_18, 0, none⟩) 4 4) (G := fun v _ => v = .int .i64 0) hp (free_of rfl) gqi (sqi 16) (sqi 17) (fun ρ w hc h h' => ⟨_, by simp [execOp, go_sem, h, h', hc], rfl⟩)
    ·exact q_addr (b := b6_18) (off := 0) (off' := 5) hp (free_of rfl) gqi (sqi 18) (fun ρ w h => by simp [execOp, go_sem, h]) (fun _ => rfl)
    ·exact q_loadSt (off := 5) (l := 2) (fs := [.n S0.x, .n S0.y, .v (.bool S0.i), .n d0, .v (.int .i64 er0), .n S1.x, .n S1.y, .v (.bool S1.i), .n d1, .v (.int .i64 er1), .n S2.x, .n S2.y, .v (.bool S2.i), .n d2, .v (.int .i64 er2), .n S3.x, .n S3.y, .v (.bool S3.i), .n d3, .v (.int .i64 er3)]) (gs := [.n d0]) hp (free_of rfl) gqi (mq 2 rfl) (.inl rfl) rfl row_api_Int rfl (sqi 19) (fun v w h => st_num h)
    ·exact q_call1 (F := (Fq.is (.int .i64 1)).P) hp (free_of rfl) gqi (enq_R_Of) (sq_const (fun _ => rfl)) (fun v w h => (by subst h; exact rOfK w 1 (by omega) (by omega)))
    ·exact q_call2 (F := (Fq.num d0).P) (G := (Fq.num 1).P) hp (free_of rfl) gqi (enq_Cmp) (sqi 20) (sqi 21) (fun v v' w h h' => exCmp h h')
    ·exact q_one (F := fun v _ => v = .int .i64 (cmpI d0 1)) hp (free_of rfl) gqi (sqi 22) (fun ρ w hc h => ⟨.bool false, by simp [execOp, go_sem, h, hc, HC1.out], rfl⟩)
    ·exact q_two (F := fun v _ => v = .bool false) (G := fun v _ => v = .bool false) hp (free_of rfl) trivial (sqi 15) (sqi 23) (fun ρ w hc h h' => ⟨_, by simp [execOp, go_sem, h, h'], rfl⟩)
    ·exact q_move hp (free_of rfl) trivial (sqi 24)
    ·exact q_move hp (free_of rfl) gqi (sqo 9)
    ·exact q_move hp (free_of rfl) gqi (sqo 10)
    ·exact q_two (F := fun v _ => v = .slice (some ⟨b6_18, 0, none⟩) 4 4) (G := fun v _ => v = .int .i64 0) hp (free_of rfl) gqi (sqi 26) (sqi 27) (fun ρ w hc h h' => ⟨_, by simp [execOp, go_sem, h, h', hc], rfl⟩)
    ·exact q_addr (b := b6_18) (off := 0) (off' := 5) hp (free_of rfl) gqi (sqi 28) (fun ρ w h => by simp [execOp, go_sem, h]) (fun _ => rfl)
    ·exact q_loadSt (off := 5) (l := 2) (fs := [.n S0.x, .n S0.y, .v (.bool S0.i), .n d0, .v (.int .i64 er0), .n S1.x, .n S1.y, .v (.bool S1.i), .n d1, .v (.int .i64 er1), .n S2.x, .n S2.y, .v (.bool S2.i), .n d2, .v (.int .i64 er2), .n S3.x, .n S3.y, .v (.bool S3.i), .n d3, .v (.int .i64 er3)]) (gs := [.n d0]) hp (free_of rfl) gqi (mq 2 rfl) (.inl rfl) rfl row_api_Int rfl (sqi 29) (fun v w h => st_num h)
    ·exact q_addr (b := b5_6) (off := 0) (off' := 4) hp (free_of rfl) gqi (sqo 6) (fun ρ w h => by simp [execOp, go_sem, h]) (fun _ => rfl)
    ·exact q_loadSt (off := 4) (l := 2) (fs := [.n a, .n b, .n m]) (gs := [.n m]) hp (free_of rfl) gqi (mq 3 rfl) (.inl rfl) rfl row_api_Int rfl (sqi 31) (fun v w h => st_num h)
    ·exact q_call2 (F := (Fq.num d0).P) (G := (Fq.num m).P) hp (free_of rfl) gqi (enq_Cmp) (sqi 30) (sqi 32) (fun v v' w h h' => exCmp h h')
    ·exact q_one (F := fun v _ => v = .int .i64 (cmpI d0 m)) hp (free_of rfl) gqi (sqi 33) (fun ρ w hc h => ⟨.bool false, by simp [execOp, go_sem, h, hc, HC2.out], rfl⟩)
    ·exact q_two (F := fun v _ => v = .bool false) (G := fun v _ => v = .bool false) hp (free_of rfl) trivial (sqi 25) (sqi 34) (fun ρ w hc h h' => ⟨_, by simp [execOp, go_sem, h, h'], rfl⟩)
    intro L vs w15 nb hL hC hn E15
    have e0 : vs 0 = .slice (some ⟨b6_18, 0, none⟩) 4 4 := hC 0 (by simp)
    have e1 : vs 1 = .int .i64 0 := hC 1 (by simp)
    have e2 : vs 2 = .pointer (some ⟨b6_18, 0, none⟩) := hC 2 (by simp)
    have e3 : vs 3 = .pointer (some ⟨b6_18, 7, none⟩) := hC 3 (by simp)
    have e4 : vs 4 = .int .i64 er0 := hC 4 (by simp)
    have e5 : vs 5 = .bool false := hC 5 (by simp)
    have e6 : vs 6 = .bool false := hC 6 (by simp)
    have e7 : vs 7 = .int .i64 0 := hC 7 (by simp)
    have e8 : vs 8 = .bool false := hC 8 (by simp)
    have e9 : vs 9 = .bool false := hC 9 (by simp)
    have e10 : vs 10 = .bool false := hC 10 (by simp)
    have e12 : vs 12 = .int .i64 (cmpI (m % d0) 0) := hC 12 (by simp)
    have e13 : vs 13 = .bool false := hC 13 (by simp)
    have e14 : vs 14 = .bool false := hC 14 (by simp)
    have e15 : vs 15 = .bool false := hC 15 (by simp)
    have e16 : vs 16 = .slice (some ⟨b6_18, 0, none⟩) 4 4 := hC 16 (by simp)
    have e17 : vs 17 = .int .i64 0 := hC 17 (by simp)
    have e18 : vs 18 = .pointer (some ⟨b6_18, 0, none⟩) := hC 18 (by simp)
    have e19 : vs 19 = .pointer (some ⟨b6_18, 5, none⟩) := hC 19 (by simp)
    have e22 : vs 22 = .int .i64 (cmpI d0 1) := hC 22 (by simp)
    have e23 : vs 23 = .bool false := hC 23 (by simp)
    have e24 : vs 24 = .bool false := hC 24 (by simp)
    have e25 : vs 25 = .bool false := hC 25 (by simp)
    have e26 : vs 26 = .slice (some ⟨b6_18, 0, none⟩) 4 4 := hC 26 (by simp)
    have e27 : vs 27 = .int .i64 0 := hC 27 (by simp)
    have e28 : vs 28 = .pointer (some ⟨b6_18, 0, none⟩) := hC 28 (by simp)
    have e29 : vs 29 = .pointer (some ⟨b6_18, 5, none⟩) := hC 29 (by simp)
    have e31 : vs 31 = .pointer (some ⟨b5_6, 4, none⟩) := hC 31 (by simp)
    have e33 : vs 33 = .int .i64 (cmpI d0 m) := hC 33 (by simp)
    have e34 : vs 34 = .bool false := hC 34 (by simp)
    have e35 : vs 35 = .bool false := hC 35 (by simp)
    have E : Fr w [(b14_12, 2, Fq.num (m / d0)), (b14_13, 2, Fq.num (m % d0)), (b6_18, 32, Fq.st [.n S0.x, .n S0.y, .v (.bool S0.i), .n d0, .v (.int .i64 er0), .n S1.x, .n S1.y, .v (.bool S1.i), .n d1, .v (.int .i64 er1), .n S2.x, .n S2.y, .v (.bool S2.i), .n d2, .v (.int .i64 er2), .n S3.x, .n S3.y, .v (.bool S3.i), .n d3, .v (.int .i64 er3)]), (b5_6, 6, Fq.st [.n a, .n b, .n m]), (b5_7, 5, Fq.st [.n x, .n y, .v (.bool false)]), (b5_8, 5, Fq.st [.n T.x, .n T.y, .v (.bool T.i)]), (b2, 2, Fq.raw neg ao n c xs), (b1, 5, Fq.st [.v (.int .u8 M9), .v (.int .u8 A), .v (.int .u8 X), .v (.int .u8 Y), .v (.int .u16 Q)])] w15 := E15
    rw [lay_all hL]
    simp only [putAll, dstOf, List.length_cons, List.length_nil, Nat.zero_add, Nat.reduceAdd, List.getElem?_toArray, List.getElem?_cons_zero, List.getElem?_cons_succ, Option.bind_some, Act.put, List.setIfInBounds_toArray, List.set_cons_succ, List.set_cons_zero]
    rw [e0, e1, e2, e3, e4, e5, e6, e7, e8, e9, e10, e12, e13, e14, e15, e16, e17, e18, e19, e22, e23, e24, e25, e26, e27, e28, e29, e31, e33, e34, e35]
    generalize vs 11 = u15_11
    generalize vs 20 = u15_20
    generalize vs 21 = u15_21
    generalize vs 30 = u15_30
    generalize vs 32 = u15_32
    clear e0 e1 e2 e3 e4 e5 e6 e7 e8 e9 e10 e12 e13 e14 e15 e16 e17 e18 e19 e22 e23 e24 e25 e26 e27 e28 e29 e31 e33 e34 e35 hC hn E15 hL vs L nb
    clear HE HE6 HDN HS1 HC1 HC2
    clear B12 B13
    clear BM BA BB B0 B1 B2 B3 HM0 K0 K1 K2 K3
    replace E := E.drop.drop
    go_wp2
    go_roundw
    case rel => exact ⟨1, by first | rfl | go_num, by omega, by omega, E⟩
    case measure => first | (simp [intOf]; omega) | simp [intOf] | decide
  ·have KJ := K1.out
   go_upto_region 7 with (fail)
   refine region_fr (C := [Fq.is (.int .i64 1), Fq.is (.slice (some ⟨b6_18, 0, none⟩) 4 4), Fq.is (.int .i64 ((4 : Nat) : Int)), Fq.is (.bool true)]) (ks := [none, none, none, none, none, none]) (new := []) E rfl (by kernel_rfl) rfl rfl (fun hp => ⟨?_, ?_, ?_, ?_, trivial⟩) ?_
   ·exact q_move hp (free_of rfl) trivial (sqo 10)
   ·exact q_move hp (free_of rfl) trivial (sqo 9)
   ·exact q_lenT_algoristref06_Sum hp (free_of rfl) trivial (sqi 1) (fun _ => rfl)
   ·exact q_two (F := fun v _ => v = .int .i64 1) (G := fun v _ => v = .int .i64 ((4 : Nat) : Int)) hp (free_of rfl) trivial (sqi 0) (sqi 2) (fun ρ w hc h h' => ⟨.bool true, by simp [execOp, go_sem, h, h'], rfl⟩)
   intro L vs w16 nb hL hC hn E16
   have e0 : vs 0 = .int .i64 1 := hC 0 (by simp)
   have e1 : vs 1 = .slice (some ⟨b6_18, 0, none⟩) 4 4 := hC 1 (by simp)
   have e2 : vs 2 = .int .i64 ((4 : Nat) : Int) := hC 2 (by simp)
   have e3 : vs 3 = .bool true := hC 3 (by simp)
   have E : Fr w [(b6_18, 32, Fq.st [.n S0.x, .n S0.y, .v (.bool S0.i), .n d0, .v (.int .i64 er0), .n S1.x, .n S1.y, .v (.bool S1.i), .n d1, .v (.int .i64 er1), .n S2.x, .n S2.y, .v (.bool S2.i), .n d2, .v (.int .i64 er2), .n S3.x, .n S3.y, .v (.bool S3.i), .n d3, .v (.int .i64 er3)]), (b5_6, 6, Fq.st [.n a, .n b, .n m]), (b5_7, 5, Fq.st [.n x, .n y, .v (.bool false)]), (b5_8, 5, Fq.st [.n T.x, .n T.y, .v (.bool T.i)]), (b2, 2, Fq.raw neg ao n c xs), (b1, 5, Fq.st [.v (.int .u8 M9), .v (.int .u8 A), .v (.int .u8 X), .v (.int .u8 Y), .v (.int .u16 Q)])] w16 := E16
   rw [lay_all hL]
   simp only [putAll, dstOf, List.length_cons, List.length_nil, Nat.zero_add, Nat.reduceAdd, List.getElem?_toArray, List.getElem?_cons_zero, List.getElem?_cons_succ, Option.bind_some, Act.put, List.setIfInBounds_toArray, List.set_cons_succ, List.set_cons_zero]
   rw [e0, e1, e2, e3]
   clear e0 e1 e2 e3 hC hn E16 hL vs L nb
   rcases KJ with ⟨he, hd, hon⟩ | ⟨he, hdv⟩
   ·have HE := hidd he
    have HSG : Hid (cmpI d1 0 = 0) := cmpIq0.2 hd
    have HON := hidd hon
    clear he hd hon
    go_upto_region 9 with (fail)
    refine region_fr (C := [Fq.is (.slice (some ⟨b6_18, 0, none⟩) 4 4), Fq.is (.int .i64 1), Fq.is (.pointer (some ⟨b6_18, 8, none⟩)), Fq.is (.pointer (some ⟨b6_18, 15, none⟩)), Fq.is (.int .i64 er1), Fq.is (.bool true)]) (ks := [none, none, none, none, none, none]) (new := []) E rfl (by kernel_rfl) rfl rfl (fun hp => ⟨?_, ?_, ?_, ?_, ?_, ?_, trivial⟩) ?_
    ·exact q_move hp (free_of rfl) trivial (sqo 9)
    ·exact q_move hp (free_of rfl) trivial (sqo 10)
    ·exact q_two (F := fun v _ => v = .slice (some ⟨b6_18, 0, none⟩) 4 4) (G := fun v _ => v = .int .i64 1) hp (free_of rfl) trivial (sqi 0) (sqi 1) (fun ρ w hc h h' => ⟨_, by simp [execOp, go_sem, h, h', hc], rfl⟩)
    ·exact q_addr (b := b6_18) (off := 8) (off' := 15) hp (free_of rfl) trivial (sqi 2) (fun ρ w h => by simp [execOp, go_sem, h]) (fun _ => rfl)
    ·exact q_load1 (off := 15) (fs := [.n S0.x, .n S0.y, .v (.bool S0.i), .n d0, .v (.int .i64 er0), .n S1.x, .n S1.y, .v (.bool S1.i), .n d1, .v (.int .i64 er1), .n S2.x, .n S2.y, .v (.bool S2.i), .n d2, .v (.int .i64 er2), .n S3.x, .n S3.y, .v (.bool S3.i), .n d3, .v (.int .i64 er3)]) (u := .int .i64 er1) hp (free_of rfl) trivial (mq 0 rfl) (.inl rfl) rfl rfl (fun ρ w b h1 h2 => by simp [execOp, go_sem, h1, h2]) (sqi 3) (fun _ => rfl)
    ·exact q_one (F := fun v _ => v = .int .i64 er1) hp (free_of rfl) trivial (sqi 4) (fun ρ w hc h => ⟨.bool true, by simp [execOp, go_sem, h, hc, HE.out], rfl⟩)
    intro L vs w17 nb hL hC hn E17
    have e0 : vs 0 = .slice (some ⟨b6_18, 0, none⟩) 4 4 := hC 0 (by simp)
    have e1 : vs 1 = .int .i64 1 := hC 1 (by simp)
    have e2 : vs 2 = .pointer (some ⟨b6_18, 8, none⟩) := hC 2 (by simp)
    have e3 : vs 3 = .pointer (some ⟨b6_18, 15, none⟩) := hC 3 (by simp)
    have e4 : vs 4 = .int .i64 er1 := hC 4 (by simp)
    have e5 : vs 5 = .bool true := hC 5 (by simp)
    have E : Fr w [(b6_18, 32, Fq.st [.n S0.x, .n S0.y, .v (.bool S0.i), .n d0, .v (.int .i64 er0), .n S1.x, .n S1.y, .v (.bool S1.i), .n d1, .v (.int .i64 er1), .n S2.x, .n S2.y, .v (.bool S2.i), .n d2, .v (.int .i64 er2), .n S3.x, .n S3.y, .v (.bool S3.i), .n d3, .v (.int .i64 er3)]), (b5_6, 6, Fq.st [.n a, .n b, .n m]), (b5_7, 5, Fq.st [.n x, .n y, .v (.bool false)]), (b5_8, 5, Fq.st [.n T.x, .n T.y, .v (.bool T.i)]), (b2, 2, Fq.raw neg ao n c xs), (b1, 5, Fq.st [.v (.int .u8 M9), .v (.int .u8 A), .v (.int .u8 X), .v (.int .u8 Y), .v (.int .u16 Q)])] w17 := E17
    rw [lay_all hL]
    simp only [putAll, dstOf, List.length_cons, List.length_nil, Nat.zero_add, Nat.reduceAdd, List.getElem?_toArray, List.getElem?_cons_zero, List.getElem?_cons_succ, Option.bind_some, Act.put, List.setIfInBounds_toArray, List.set_cons_succ, List.set_cons_zero]
    rw [e0, e1, e2, e3, e4, e5]
    clear e0 e1 e2 e3 e4 e5 hC hn E17 hL vs L nb
    go_upto_region 10 with (fail)
    refine region_fr (C := [Fq.st [.n a, .n b, .n m], Fq.is (.slice (some ⟨b6_18, 0, none⟩) 4 4), Fq.is (.int .i64 1), Fq.is (.pointer (some ⟨b6_18, 8, none⟩)), Fq.is (.pointer (some ⟨b6_18, 8, none⟩)), Fq.st [.n S1.x, .n S1.y, .v (.bool S1.i)], Fq.is (.bool true), Fq.is (.bool false), Fq.is (.bool false), Fq.is (.slice (some ⟨b6_18, 0, none⟩) 4 4), Fq.is (.int .i64 1), Fq.is (.pointer (some ⟨b6_18, 8, none⟩)), Fq.is (.pointer (some ⟨b6_18, 13, none⟩)), Fq.num d1, Fq.is (.int .i64 (cmpI d1 0)), Fq.is (.bool false), Fq.is (.bool false)]) (ks := [none, none, none, none, none, none]) (new := []) E rfl (by kernel_rfl) rfl rfl (fun hp => ⟨?_, ?_, ?_, ?_, ?_, ?_, ?_, ?_, ?_, ?_, ?_, ?_, ?_, ?_, ?_, ?_, ?_, trivial⟩) ?_
    ·exact q_loadSt (off := 0) (l := 6) (fs := [.n a, .n b, .n m]) (gs := [.n a, .n b, .n m]) hp (free_of rfl) trivial (mq 1 rfl) (.inl rfl) rfl row_api_Mod rfl (sqo 6) (fun v w h => h)
    ·exact q_move hp (free_of rfl) trivial (sqo 9)
    ·exact q_move hp (free_of rfl) trivial (sqo 10)
    ·exact q_two (F := fun v _ => v = .slice (some ⟨b6_18, 0, none⟩) 4 4) (G := fun v _ => v = .int .i64 1) hp (free_of rfl) trivial (sqi 1) (sqi 2) (fun ρ w hc h h' => ⟨_, by simp [execOp, go_sem, h, h', hc], rfl⟩)
    ·exact q_addr (b := b6_18) (off := 8) (off' := 8) hp (free_of rfl) trivial (sqi 3) (fun ρ w h => by simp [execOp, go_sem, h]) (fun _ => rfl)
    ·exact q_loadSt (off := 8) (l := 5) (fs := [.n S0.x, .n S0.y, .v (.bool S0.i), .n d0, .v (.int .i64 er0), .n S1.x, .n S1.y, .v (.bool S1.i), .n d1, .v (.int .i64 er1), .n S2.x, .n S2.y, .v (.bool S2.i), .n d2, .v (.int .i64 er2), .n S3.x, .n S3.y, .v (.bool S3.i), .n d3, .v (.int .i64 er3)]) (gs := [.n S1.x, .n S1.y, .v (.bool S1.i)]) hp (free_of rfl) trivial (mq 0 rfl) (.inl rfl) rfl row_api_Point rfl (sqi 4) (fun v w h => h)
    ·exact q_call2 (F := (Fq.st [.n a, .n b, .n m]).P) (G := (Fq.st [.n S1.x, .n S1.y, .v (.bool S1.i)]).P) hp (free_of rfl) trivial (enq_f_algorist_point_On) (sqi 0) (sqi 5) (fun v v' w h h' => exOn (x := S1.x) (y := S1.y) (i := S1.i) h h' BM.out BA.out BB.out B1.out.1.1 B1.out.1.2 HON.out)
    ·exact q_one (F := fun v _ => v = .bool true) hp (free_of rfl) trivial (sqi 6) (fun ρ w _ h => ⟨.bool false, by simp [execOp, go_sem, h], rfl⟩)
    ·exact q_move hp (free_of rfl) trivial (sqi 7)
    ·exact q_move hp (free_of rfl) gqi (sqo 9)
    ·exact q_move hp (free_of rfl) gqi (sqo 10)
    ·exact q_two (F := fun v _ => v = .slice (some ⟨b6_18, 0, none⟩) 4 4) (G := fun v _ => v = .int .i64 1) hp (free_of rfl) gqi (sqi 9) (sqi 10) (fun ρ w hc h h' => ⟨_, by simp [execOp, go_sem, h, h', hc], rfl⟩)
    ·exact q_addr (b := b6_18) (off := 8) (off' := 13) hp (free_of rfl) gqi (sqi 11) (fun ρ w h => by simp [execOp, go_sem, h]) (fun _ => rfl)
    ·exact q_loadSt (off := 13) (l := 2) (fs := [.n S0.x, .n S0.y, .v (.bool S0.i), .n d0, .v (.int .i64 er0), .n S1.x, .n S1.y, .v (.bool S1.i), .n d1, .v (.int .i64 er1), .n S2.x, .n S2.y, .v (.bool S2.i), .n d2, .v (.int .i64 er2), .n S3.x, .n S3.y, .v (.bool S3.i), .n d3, .v (.int .i64 er3)]) (gs := [.n d1]) hp (free_of rfl) gqi (mq 0 rfl) (.inl rfl) rfl row_api_Int rfl (sqi 12) (fun v w h => st_num h)
    ·exact q_call1 (F := (Fq.num d1).P) hp (free_of rfl) gqi (enq_Sign) (sqi 13) (fun v w h => exSign h)
    ·exact q_one (F := fun v _ => v = .int .i64 (cmpI d1 0)) hp (free_of rfl) gqi (sqi 14) (fun ρ w hc h => ⟨.bool false, by simp [execOp, go_sem, h, hc, HSG.out], rfl⟩)
    ·exact q_two (F := fun v _ => v = .bool false) (G := fun v _ => v = .bool false) hp (free_of rfl) trivial (sqi 8) (sqi 15) (fun ρ w hc h h' => ⟨_, by simp [execOp, go_sem, h, h'], rfl⟩)
    intro L vs w18 nb hL hC hn E18
    have e1 : vs 1 = .slice (some ⟨b6_18, 0, none⟩) 4 4 := hC 1 (by simp)
    have e2 : vs 2 = .int .i64 1 := hC 2 (by simp)
    have e3 : vs 3 = .pointer (some ⟨b6_18, 8, none⟩) := hC 3 (by simp)
    have e4 : vs 4 = .pointer (some ⟨b6_18, 8, none⟩) := hC 4 (by simp)
    have e6 : vs 6 = .bool true := hC 6 (by simp)
    have e7 : vs 7 = .bool false := hC 7 (by simp)
    have e8 : vs 8 = .bool false := hC 8 (by simp)
    have e9 : vs 9 = .slice (some ⟨b6_18, 0, none⟩) 4 4 := hC 9 (by simp)
    have e10 : vs 10 = .int .i64 1 := hC 10 (by simp)
    have e11 : vs 11 = .pointer (some ⟨b6_18, 8, none⟩) := hC 11 (by simp)
    have e12 : vs 12 = .pointer (some ⟨b6_18, 13, none⟩) := hC 12 (by simp)
    have e14 : vs 14 = .int .i64 (cmpI d1 0) := hC 14 (by simp)
    have e15 : vs 15 = .bool false := hC 15 (by simp)
    have e16 : vs 16 = .bool false := hC 16 (by simp)
    have E : Fr w [(b6_18, 32, Fq.st [.n S0.x, .n S0.y, .v (.bool S0.i), .n d0, .v (.int .i64 er0), .n S1.x, .n S1.y, .v (.bool S1.i), .n d1, .v (.int .i64 er1), .n S2.x, .n S2.y, .v (.bool S2.i), .n d2, .v (.int .i64 er2), .n S3.x, .n S3.y, .v (.bool S3.i), .n d3, .v (.int .i64 er3)]), (b5_6, 6, Fq.st [.n a, .n b, .n m]), (b5_7, 5, Fq.st [.n x, .n y, .v (.bool false)]), (b5_8, 5, Fq.st [.n T.x, .n T.y, .v (.bool T.i)]), (b2, 2, Fq.raw neg ao n c xs), (b1, 5, Fq.st [.v (.int .u8 M9), .v (.int .u8 A), .v (.int .u8 X), .v (.int .u8 Y), .v (.int .u16 Q)])] w18 := E18
    rw [lay_all hL]
    simp only [putAll, dstOf, List.length_cons, List.length_nil, Nat.zero_add, Nat.reduceAdd, List.getElem?_toArray, List.getElem?_cons_zero, List.getElem?_cons_succ, Option.bind_some, Act.put, List.setIfInBounds_toArray, List.set_cons_succ, List.set_cons_zero]
    rw [e1, e2, e3, e4, e6, e7, e8, e9, e10, e11, e12, e14, e15, e16]
    generalize vs 0 = u18_0
    generalize vs 5 = u18_5
    generalize vs 13 = u18_13
    clear e1 e2 e3 e4 e6 e7 e8 e9 e10 e11 e12 e14 e15 e16 hC hn E18 hL vs L nb
    clear HE HSG HON
    clear BM BA BB B0 B1 B2 B3 HM0 K0 K1 K2 K3
    go_wp2
    go_roundw
    case rel => exact ⟨2, by first | rfl | go_num, by omega, by omega, E⟩
    case measure => first | (simp [intOf]; omega) | simp [intOf] | decide
   ·have HE : Hid (¬ er1 = 0) := by show ¬ _; omega
    have HE6 := hidd he
    have HDN : Hid (d1 ≠ 0) := by have := hdv.1; show _ ≠ _; omega
    have HS1 : Hid (cmpI (m % d1) 0 = 0) := cmpIq0.2 hdv.2.2
    have HC1 : Hid (¬ cmpI d1 1 ≤ 0) := by have := hdv.1; have := cmpIqgt.2 this; show ¬ _; omega
    have HC2 : Hid (cmpI d1 m < 0) := cmpIqlt.2 hdv.2.1
    clear he hdv
    go_upto_region 9 with (fail)
    refine region_fr (C := [Fq.is (.slice (some ⟨b6_18, 0, none⟩) 4 4), Fq.is (.int .i64 1), Fq.is (.pointer (some ⟨b6_18, 8, none⟩)), Fq.is (.pointer (some ⟨b6_18, 15, none⟩)), Fq.is (.int .i64 er1), Fq.is (.bool false)]) (ks := [none, none, none, none, none, none]) (new := []) E rfl (by kernel_rfl) rfl rfl (fun hp => ⟨?_, ?_, ?_, ?_, ?_, ?_, trivial⟩) ?_
    ·exact q_move hp (free_of rfl) trivial (sqo 9)
    ·exact q_move hp (free_of rfl) trivial (sqo 10)
    ·exact q_two (F := fun v _ => v = .slice (some ⟨b6_18, 0, none⟩) 4 4) (G := fun v _ => v = .int .i64 1) hp (free_of rfl) trivial (sqi 0) (sqi 1) (fun ρ w hc h h' => ⟨_, by simp [execOp, go_sem, h, h', hc], rfl⟩)
    ·exact q_addr (b := b6_18) (off := 8) (off' := 15) hp (free_of rfl) trivial (sqi 2) (fun ρ w h => by simp [execOp, go_sem, h]) (fun _ => rfl)
    ·exact q_load1 (off := 15) (fs := [.n S0.x, .n S0.y, .v (.bool S0.i), .n d0, .v (.int .i64 er0), .n S1.x, .n S1.y, .v (.bool S1.i), .n d1, .v (.int .i64 er1), .n S2.x, .n S2.y, .v (.bool S2.i), .n d2, .v (.int .i64 er2), .n S3.x, .n S3.y, .v (.bool S3.i), .n d3, .v (.int .i64 er3)]) (u := .int .i64 er1) hp (free_of rfl) trivial (mq 0 rfl) (.inl rfl) rfl rfl (fun ρ w b h1 h2 => by simp [execOp, go_sem, h1, h2]) (sqi 3) (fun _ => rfl)
    ·exact q_one (F := fun v _ => v = .int .i64 er1) hp (free_of rfl) trivial (sqi 4) (fun ρ w hc h => ⟨.bool false, by simp [execOp, go_sem, h, hc, HE.out], rfl⟩)
    intro L vs w19 nb hL hC hn E19
    have e0 : vs 0 = .slice (some ⟨b6_18, 0, none⟩) 4 4 := hC 0 (by simp)
    have e1 : vs 1 = .int .i64 1 := hC 1 (by simp)
    have e2 : vs 2 = .pointer (some ⟨b6_18, 8, none⟩) := hC 2 (by simp)
    have e3 : vs 3 = .pointer (some ⟨b6_18, 15, none⟩) := hC 3 (by simp)
    have e4 : vs 4 = .int .i64 er1 := hC 4 (by simp)
    have e5 : vs 5 = .bool false := hC 5 (by simp)
    have E : Fr w [(b6_18, 32, Fq.st [.n S0.x, .n S0.y, .v (.bool S0.i), .n d0, .v (.int .i64 er0), .n S1.x, .n S1.y, .v (.bool S1.i), .n d1, .v (.int .i64 er1), .n S2.x, .n S2.y, .v (.bool S2.i), .n d2, .v (.int .i64 er2), .n S3.x, .n S3.y, .v (.bool S3.i), .n d3, .v (.int .i64 er3)]), (b5_6, 6, Fq.st [.n a, .n b, .n m]), (b5_7, 5, Fq.st [.n x, .n y, .v (.bool false)]), (b5_8, 5, Fq.st [.n T.x, .n T.y, .v (.bool T.i)]), (b2, 2, Fq.raw neg ao n c xs), (b1, 5, Fq.st [.v (.int .u8 M9), .v (.int .u8 A), .v (.int .u8 X), .v (.int .u8 Y), .v (.int .u16 Q)])] w19 := E19
    rw [lay_all hL]
    simp only [putAll, dstOf, List.length_cons, List.length_nil, Nat.zero_add, Nat.reduceAdd, List.getElem?_toArray, List.getElem?_cons_zero, List.getElem?_cons_succ, Option.bind_some, Act.put, List.setIfInBounds_toArray, List.set_cons_succ, List.set_cons_zero]
    rw [e0, e1, e2, e3, e4, e5]
    clear e0 e1 e2 e3 e4 e5 hC hn E19 hL vs L nb
    go_upto_region 12 with (fail)
    have B20 : Hid (ab ((m / d1)) < pw 6) := ab_divB BM.out (by omega)
    have B21 : Hid (ab ((m % d1)) < pw 5) := ab_modB HDN.out B1.out.2
    refine region_fr (C := [Fq.is (.pointer (some ⟨b5_6, 4, none⟩)), Fq.num m, Fq.is (.slice (some ⟨b6_18, 0, none⟩) 4 4), Fq.is (.int .i64 1), Fq.is (.pointer (some ⟨b6_18, 8, none⟩)), Fq.is (.pointer (some ⟨b6_18, 13, none⟩)), Fq.num d1, Fq.tup3 (Fq.num (m / d1)) (Fq.num (m % d1)) (Fq.is (.int .i64 0)), Fq.tup3 (Fq.num (m / d1)) (Fq.num (m % d1)) (Fq.is (.int .i64 0)), Fq.num (m / d1), Fq.num (m % d1), Fq.is (.int .i64 0), Fq.any, Fq.any, Fq.any, Fq.any, Fq.is (.int .i64 0)]) (ks := [none, none, none, none, none, none]) (new := [⟨12, 14, 2, Fq.num 0, Fq.num (m / d1), none⟩, ⟨13, 15, 2, Fq.num 0, Fq.num (m % d1), none⟩]) E rfl (by kernel_rfl) rfl rfl (fun hp => ⟨?_, ?_, ?_, ?_, ?_, ?_, ?_, ?_, ?_, ?_, ?_, ?_, ?_, ?_, ?_, ?_, ?_, trivial⟩) ?_
    ·exact q_addr (b := b5_6) (off := 0) (off' := 4) hp (free_of rfl) trivial (sqo 6) (fun ρ w h => by simp [execOp, go_sem, h]) (fun _ => rfl)
    ·exact q_loadSt (off := 4) (l := 2) (fs := [.n a, .n b, .n m]) (gs := [.n m]) hp (free_of rfl) trivial (mq 1 rfl) (.inl rfl) rfl row_api_Int rfl (sqi 0) (fun v w h => st_num h)
    ·exact q_move hp (free_of rfl) trivial (sqo 9)
    ·exact q_move hp (free_of rfl) trivial (sqo 10)
    ·exact q_two (F := fun v _ => v = .slice (some ⟨b6_18, 0, none⟩) 4 4) (G := fun v _ => v = .int .i64 1) hp (free_of rfl) trivial (sqi 2) (sqi 3) (fun ρ w hc h h' => ⟨_, by simp [execOp, go_sem, h, h', hc], rfl⟩)
    ·exact q_addr (b := b6_18) (off := 8) (off' := 13) hp (free_of rfl) trivial (sqi 4) (fun ρ w h => by simp [execOp, go_sem, h]) (fun _ => rfl)
    ·exact q_loadSt (off := 13) (l := 2) (fs := [.n S0.x, .n S0.y, .v (.bool S0.i), .n d0, .v (.int .i64 er0), .n S1.x, .n S1.y, .v (.bool S1.i), .n d1, .v (.int .i64 er1), .n S2.x, .n S2.y, .v (.bool S2.i), .n d2, .v (.int .i64 er2), .n S3.x, .n S3.y, .v (.bool S3.i), .n d3, .v (.int .i64 er3)]) (gs := [.n d1]) hp (free_of rfl) trivial (mq 0 rfl) (.inl rfl) rfl row_api_Int rfl (sqi 5) (fun v w h => st_num h)
    ·exact q_call2 (F := (Fq.num m).P) (G := (Fq.num d1).P) hp (free_of rfl) trivial (enq_DivMod) (sqi 1) (sqi 6) (fun v v' w h h' => exDMq h h' HDN.out B20.out B21.out (by omega) (by omega))
    ·exact q_move hp (free_of rfl) trivial (sqi 7)
    ·exact q_extract3 hp (free_of rfl) trivial (sqi 8) (fun v1 v2 v3 w h1 h2 h3 => ⟨_, rfl, h1⟩)
    ·exact q_extract3 hp (free_of rfl) trivial (sqi 8) (fun v1 v2 v3 w h1 h2 h3 => ⟨_, rfl, h2⟩)
    ·exact q_extract3 hp (free_of rfl) trivial (sqi 8) (fun v1 v2 v3 w h1 h2 h3 => ⟨_, rfl, h3⟩)
    ·exact q_allocInt hp (mq 0 rfl) rfl rfl rfl rfl (Nat.ne_of_beq_eq_false rfl) (fun _ _ => trivial) (old_ne rfl) (newk_ne rfl) (fun w => Num.zero w)
    ·exact q_allocInt hp (mq 1 rfl) rfl rfl rfl rfl (Nat.ne_of_beq_eq_false rfl) (fun _ _ => trivial) (old_ne rfl) (newk_ne rfl) (fun w => Num.zero w)
    ·exact q_storeNewInt hp (mq 0 rfl) rfl rfl rfl (own_ptr rfl rfl (by simp) rfl) (sq_in 9 rfl rfl (by simp) rfl (fun v w h => intV_num h)) (fun _ _ => trivial) (old_ne rfl) (newi_ne rfl)
    ·exact q_storeNewInt hp (mq 1 rfl) rfl rfl rfl (own_ptr rfl rfl (by simp) rfl) (sq_in 10 rfl rfl (by simp) rfl (fun v w h => intV_num h)) (fun _ _ => trivial) (old_ne rfl) (newi_ne rfl)
    ·exact q_assign hp (free_of rfl) trivial (sqi 11)
    intro L vs w22 nb hL hC hn E22
    have e0 : vs 0 = .pointer (some ⟨b5_6, 4, none⟩) := hC 0 (by simp)
    have e2 : vs 2 = .slice (some ⟨b6_18, 0, none⟩) 4 4 := hC 2 (by simp)
    have e3 : vs 3 = .int .i64 1 := hC 3 (by simp)
    have e4 : vs 4 = .pointer (some ⟨b6_18, 8, none⟩) := hC 4 (by simp)
    have e5 : vs 5 = .pointer (some ⟨b6_18, 13, none⟩) := hC 5 (by simp)
    have e11 : vs 11 = .int .i64 0 := hC 11 (by simp)
    have e16 : vs 16 = .int .i64 0 := hC 16 (by simp)
    have e12 : vs 12 = .pointer (some ⟨nb 12, 0, none⟩) := hn _ (mq 0 rfl)
    have e13 : vs 13 = .pointer (some ⟨nb 13, 0, none⟩) := hn _ (mq 1 rfl)
    have E : Fr w [(nb 12, 2, Fq.num (m / d1)), (nb 13, 2, Fq.num (m % d1)), (b6_18, 32, Fq.st [.n S0.x, .n S0.y, .v (.bool S0.i), .n d0, .v (.int .i64 er0), .n S1.x, .n S1.y, .v (.bool S1.i), .n d1, .v (.int .i64 er1), .n S2.x, .n S2.y, .v (.bool S2.i), .n d2, .v (.int .i64 er2), .n S3.x, .n S3.y, .v (.bool S3.i), .n d3, .v (.int .i64 er3)]), (b5_6, 6, Fq.st [.n a, .n b, .n m]), (b5_7, 5, Fq.st [.n x, .n y, .v (.bool false)]), (b5_8, 5, Fq.st [.n T.x, .n T.y, .v (.bool T.i)]), (b2, 2, Fq.raw neg ao n c xs), (b1, 5, Fq.st [.v (.int .u8 M9), .v (.int .u8 A), .v (.int .u8 X), .v (.int .u8 Y), .v (.int .u16 Q)])] w22 := E22
    rw [lay_all hL]
    simp only [putAll, dstOf, List.length_cons, List.length_nil, Nat.zero_add, Nat.reduceAdd, List.getElem?_toArray, List.getElem?_cons_zero, List.getElem?_cons_succ, Option.bind_some, Act.put, List.setIfInBounds_toArray, List.set_cons_succ, List.set_cons_zero]
    rw [e0, e2, e3, e4, e5, e11, e16, e12, e13]
    generalize nb 12 = b22_12 at E ⊢
    generalize nb 13 = b22_13 at E ⊢
    generalize vs 1 = u22_1
    generalize vs 6 = u22_6
    generalize vs 7 = u22_7
    generalize vs 8 = u22_8
    generalize vs 9 = u22_9
    generalize vs 10 = u22_10
    clear e0 e2 e3 e4 e5 e11 e16 e12 e13 hC hn E22 hL vs L nb
    go_upto_region 13 with (fail)
    refine region_fr (C := [Fq.is (.slice (some ⟨b6_18, 0, none⟩) 4 4), Fq.is (.int .i64 1), Fq.is (.pointer (some ⟨b6_18, 8, none⟩)), Fq.is (.pointer (some ⟨b6_18, 15, none⟩)), Fq.is (.int .i64 er1), Fq.is (.bool false), Fq.is (.bool false), Fq.is (.int .i64 0), Fq.is (.bool false), Fq.is (.bool false), Fq.is (.bool false), Fq.num (m % d1), Fq.is (.int .i64 (cmpI (m % d1) 0)), Fq.is (.bool false), Fq.is (.bool false), Fq.is (.bool false), Fq.is (.slice (some ⟨b6_18, 0, none⟩) 4 4), Fq.is (.int .i64 1), Fq.is (.pointer (some ⟨b6_18, 8, none⟩)), Fq.is (.pointer (some ⟨b6_18, 13, none⟩)), Fq.num d1, Fq.num 1, Fq.is (.int .i64 (cmpI d1 1)), Fq.is (.bool false), Fq.is (.bool false), Fq.is (.bool false), Fq.is (.slice (some ⟨b6_18, 0, none⟩) 4 4), Fq.is (.int .i64 1), Fq.is (.pointer (some ⟨b6_18, 8, none⟩)), Fq.is (.pointer (some ⟨b6_18, 13, none⟩)), Fq.num d1, Fq.is (.pointer (some ⟨b5_6, 4, none⟩)), Fq.num m, Fq.is (.int .i64 (cmpI d1 m)), Fq.is (.bool false), Fq.is (.bool false)]) (ks := [none, none, none, none, none, none, none, none]) (new := []) E rfl (by kernel_rfl) rfl rfl (fun hp => ⟨?_, ?_, ?_, ?_, ?_, ?_, ?_, ?_, ?_, ?_, ?_, ?_, ?_, ?_, ?_, ?_, ?_, ?_, ?_, ?_, ?_, ?_, ?_, ?_, ?_, ?_, ?_, ?_, ?_, ?_, ?_, ?_, ?_, ?_, ?_, ?_, trivial⟩) ?_
    ·exact q_move hp (free_of rfl) trivial (sqo 9)
    ·exact q_move hp (free_of rfl) trivial (sqo 10)
    ·exact q_two (F := fun v _ => v = .slice (some ⟨b6_18, 0, none⟩) 4 4) (G := fun v _ => v = .int .i64 1) hp (free_of rfl) trivial (sqi 0) (sqi 1) (fun ρ w hc h h' => ⟨_, by simp [execOp, go_sem, h, h', hc], rfl⟩)
    ·exact q_addr (b := b6_18) (off := 8) (off' := 15) hp (free_of rfl) trivial (sqi 2) (fun ρ w h => by simp [execOp, go_sem, h]) (fun _ => rfl)
    ·exact q_load1 (off := 15) (fs := [.n S0.x, .n S0.y, .v (.bool S0.i), .n d0, .v (.int .i64 er0), .n S1.x, .n S1.y, .v (.bool S1.i), .n d1, .v (.int .i64 er1), .n S2.x, .n S2.y, .v (.bool S2.i), .n d2, .v (.int .i64 er2), .n S3.x, .n S3.y, .v (.bool S3.i), .n d3, .v (.int .i64 er3)]) (u := .int .i64 er1) hp (free_of rfl) trivial (mq 2 rfl) (.inl rfl) rfl rfl (fun ρ w b h1 h2 => by simp [execOp, go_sem, h1, h2]) (sqi 3) (fun _ => rfl)
    ·exact q_one (F := fun v _ => v = .int .i64 er1) hp (free_of rfl) trivial (sqi 4) (fun ρ w hc h => ⟨.bool false, by simp [execOp, go_sem, h, hc, HE6.out], rfl⟩)
    ·exact q_move hp (free_of rfl) trivial (sqi 5)
    ·exact q_move hp (free_of rfl) gqi (sqo 13)
    ·exact q_one (F := fun v _ => v = .int .i64 0) hp (free_of rfl) gqi (sqi 7) (fun ρ w hc h => ⟨.bool false, by simp [execOp, go_sem, h, hc], rfl⟩)
    ·exact q_two (F := fun v _ => v = .bool false) (G := fun v _ => v = .bool false) hp (free_of rfl) trivial (sqi 6) (sqi 8) (fun ρ w hc h h' => ⟨_, by simp [execOp, go_sem, h, h'], rfl⟩)
    ·exact q_move hp (free_of rfl) trivial (sqi 9)
    ·exact q_loadInt (off := 0) hp (free_of rfl) gqi (mq 1 rfl) (.inl rfl) (Nat.le_of_ble_eq_true rfl) (sqo 12) (fun us w hl h => ld_num hl h)
    ·exact q_call1 (F := (Fq.num (m % d1)).P) hp (free_of rfl) gqi (enq_Sign) (sqi 11) (fun v w h => exSign h)
    ·exact q_one (F := fun v _ => v = .int .i64 (cmpI (m % d1) 0)) hp (free_of rfl) gqi (sqi 12) (fun ρ w hc h => ⟨.bool false, by simp [execOp, go_sem, h, hc, HS1.out], rfl⟩)
    ·exact q_two (F := fun v _ => v = .bool false) (G := fun v _ => v = .bool false) hp (free_of rfl) trivial (sqi 10) (sqi 13) (fun ρ w hc h h' => ⟨_, by simp [execOp, go_sem, h, h'], rfl⟩)
    ·exact q_move hp (free_of rfl) trivial (sqi 14)
    ·exact q_move hp (free_of rfl) gqi (sqo 9)
    ·exact q_move hp (free_of rfl) gqi (sqo 10)
    ·exact q_two (F := fun v _ => v = .slice (some ⟨b6_18, 0, none⟩) 4 4) (G := fun v _ => v = .int .i64 1) hp (free_of rfl) gqi (sqi 16) (sqi 17) (fun ρ w hc h h' => ⟨_, by simp [execOp, go_sem, h, h', hc], rfl⟩)
    ·exact q_addr (b := b6_18) (off := 8) (off' := 13) hp (free_of rfl) gqi (sqi 18) (fun ρ w h => by simp [execOp, go_sem, h]) (fun _ => rfl)
    ·exact q_loadSt (off := 13) (l := 2) (fs := [.n S0.x, .n S0.y, .v (.bool S0.i), .n d0, .v (.int .i64 er0), .n S1.x, .n S1.y, .v (.bool S1.i), .n d1, .v (.int .i64 er1), .n S2.x, .n S2.y, .v (.bool S2.i), .n d2, .v (.int .i64 er2), .n S3.x, .n S3.y, .v (.bool S3.i), .n d3, .v (.int .i64 er3)]) (gs := [.n d1]) hp (free_of rfl) gqi (mq 2 rfl) (.inl rfl) rfl row_api_Int rfl (sqi 19) (fun v w h => st_num h)
    ·exact q_call1 (F := (Fq.is (.int .i64 1)).P) hp (free_of rfl) gqi (enq_R_Of) (sq_const (fun _ => rfl)) (fun v w h => (by subst h; exact rOfK w 1 (by omega) (by omega)))
    ·exact q_call2 (F := (Fq.num d1).P) (G := (Fq.num 1).P) hp (free_of rfl) gqi (enq_Cmp) (sqi 20) (sqi 21) (fun v v' w h h' => exCmp h h')
    ·exact q_one (F := fun v _ => v = .int .i64 (cmpI d1 1)) hp (free_of rfl) gqi (sqi 22) (fun ρ w hc h => ⟨.bool false, by simp [execOp, go_sem, h, hc, HC1.out], rfl⟩)
    ·exact q_two (F := fun v _ => v = .bool false) (G := fun v _ => v = .bool false) hp (free_of rfl) trivial (sqi 15) (sqi 23) (fun ρ w hc h h' => ⟨_, by simp [execOp, go_sem, h, h'], rfl⟩)
    ·exact q_move hp (free_of rfl) trivial (sqi 24)
    ·exact q_move hp (free_of rfl) gqi (sqo 9)
    ·exact q_move hp (free_of rfl) gqi (sqo 10)
    ·exact q_two (F := fun v _ => v = .slice (some ⟨b6_18, 0, none⟩) 4 4) (G := fun v _ => v = .int .i64 1) hp (free_of rfl) gqi (sqi 26) (sqi 27) (fun ρ w hc h h' => ⟨_, by simp [execOp, go_sem, h, h', hc], rfl⟩)
    ·exact q_addr (b := b6_18) (off := 8) (off' := 13) hp (free_of rfl) gqi (sqi 28) (fun ρ w h => by simp [execOp, go_sem, h]) (fun _ => rfl)
    ·exact q_loadSt (off := 13) (l := 2) (fs := [.n S0.x, .n S0.y, .v (.bool S0.i), .n d0, .v (.int .i64 er0), .n S1.x, .n S1.y, .v (.bool S1.i), .n d1, .v (.int .i64 er1), .n S2.x, .n S2.y, .v (.bool S2.i), .n d2, .v (.int .i64 er2), .n S3.x, .n S3.y, .v (.bool S3.i), .n d3, .v (.int .i64 er3)]) (gs := [.n d1]) hp (free_of rfl) gqi (mq 2 rfl) (.inl rfl) rfl row_api_Int rfl (sqi 29) (fun v w h => st_num h)
    ·exact q_addr (b := b5_6) (off := 0) (off' := 4) hp (free_of rfl) gqi (sqo 6) (fun ρ w h => by simp [execOp, go_sem, h]) (fun _ => rfl)
    ·exact q_loadSt (off := 4) (l := 2) (fs := [.n a, .n b, .n m]) (gs := [.n m]) hp (free_of rfl) gqi (mq 3 rfl) (.inl rfl) rfl row_api_Int rfl (sqi 31) (fun v w h => st_num h)
    ·exact q_call2 (F := (Fq.num d1).P) (G := (Fq.num m).P) hp (free_of rfl) gqi (enq_Cmp) (sqi 30) (sqi 32) (fun v v' w h h' => exCmp h h')
    ·exact q_one (F := fun v _ => v = .int .i64 (cmpI d1 m)) hp (free_of rfl) gqi (sqi 33) (fun ρ w hc h => ⟨.bool false, by simp [execOp, go_sem, h, hc, HC2.out], rfl⟩)
    ·exact q_two (F := fun v _ => v = .bool false) (G := fun v _ => v = .bool false) hp (free_of rfl) trivial (sqi 25) (sqi 34) (fun ρ w hc h h' => ⟨_, by simp [execOp, go_sem, h, h'], rfl⟩)
    intro L vs w23 nb hL hC hn E23
    have e0 : vs 0 = .slice (some ⟨b6_18, 0, none⟩) 4 4 := hC 0 (by simp)
    have e1 : vs 1 = .int .i64 1 := hC 1 (by simp)
    have e2 : vs 2 = .pointer (some ⟨b6_18, 8, none⟩) := hC 2 (by simp)
    have e3 : vs 3 = .pointer (some ⟨b6_18, 15, none⟩) := hC 3 (by simp)
    have e4 : vs 4 = .int .i64 er1 := hC 4 (by simp)
    have e5 : vs 5 = .bool false := hC 5 (by simp)
    have e6 : vs 6 = .bool false := hC 6 (by simp)
    have e7 : vs 7 = .int .i64 0 := hC 7 (by simp)
    have e8 : vs 8 = .bool false := hC 8 (by simp)
    have e9 : vs 9 = .bool false := hC 9 (by simp)
    have e10 : vs 10 = .bool false := hC 10 (by simp)
    have e12 : vs 12 = .int .i64 (cmpI (m % d1) 0) := hC 12 (by simp)
    have e13 : vs 13 = .bool false := hC 13 (by simp)
    have e14 : vs 14 = .bool false := hC 14 (by simp)
    have e15 : vs 15 = .bool false := hC 15 (by simp)
    have e16 : vs 16 = .slice (some ⟨b6_18, 0, none⟩) 4 4 := hC 16 (by simp)
    have e17 : vs 17 = .int .i64 1 := hC 17 (by simp)
    have e18 : vs 18 = .pointer (some ⟨b6_18, 8, none⟩) := hC 18 (by simp)
    have e19 : vs 19 = .pointer (some ⟨b6_18, 13, none⟩) := hC 19 (by simp)
    have e22 : vs 22 = .int .i64 (cmpI d1 1) := hC 22 (by simp)
    have e23 : vs 23 = .bool false := hC 23 (by simp)
    have e24 : vs 24 = .bool false := hC 24 (by simp)
    have e25 : vs 25 = .bool false := hC 25 (by simp)
    have e26 : vs 26 = .slice (some ⟨b6_18, 0, none⟩) 4 4 := hC 26 (by simp)
    have e27 : vs 27 = .int .i64 1 := hC 27 (by simp)
    have e28 : vs 28 = .pointer (some ⟨b6_18, 8, none⟩) := hC 28 (by simp)
    have e29 : vs 29 = .pointer (some ⟨b6_18, 13, none⟩) := hC 29 (by simp)
    have e31 : vs 31 = .pointer (some ⟨b5_6, 4, none⟩) := hC 31 (by simp)
    have e33 : vs 33 = .int .i64 (cmpI d1 m) := hC 33 (by simp)
    have e34 : vs 34 = .bool false := hC 34 (by simp)
    have e35 : vs 35 = .bool false := hC 35 (by simp)
    have E : Fr w [(b22_12, 2, Fq.num (m / d1)), (b22_13, 2, Fq.num (m % d1)), (b6_18, 32, Fq.st [.n S0.x, .n S0.y, .v (.bool S0.i), .n d0, .v (.int .i64 er0), .n S1.x, .n S1.y, .v (.bool S1.i), .n d1, .v (.int .i64 er1), .n S2.x, .n S2.y, .v (.bool S2.i), .n d2, .v (.int .i64 er2), .n S3.x, .n S3.y, .v (.bool S3.i), .n d3, .v (.int .i64 er3)]), (b5_6, 6, Fq.st [.n a, .n b, .n m]), (b5_7, 5, Fq.st [.n x, .n y, .v (.bool false)]), (b5_8, 5, Fq.st [.n T.x, .n T.y, .v (.bool T.i)]), (b2, 2, Fq.raw neg ao n c xs), (b1, 5, Fq.st [.v (.int .u8 M9), .v (.int .u8 A), .v (.int .u8 X), .v (.int .u8 Y), .v (.int .u16 Q)])] w23 := E23
    rw [lay_all hL]
    simp only [putAll, dstOf, List.length_cons, List.length_nil, Nat.zero_add, Nat.reduceAdd, List.getElem?_toArray, List.getElem?_cons_zero, List.getElem?_cons_succ, Option.bind_some, Act.put, List.setIfInBounds_toArray, List.set_cons_succ, List.set_cons_zero]
    rw [e0, e1, e2, e3, e4, e5, e6, e7, e8, e9, e10, e12, e13, e14, e15, e16, e17, e18, e19, e22, e23, e24, e25, e26, e27, e28, e29, e31, e33, e34, e35]
    generalize vs 11 = u23_11
    generalize vs 20 = u23_20
    generalize vs 21 = u23_21
    generalize vs 30 = u23_30
    generalize vs 32 = u23_32
    clear e0 e1 e2 e3 e4 e5 e6 e7 e8 e9 e10 e12 e13 e14 e15 e16 e17 e18 e19 e22 e23 e24 e25 e26 e27 e28 e29 e31 e33 e34 e35 hC hn E23 hL vs L nb
    clear HE HE6 HDN HS1 HC1 HC2
    clear B20 B21
    clear BM BA BB B0 B1 B2 B3 HM0 K0 K1 K2 K3
    replace E := E.drop.drop
    go_wp2
    go_roundw
    case rel => exact ⟨2, by first | rfl | go_num, by omega, by omega, E⟩
    case measure => first | (simp [intOf]; omega) | simp [intOf] | decide
  ·have KJ := K2.out
   go_upto_region 7 with (fail)
   refine region_fr (C := [Fq.is (.int .i64 2), Fq.is (.slice (some ⟨b6_18, 0, none⟩) 4 4), Fq.is (.int .i64 ((4 : Nat) : Int)), Fq.is (.bool true)]) (ks := [none, none, none, none, none, none]) (new := []) E rfl (by kernel_rfl) rfl rfl (fun hp => ⟨?_, ?_, ?_, ?_, trivial⟩) ?_
   ·exact q_move hp (free_of rfl) trivial (sqo 10)
   ·exact q_move hp (free_of rfl) trivial (sqo 9)
   ·exact q_lenT_algoristref06_Sum hp (free_of rfl) trivial (sqi 1) (fun _ => rfl)
   ·exact q_two (F := fun v _ => v = .int .i64 2) (G := fun v _ => v = .int .i64 ((4 : Nat) : Int)) hp (free_of rfl) trivial (sqi 0) (sqi 2) (fun ρ w hc h h' => ⟨.bool true, by simp [execOp, go_sem, h, h'], rfl⟩)
   intro L vs w24 nb hL hC hn E24
   have e0 : vs 0 = .int .i64 2 := hC 0 (by simp)
   have e1 : vs 1 = .slice (some ⟨b6_18, 0, none⟩) 4 4 := hC 1 (by simp)
   have e2 : vs 2 = .int .i64 ((4 : Nat) : Int) := hC 2 (by simp)
   have e3 : vs 3 = .bool true := hC 3 (by simp)
   have E : Fr w [(b6_18, 32, Fq.st [.n S0.x, .n S0.y, .v (.bool S0.i), .n d0, .v (.int .i64 er0), .n S1.x, .n S1.y, .v (.bool S1.i), .n d1, .v (.int .i64 er1), .n S2.x, .n S2.y, .v (.bool S2.i), .n d2, .v (.int .i64 er2), .n S3.x, .n S3.y, .v (.bool S3.i), .n d3, .v (.int .i64 er3)]), (b5_6, 6, Fq.st [.n a, .n b, .n m]), (b5_7, 5, Fq.st [.n x, .n y, .v (.bool false)]), (b5_8, 5, Fq.st [.n T.x, .n T.y, .v (.bool T.i)]), (b2, 2, Fq.raw neg ao n c xs), (b1, 5, Fq.st [.v (.int .u8 M9), .v (.int .u8 A), .v (.int .u8 X), .v (.int .u8 Y), .v (.int .u16 Q)])] w24 := E24
   rw [lay_all hL]
   simp only [putAll, dstOf, List.length_cons, List.length_nil, Nat.zero_add, Nat.reduceAdd, List.getElem?_toArray, List.getElem?_cons_zero, List.getElem?_cons_succ, Option.bind_some, Act.put, List.setIfInBounds_toArray, List.set_cons_succ, List.set_cons_zero]
   rw [e0, e1, e2, e3]
   clear e0 e1 e2 e3 hC hn E24 hL vs L nb
   rcases KJ with ⟨he, hd, hon⟩ | ⟨he, hdv⟩
   ·have HE := hidd he
    have HSG : Hid (cmpI d2 0 = 0) := cmpIq0.2 hd
    have HON := hidd hon
    clear he hd hon
    go_upto_region 9 with (fail)
    refine region_fr (C := [Fq.is (.slice (some ⟨b6_18, 0, none⟩) 4 4), Fq.is (.int .i64 2), Fq.is (.pointer (some ⟨b6_18, 16, none⟩)), Fq.is (.pointer (some ⟨b6_18, 23, none⟩)), Fq.is (.int .i64 er2), Fq.is (.bool true)]) (ks := [none, none, none, none, none, none]) (new := []) E rfl (by kernel_rfl) rfl rfl (fun hp => ⟨?_, ?_, ?_, ?_, ?_, ?_, trivial⟩) ?_
    ·exact q_move hp (free_of rfl) trivial (sqo 9)
    ·exact q_move hp (free_of rfl) trivial (sqo 10)
    ·exact q_two (F := fun v _ => v = .slice (some ⟨b6_18, 0, none⟩) 4 4) (G := fun v _ => v = .int .i64 2) hp (free_of rfl) trivial (sqi 0) (sqi 1) (fun ρ w hc h h' => ⟨_, by simp [execOp, go_sem, h, h', hc], rfl⟩)
    ·exact q_addr (b := b6_18) (off := 16) (off' := 23) hp (free_of rfl) trivial (sqi 2) (fun ρ w h => by simp [execOp, go_sem, h]) (fun _ => rfl)
    ·exact q_load1 (off := 23) (fs := [.n S0.x, .n S0.y, .v (.bool S0.i), .n d0, .v (.int .i64 er0), .n S1.x, .n S1.y, .v (.bool S1.i), .n d1, .v (.int .i64 er1), .n S2.x, .n S2.y, .v (.bool S2.i), .n d2, .v (.int .i64 er2), .n S3.x, .n S3.y, .v (.bool S3.i), .n d3, .v (.int .i64 er3)]) (u := .int .i64 er2) hp (free_of rfl) trivial (mq 0 rfl) (.inl rfl) rfl rfl (fun ρ w b h1 h2 => by simp [execOp, go_sem, h1, h2]) (sqi 3) (fun _ => rfl)
    ·exact q_one (F := fun v _ => v = .int .i64 er2) hp (free_of rfl) trivial (sqi 4) (fun ρ w hc h => ⟨.bool true, by simp [execOp, go_sem, h, hc, HE.out], rfl⟩)
    intro L vs w25 nb hL hC hn E25
    have e0 : vs 0 = .slice (some ⟨b6_18, 0, none⟩) 4 4 := hC 0 (by simp)
    have e1 : vs 1 = .int .i64 2 := hC 1 (by simp)
    have e2 : vs 2 = .pointer (some ⟨b6_18, 16, none⟩) := hC 2 (by simp)
    have e3 : vs 3 = .pointer (some ⟨b6_18, 23, none⟩) := hC 3 (by simp)
    have e4 : vs 4 = .int .i64 er2 := hC 4 (by simp)
    have e5 : vs 5 = .bool true := hC 5 (by simp)
    have E : Fr w [(b6_18, 32, Fq.st [.n S0.x, .n S0.y, .v (.bool S0.i), .n d0, .v (.int .i64 er0), .n S1.x, .n S1.y, .v (.bool S1.i), .n d1, .v (.int .i64 er1), .n S2.x, .n S2.y, .v (.bool S2.i), .n d2, .v (.int .i64 er2), .n S3.x, .n S3.y, .v (.bool S3.i), .n d3, .v (.int .i64 er3)]), (b5_6, 6, Fq.st [.n a, .n b, .n m]), (b5_7, 5, Fq.st [.n x, .n y, .v (.bool false)]), (b5_8, 5, Fq.st [.n T.x, .n T.y, .v (.bool T.i)]), (b2, 2, Fq.raw neg ao n c xs), (b1, 5, Fq.st [.v (.int .u8 M9), .v (.int .u8 A), .v (.int .u8 X), .v (.int .u8 Y), .v (.int .u16 Q)])] w25 := E25
    rw [lay_all hL]
    simp only [putAll, dstOf, List.length_cons, List.length_nil, Nat.zero_add, Nat.reduceAdd, List.getElem?_toArray, List.getElem?_cons_zero, List.getElem?_cons_succ, Option.bind_some, Act.put, List.setIfInBounds_toArray, List.set_cons_succ, List.set_cons_zero]
    rw [e0, e1, e2, e3, e4, e5]
    clear e0 e1 e2 e3 e4 e5 hC hn E25 hL vs L nb
    go_upto_region 10 with (fail)
    refine region_fr (C := [Fq.st [.n a, .n b, .n m], Fq.is (.slice (some ⟨b6_18, 0, none⟩) 4 4), Fq.is (.int .i64 2), Fq.is (.pointer (some ⟨b6_18, 16, none⟩)), Fq.is (.pointer (some ⟨b6_18, 16, none⟩)), Fq.st [.n S2.x, .n S2.y, .v (.bool S2.i)], Fq.is (.bool true), Fq.is (.bool false), Fq.is (.bool false), Fq.is (.slice (some ⟨b6_18, 0, none⟩) 4 4), Fq.is (.int .i64 2), Fq.is (.pointer (some ⟨b6_18, 16, none⟩)), Fq.is (.pointer (some ⟨b6_18, 21, none⟩)), Fq.num d2, Fq.is (.int .i64 (cmpI d2 0)), Fq.is (.bool false), Fq.is (.bool false)]) (ks := [none, none, none, none, none, none]) (new := []) E rfl (by kernel_rfl) rfl rfl (fun hp => ⟨?_, ?_, ?_, ?_, ?_, ?_, ?_, ?_, ?_, ?_, ?_, ?_, ?_, ?_, ?_, ?_, ?_, trivial⟩) ?_
    ·exact q_loadSt (off := 0) (l := 6) (fs := [.n a, .n b, .n m]) (gs := [.n a, .n b, .n m]) hp (free_of rfl) trivial (mq 1 rfl) (.inl rfl) rfl row_api_Mod rfl (sqo 6) (fun v w h => h)
    ·exact q_move hp (free_of rfl) trivial (sqo 9)
    ·exact q_move hp (free_of rfl) trivial (sqo 10)
    ·exact q_two (F := fun v _ => v = .slice (some ⟨b6_18, 0, none⟩) 4 4) (G := fun v _ => v = .int .i64 2) hp (free_of rfl) trivial (sqi 1) (sqi 2) (fun ρ w hc h h' => ⟨_, by simp [execOp, go_sem, h, h', hc], rfl⟩)
    ·exact q_addr (b := b6_18) (off := 16) (off' := 16) hp (free_of rfl) trivial (sqi 3) (fun ρ w h => by simp [execOp, go_sem, h]) (fun _ => rfl)
    ·exact q_loadSt (off := 16) (l := 5) (fs := [.n S0.x, .n S0.y, .v (.bool S0.i), .n d0, .v (.int .i64 er0), .n S1.x, .n S1.y, .v (.bool S1.i), .n d1, .v (.int .i64 er1), .n S2.x, .n S2.y, .v (.bool S2.i), .n d2, .v (.int .i64 er2), .n S3.x, .n S3.y, .v (.bool S3.i), .n d3, .v (.int .i64 er3)]) (gs := [.n S2.x, .n S2.y, .v (.bool S2.i)]) hp (free_of rfl) trivial (mq 0 rfl) (.inl rfl) rfl row_api_Point rfl (sqi 4) (fun v w h => h)
    ·exact q_call2 (F := (Fq.st [.n a, .n b, .n m]).P) (G := (Fq.st [.n S2.x, .n S2.y, .v (.bool S2.i)]).P) hp (free_of rfl) trivial (enq_f_algorist_point_On) (sqi 0) (sqi 5) (fun v v' w h h' => exOn (x := S2.x) (y := S2.y) (i := S2.i) h h' BM.out BA.out BB.out B2.out.1.1 B2.out.1.2 HON.out)
    ·exact q_one (F := fun v _ => v = .bool true) hp (free_of rfl) trivial (sqi 6) (fun ρ w _ h => ⟨.bool false, by simp [execOp, go_sem, h], rfl⟩)
    ·exact q_move hp (free_of rfl) trivial (sqi 7)
    ·exact q_move hp (free_of rfl) gqi (sqo 9)
    ·exact q_move hp (free_of rfl) gqi (sqo 10)
    ·exact q_two (F := fun v _ => v = .slice (some ⟨b6_18, 0, none⟩) 4 4) (G := fun v _ => v = .int .i64 2) hp (free_of rfl) gqi (sqi 9) (sqi 10) (fun ρ w hc h h' => ⟨_, by simp [execOp, go_sem, h, h', hc], rfl⟩)
    ·exact q_addr (b := b6_18) (off := 16) (off' := 21) hp (free_of rfl) gqi (sqi 11) (fun ρ w h => by simp [execOp, go_sem, h]) (fun _ => rfl)
    ·exact q_loadSt (off := 21) (l := 2) (fs := [.n S0.x, .n S0.y, .v (.bool S0.i), .n d0, .v (.int .i64 er0), .n S1.x, .n S1.y, .v (.bool S1.i), .n d1, .v (.int .i64 er1), .n S2.x, .n S2.y, .v (.bool S2.i), .n d2, .v (.int .i64 er2), .n S3.x, .n S3.y, .v (.bool S3.i), .n d3, .v (.int .i64 er3)]) (gs := [.n d2]) hp (free_of rfl) gqi (mq 0 rfl) (.inl rfl) rfl row_api_Int rfl (sqi 12) (fun v w h => st_num h)
    ·exact q_call1 (F := (Fq.num d2).P) hp (free_of rfl) gqi (enq_Sign) (sqi 13) (fun v w h => exSign h)
    ·exact q_one (F := fun v _ => v = .int .i64 (cmpI d2 0)) hp (free_of rfl) gqi (sqi 14) (fun ρ w hc h => ⟨.bool false, by simp [execOp, go_sem, h, hc, HSG.out], rfl⟩)
    ·exact q_two (F := fun v _ => v = .bool false) (G := fun v _ => v = .bool false) hp (free_of rfl) trivial (sqi 8) (sqi 15) (fun ρ w hc h h' => ⟨_, by simp [execOp, go_sem, h, h'], rfl⟩)
    intro L vs w26 nb hL hC hn E26
    have e1 : vs 1 = .slice (some ⟨b6_18, 0, none⟩) 4 4 := hC 1 (by simp)
    have e2 : vs 2 = .int .i64 2 := hC 2 (by simp)
    have e3 : vs 3 = .pointer (some ⟨b6_18, 16, none⟩) := hC 3 (by simp)
    have e4 : vs 4 = .pointer (some ⟨b6_18, 16, none⟩) := hC 4 (by simp)
    have e6 : vs 6 = .bool true := hC 6 (by simp)
    have e7 : vs 7 = .bool false := hC 7 (by simp)
    have e8 : vs 8 = .bool false := hC 8 (by simp)
    have e9 : vs 9 = .slice (some ⟨b6_18, 0, none⟩) 4 4 := hC 9 (by simp)
    have e10 : vs 10 = .int .i64 2 := hC 10 (by simp)
    have e11 : vs 11 = .pointer (some ⟨b6_18, 16, none⟩) := hC 11 (by simp)
    have e12 : vs 12 = .pointer (some ⟨b6_18, 21, none⟩) := hC 12 (by simp)
    have e14 : vs 14 = .int .i64 (cmpI d2 0) := hC 14 (by simp)
    have e15 : vs 15 = .bool false := hC 15 (by simp)
    have e16 : vs 16 = .bool false := hC 16 (by simp)
    have E : Fr w [(b6_18, 32, Fq.st [.n S0.x, .n S0.y, .v (.bool S0.i), .n d0, .v (.int .i64 er0), .n S1.x, .n S1.y, .v (.bool S1.i), .n d1, .v (.int .i64 er1), .n S2.x, .n S2.y, .v (.bool S2.i), .n d2, .v (.int .i64 er2), .n S3.x, .n S3.y, .v (.bool S3.i), .n d3, .v (.int .i64 er3)]), (b5_6, 6, Fq.st [.n a, .n b, .n m]), (b5_7, 5, Fq.st [.n x, .n y, .v (.bool false)]), (b5_8, 5, Fq.st [.n T.x, .n T.y, .v (.bool T.i)]), (b2, 2, Fq.raw neg ao n c xs), (b1, 5, Fq.st [.v (.int .u8 M9), .v (.int .u8 A), .v (.int .u8 X), .v (.int .u8 Y), .v (.int .u16 Q)])] w26 := E26
    rw [lay_all hL]
    simp only [putAll, dstOf, List.length_cons, List.length_nil, Nat.zero_add, Nat.reduceAdd, List.getElem?_toArray, List.getElem?_cons_zero, List.getElem?_cons_succ, Option.bind_some, Act.put, List.setIfInBounds_toArray, List.set_cons_succ, List.set_cons_zero]
    rw [e1, e2, e3, e4, e6, e7, e8, e9, e10, e11, e12, e14, e15, e16]
    generalize vs 0 = u26_0
    generalize vs 5 = u26_5
    generalize vs 13 = u26_13
    clear e1 e2 e3 e4 e6 e7 e8 e9 e10 e11 e12 e14 e15 e16 hC hn E26 hL vs L nb
    clear HE HSG HON
    clear BM BA BB B0 B1 B2 B3 HM0 K0 K1 K2 K3
    go_wp2
    go_roundw
    case rel => exact ⟨3, by first | rfl | go_num, by omega, by omega, E⟩
    case measure => first | (simp [intOf]; omega) | simp [intOf] | decide
   ·have HE : Hid (¬ er2 = 0) := by show ¬ _; omega
    have HE6 := hidd he
    have HDN : Hid (d2 ≠ 0) := by have := hdv.1; show _ ≠ _; omega
    have HS1 : Hid (cmpI (m % d2) 0 = 0) := cmpIq0.2 hdv.2.2
    have HC1 : Hid (¬ cmpI d2 1 ≤ 0) := by have := hdv.1; have := cmpIqgt.2 this; show ¬ _; omega
    have HC2 : Hid (cmpI d2 m < 0) := cmpIqlt.2 hdv.2.1
    clear he hdv
    go_upto_region 9 with (fail)
    refine region_fr (C := [Fq.is (.slice (some ⟨b6_18, 0, none⟩) 4 4), Fq.is (.int .i64 2), Fq.is (.pointer (some ⟨b6_18, 16, none⟩)), Fq.is (.pointer (some ⟨b6_18, 23, none⟩)), Fq.is (.int .i64 er2), Fq.is (.bool false)]) (ks := [none, none, none, none, none, none]) (new := []) E rfl (by kernel_rfl) rfl rfl (fun hp => ⟨?_, ?_, ?_, ?_, ?_, ?_, trivial⟩) ?_
    ·exact q_move hp (free_of rfl) trivial (sqo 9)
    ·exact q_move hp (free_of rfl) trivial (sqo 10)
    ·exact q_two (F := fun v _ => v = .slice (some ⟨b6_18, 0, none⟩) 4 4) (G := fun v _ => v = .int .i64 2) hp (free_of rfl) trivial (sqi 0) (sqi 1) (fun ρ w hc h h' => ⟨_, by simp [execOp, go_sem, h, h', hc], rfl⟩)
    ·exact q_addr (b := b6_18) (off := 16) (off' := 23) hp (free_of rfl) trivial (sqi 2) (fun ρ w h => by simp [execOp, go_sem, h]) (fun _ => rfl)
    ·exact q_load1 (off := 23) (fs := [.n S0.x, .n S0.y, .v (.bool S0.i), .n d0, .v (.int .i64 er0), .n S1.x, .n S1.y, .v (.bool S1.i), .n d1, .v (.int .i64 er1), .n S2.x, .n S2.y, .v (.bool S2.i), .n d2, .v (.int .i64 er2), .n S3.x, .n S3.y, .v (.bool S3.i), .n d3, .v (.int .i64 er3)]) (u := .int .i64 er2) hp (free_of rfl) trivial (mq 0 rfl) (.inl rfl) rfl rfl (fun ρ w b h1 h2 => by simp [execOp, go_sem, h1, h2]) (sqi 3) (fun _ => rfl)
    ·exact q_one (F := fun v _ => v = .int .i64 er2) hp (free_of rfl) trivial (sqi 4) (fun ρ w hc h => ⟨.bool false, by simp [execOp, go_sem, h, hc, HE.out], rfl⟩)
    intro L vs w27 nb hL hC hn E27
    have e0 : vs 0 = .slice (some ⟨b6_18, 0, none⟩) 4 4 := hC 0 (by simp)
    have e1 : vs 1 = .int .i64 2 := hC 1 (by simp)
    have e2 : vs 2 = .pointer (some ⟨b6_18, 16, none⟩) := hC 2 (by simp)
    have e3 : vs 3 = .pointer (some ⟨b6_18, 23, none⟩) := hC 3 (by simp)
    have e4 : vs 4 = .int .i64 er2 := hC 4 (by simp)
    have e5 : vs 5 = .bool false := hC 5 (by simp)
    have E : Fr w [(b6_18, 32, Fq.st [.n S0.x, .n S0.y, .v (.bool S0.i), .n d0, .v (.int .i64 er0), .n S1.x, .n S1.y, .v (.bool S1.i), .n d1, .v (.int .i64 er1), .n S2.x, .n S2.y, .v (.bool S2.i), .n d2, .v (.int .i64 er2), .n S3.x, .n S3.y, .v (.bool S3.i), .n d3, .v (.int .i64 er3)]), (b5_6, 6, Fq.st [.n a, .n b, .n m]), (b5_7, 5, Fq.st [.n x, .n y, .v (.bool false)]), (b5_8, 5, Fq.st [.n T.x, .n T.y, .v (.bool T.i)]), (b2, 2, Fq.raw neg ao n c xs), (b1, 5, Fq.st [.v (.int .u8 M9), .v (.int .u8 A), .v (.int .u8 X), .v (.int .u8 Y), .v (.int .u16 Q)])] w27 := E27
    rw [lay_all hL]
    simp only [putAll, dstOf, List.length_cons, List.length_nil, Nat.zero_add, Nat.reduceAdd, List.getElem?_toArray, List.getElem?_cons_zero, List.getElem?_cons_succ, Option.bind_some, Act.put, List.setIfInBounds_toArray, List.set_cons_succ, List.set_cons_zero]
    rw [e0, e1, e2, e3, e4, e5]
    clear e0 e1 e2 e3 e4 e5 hC hn E27 hL vs L nb
    go_upto_region 12 with (fail)
    have B28 : Hid (ab ((m / d2)) < pw 6) := ab_divB BM.out (by omega)
    have B29 : Hid (ab ((m % d2)) < pw 5) := ab_modB HDN.out B2.out.2
    refine region_fr (C := [Fq.is (.pointer (some ⟨b5_6, 4, none⟩)), Fq.num m, Fq.is (.slice (some ⟨b6_18, 0, none⟩) 4 4), Fq.is (.int .i64 2), Fq.is (.pointer (some ⟨b6_18, 16, none⟩)), Fq.is (.pointer (some ⟨b6_18, 21, none⟩)), Fq.num d2, Fq.tup3 (Fq.num (m / d2)) (Fq.num (m % d2)) (Fq.is (.int .i64 0)), Fq.tup3 (Fq.num (m / d2)) (Fq.num (m % d2)) (Fq.is (.int .i64 0)), Fq.num (m / d2), Fq.num (m % d2), Fq.is (.int .i64 0), Fq.any, Fq.any, Fq.any, Fq.any, Fq.is (.int .i64 0)]) (ks := [none, none, none, none, none, none]) (new := [⟨12, 14, 2, Fq.num 0, Fq.num (m / d2), none⟩, ⟨13, 15, 2, Fq.num 0, Fq.num (m % d2), none⟩]) E rfl (by kernel_rfl) rfl rfl (fun hp => ⟨?_, ?_, ?_, ?_, ?_, ?_, ?_, ?_, ?_, ?_, ?_, ?_, ?_, ?_, ?_, ?_, ?_, trivial⟩) ?_
    ·exact q_addr (b := b5_6) (off := 0) (off' := 4) hp (free_of rfl) trivial (sqo 6) (fun ρ w h => by simp [execOp, go_sem, h]) (fun _ => rfl)
    ·exact q_loadSt (off := 4) (l := 2) (fs := [.n a, .n b, .n m]) (gs := [.n m]) hp (free_of rfl) trivial (mq 1 rfl) (.inl rfl) rfl row_api_Int rfl (sqi 0) (fun v w h => st_num h)
    ·exact q_move hp (free_of rfl) trivial (sqo 9)
    ·exact q_move hp (free_of rfl) trivial (sqo 10)
    ·exact q_two (F := fun v _ => v = .slice (some ⟨b6_18, 0, none⟩) 4 4) (G := fun v _ => v = .int .i64 2) hp (free_of rfl) trivial (sqi 2) (sqi 3) (fun ρ w hc h h' => ⟨_, by simp [execOp, go_sem, h, h', hc], rfl⟩)
    ·exact q_addr (b := b6_18) (off := 16) (off' := 21) hp (free_of rfl) trivial (sqi 4) (fun ρ w h => by simp [execOp, go_sem, h]) (fun _ => rfl)
    ·exact q_loadSt (off := 21) (l := 2) (fs := [.n S0.x, .n S0.y, .v (.bool S0.i), .n d0, .v (.int .i64 er0), .n S1.x, .n S1.y, .v (.bool S1.i), .n d1, .v (.int .i64 er1), .n S2.x, .n S2.y, .v (.bool S2.i), .n d2, .v (.int .i64 er2), .n S3.x, .n S3.y, .v (.bool S3.i), .n d3, .v (.int .i64 er3)]) (gs := [.n d2]) hp (free_of rfl) trivial (mq 0 rfl) (.inl rfl) rfl row_api_Int rfl (sqi 5) (fun v w h => st_num h)
    ·exact q_call2 (F := (Fq.num m).P) (G := (Fq.num d2).P) hp (free_of rfl) trivial (enq_DivMod) (sqi 1) (sqi 6) (fun v v' w h h' => exDMq h h' HDN.out B28.out B29.out (by omega) (by omega))
    ·exact q_move hp (free_of rfl) trivial (sqi 7)
    ·exact q_extract3 hp (free_of rfl) trivial (sqi 8) (fun v1 v2 v3 w h1 h2 h3 => ⟨_, rfl, h1⟩)
    ·exact q_extract3 hp (free_of rfl) trivial (sqi 8) (fun v1 v2 v3 w h1 h2 h3 => ⟨_, rfl, h2⟩)
    ·exact q_extract3 hp (free_of rfl) trivial (sqi 8) (fun v1 v2 v3 w h1 h2 h3 => ⟨_, rfl, h3⟩)
    ·exact q_allocInt hp (mq 0 rfl) rfl rfl rfl rfl (Nat.ne_of_beq_eq_false rfl) (fun _ _ => trivial) (old_ne rfl) (newk_ne rfl) (fun w => Num.zero w)
    ·exact q_allocInt hp (mq 1 rfl) rfl rfl rfl rfl (Nat.ne_of_beq_eq_false rfl) (fun _ _ => trivial) (old_ne rfl) (newk_ne rfl) (fun w => Num.zero w)
    ·exact q_storeNewInt hp (mq 0 rfl) rfl rfl rfl (own_ptr rfl rfl (by simp) rfl) (sq_in 9 rfl rfl (by simp) rfl (fun v w h => intV_num h)) (fun _ _ => trivial) (old_ne rfl) (newi_ne rfl)
    ·exact q_storeNewInt hp (mq 1 rfl) rfl rfl rfl (own_ptr rfl rfl (by simp) rfl) (sq_in 10 rfl rfl (by simp) rfl (fun v w h => intV_num h)) (fun _ _ => trivial) (old_ne rfl) (newi_ne rfl)
    ·exact q_assign hp (free_of rfl) trivial (sqi 11)
    intro L vs w30 nb hL hC hn E30
    have e0 : vs 0 = .pointer (some ⟨b5_6, 4, none⟩) := hC 0 (by simp)
    have e2 : vs 2 = .slice (some ⟨b6_18, 0, none⟩) 4 4 := hC 2 (by simp)
    have e3 : vs 3 = .int .i64 2 := hC 3 (by simp)
    have e4 : vs 4 = .pointer (some ⟨b6_18, 16, none⟩) := hC 4 (by simp)
    have e5 : vs 5 = .pointer (some ⟨b6_18, 21, none⟩) := hC 5 (by simp)
    have e11 : vs 11 = .int .i64 0 := hC 11 (by simp)
    have e16 : vs 16 = .int .i64 0 := hC 16 (by simp)
    have e12 : vs 12 = .pointer (some ⟨nb 12, 0, none⟩) := hn _ (mq 0 rfl)
    have e13 : vs 13 = .pointer (some ⟨nb 13, 0, none⟩) := hn _ (mq 1 rfl)
    have E : Fr w [(nb 12, 2, Fq.num (m / d2)), (nb 13, 2, Fq.num (m % d2)), (b6_18, 32, Fq.st [.n S0.x, .n S0.y, .v (.bool S0.i), .n d0, .v (.int .i64 er0), .n S1.x, .n S1.y, .v (.bool S1.i), .n d1, .v (.int .i64 er1), .n S2.x, .n S2.y, .v (.bool S2.i), .n d2, .v (.int .i64 er2), .n S3.x, .n S3.y, .v (.bool S3.i), .n d3, .v (.int .i64 er3)]), (b5_6, 6, Fq.st [.n a, .n b, .n m]), (b5_7, 5, Fq.st [.n x, .n y, .v (.bool false)]), (b5_8, 5, Fq.st [.n T.x, .n T.y, .v (.bool T.i)]), (b2, 2, Fq.raw neg ao n c xs), (b1, 5, Fq.st [.v (.int .u8 M9), .v (.int .u8 A), .v (.int .u8 X), .v (.int .u8 Y), .v (.int .u16 Q)])] w30 := E30
    rw [lay_all hL]
    simp only [putAll, dstOf, List.length_cons, List.length_nil, Nat.zero_add, Nat.reduceAdd, List.getElem?_toArray, List.getElem?_cons_zero, List.getElem?_cons_succ, Option.bind_some, Act.put, List.setIfInBounds_toArray, List.set_cons_succ, List.set_cons_zero]
    rw [e0, e2, e3, e4, e5, e11, e16, e12, e13]
    generalize nb 12 = b30_12 at E ⊢
    generalize nb 13 = b30_13 at E ⊢
    generalize vs 1 = u30_1
    generalize vs 6 = u30_6
    generalize vs 7 = u30_7
    generalize vs 8 = u30_8
    generalize vs 9 = u30_9
    generalize vs 10 = u30_10
    clear e0 e2 e3 e4 e5 e11 e16 e12 e13 hC hn E30 hL vs L nb
    go_upto_region 13 with (fail)
    refine region_fr (C := [Fq.is (.slice (some ⟨b6_18, 0, none⟩) 4 4), Fq.is (.int .i64 2), Fq.is (.pointer (some ⟨b6_18, 16, none⟩)), Fq.is (.pointer (some ⟨b6_18, 23, none⟩)), Fq.is (.int .i64 er2), Fq.is (.bool false), Fq.is (.bool false), Fq.is (.int .i64 0), Fq.is (.bool false), Fq.is (.bool false), Fq.is (.bool false), Fq.num (m % d2), Fq.is (.int .i64 (cmpI (m % d2) 0)), Fq.is (.bool false), Fq.is (.bool false), Fq.is (.bool false), Fq.is (.slice (some ⟨b6_18, 0, none⟩) 4 4), Fq.is (.int .i64 2), Fq.is (.pointer (some ⟨b6_18, 16, none⟩)), Fq.is (.pointer (some ⟨b6_18, 21, none⟩)), Fq.num d2, Fq.num 1, Fq.is (.int .i64 (cmpI d2 1)), Fq.is (.bool false), Fq.is (.bool false), Fq.is (.bool false), Fq.is (.slice (some ⟨b6_18, 0, none⟩) 4 4), Fq.is (.int .i64 2), Fq.is (.pointer (some ⟨b6_18, 16, none⟩)), Fq.is (.pointer (some ⟨b6_18, 21, none⟩)), Fq.num d2, Fq.is (.pointer (some ⟨b5_6, 4, none⟩)), Fq.num m, Fq.is (.int .i64 (cmpI d2 m)), Fq.is (.bool false), Fq.is (.bool false)]) (ks := [none, none, none, none, none, none, none, none]) (new := []) E rfl (by kernel_rfl) rfl rfl (fun hp => ⟨?_, ?_, ?_, ?_, ?_, ?_, ?_, ?_, ?_, ?_, ?_, ?_, ?_, ?_, ?_, ?_, ?_, ?_, ?_, ?_, ?_, ?_, ?_, ?_, ?_, ?_, ?_, ?_, ?_, ?_, ?_, ?_, ?_, ?_, ?_, ?_, trivial⟩) ?_
    ·exact q_move hp (free_of rfl) trivial (sqo 9)
    ·exact q_move hp (free_of rfl) trivial (sqo 10)
    ·exact q_two (F := fun v _ => v = .slice (some ⟨b6_18, 0, none⟩) 4 4) (G := fun v _ => v = .int .i64 2) hp (free_of rfl) trivial (sqi 0) (sqi 1) (fun ρ w hc h h' => ⟨_, by simp [execOp, go_sem, h, h', hc], rfl⟩)
    ·exact q_addr (b := b6_18) (off := 16) (off' := 23) hp (free_of rfl) trivial (sqi 2) (fun ρ w h => by simp [execOp, go_sem, h]) (fun _ => rfl)
    ·exact q_load1 (off := 23) (fs := [.n S0.x, .n S0.y, .v (.bool S0.i), .n d0, .v (.int .i64 er0), .n S1.x, .n S1.y, .v (.bool S1.i), .n d1, .v (.int .i64 er1), .n S2.x, .n S2.y, .v (.bool S2.i), .n d2, .v (.int .i64 er2), .n S3.x, .n S3.y, .v (.bool S3.i), .n d3, .v (.int .i64 er3)]) (u := .int .i64 er2) hp (free_of rfl) trivial (mq 2 rfl) (.inl rfl) rfl rfl (fun ρ w b h1 h2 => by simp [execOp, go_sem, h1, h2]) (sqi 3) (fun _ => rfl)
    ·exact q_one (F := fun v _ => v = .int .i64 er2) hp (free_of rfl) trivial (sqi 4) (fun ρ w hc h => ⟨.bool false, by simp [execOp, go_sem, h, hc, HE6.out], rfl⟩)
    ·exact q_move hp (free_of rfl) trivial (sqi 5)
    ·exact q_move hp (free_of rfl) gqi (sqo 13)
    ·exact q_one (F := fun v _ => v = .int .i64 0) hp (free_of rfl) gqi (sqi 7) (fun ρ w hc h => ⟨.bool false, by simp [execOp, go_sem, h, hc], rfl⟩)
    ·exact q_two (F := fun v _ => v = .bool false) (G := fun v _ => v = .bool false) hp (free_of rfl) trivial (sqi 6) (sqi 8) (fun ρ w hc h h' => ⟨_, by simp [execOp, go_sem, h, h'], rfl⟩)
    ·exact q_move hp (free_of rfl) trivial (sqi 9)
    ·exact q_loadInt (off := 0) hp (free_of rfl) gqi (mq 1 rfl) (.inl rfl) (Nat.le_of_ble_eq_true rfl) (sqo 12) (fun us w hl h => ld_num hl h)
    ·exact q_call1 (F := (Fq.num (m % d2)).P) hp (free_of rfl) gqi (enq_Sign) (sqi 11) (fun v w h => exSign h)
    ·exact q_one (F := fun v _ => v = .int .i64 (cmpI (m % d2) 0)) hp (free_of rfl) gqi (sqi 12) (fun ρ w hc h => ⟨.bool false, by simp [execOp, go_sem, h, hc, HS1.out], rfl⟩)
    ·exact q_two (F := fun v _ => v = .bool false) (G := fun v _ => v = .bool false) hp (free_of rfl) trivial (sqi 10) (sqi 13) (fun ρ w hc h h' => ⟨_, by simp [execOp, go_sem, h, h'], rfl⟩)
    ·exact q_move hp (free_of rfl) trivial (sqi 14)
    ·exact q_move hp (free_of rfl) gqi (sqo 9)
    ·exact q_move hp (free_of rfl) gqi (sqo 10)
    ·exact q_two (F := fun v _ => v = .slice (some ⟨b6_18, 0, none⟩) 4 4) (G := fun v _ => v = .int .i64 2) hp (free_of rfl) gqi (sqi 16) (sqi 17) (fun ρ w hc h h' => ⟨_, by simp [execOp, go_sem, h, h', hc], rfl⟩)
    ·exact q_addr (b := b6_18) (off := 16) (off' := 21) hp (free_of rfl) gqi (sqi 18) (fun ρ w h => by simp [execOp, go_sem, h]) (fun _ => rfl)
    ·exact q_loadSt (off := 21) (l := 2) (fs := [.n S0.x, .n S0.y, .v (.bool S0.i), .n d0, .v (.int .i64 er0), .n S1.x, .n S1.y, .v (.bool S1.i), .n d1, .v (.int .i64 er1), .n S2.x, .n S2.y, .v (.bool S2.i), .n d2, .v (.int .i64 er2), .n S3.x, .n S3.y, .v (.bool S3.i), .n d3, .v (.int .i64 er3)]) (gs := [.n d2]) hp (free_of rfl) gqi (mq 2 rfl) (.inl rfl) rfl row_api_Int rfl (sqi 19) (fun v w h => st_num h)
    ·exact q_call1 (F := (Fq.is (.int .i64 1)).P) hp (free_of rfl) gqi (enq_R_Of) (sq_const (fun _ => rfl)) (fun v w h => (by subst h; exact rOfK w 1 (by omega) (by omega)))
    ·exact q_call2 (F := (Fq.num d2).P) (G := (Fq.num 1).P) hp (free_of rfl) gqi (enq_Cmp) (sqi 20) (sqi 21) (fun v v' w h h' => exCmp h h')
    ·exact q_one (F := fun v _ => v = .int .i64 (cmpI d2 1)) hp (free_of rfl) gqi (sqi 22) (fun ρ w hc h => ⟨.bool false, by simp [execOp, go_sem, h, hc, HC1.out], rfl⟩)
    ·exact q_two (F := fun v _ => v = .bool false) (G := fun v _ => v = .bool false) hp (free_of rfl) trivial (sqi 15) (sqi 23) (fun ρ w hc h h' => ⟨_, by simp [execOp, go_sem, h, h'], rfl⟩)
    ·exact q_move hp (free_of rfl) trivial (sqi 24)
    ·exact q_move hp (free_of rfl) gqi (sqo 9)
    ·exact q_move hp (free_of rfl) gqi (sqo 10)
    ·exact q_two (F := fun v _ => v = .slice (some ⟨b6_18, 0, none⟩) 4 4) (G := fun v _ => v = .int .i64 2) hp (free_of rfl) gqi (sqi 26) (sqi 27) (fun ρ w hc h h' => ⟨_, by simp [execOp, go_sem, h, h', hc], rfl⟩)
    ·exact q_addr (b := b6_18) (off := 16) (off' := 21) hp (free_of rfl) gqi (sqi 28) (fun ρ w h => by simp [execOp, go_sem, h]) (fun _ => rfl)
    ·exact q_loadSt (off := 21) (l := 2) (fs := [.n S0.x, .n S0.y, .v (.bool S0.i), .n d0, .v (.int .i64 er0), .n S1.x, .n S1.y, .v (.bool S1.i), .n d1, .v (.int .i64 er1), .n S2.x, .n S2.y, .v (.bool S2.i), .n d2, .v (.int .i64 er2), .n S3.x, .n S3.y, .v (.bool S3.i), .n d3, .v (.int .i64 er3)]) (gs := [.n d2]) hp (free_of rfl) gqi (mq 2 rfl) (.inl rfl) rfl row_api_Int rfl (sqi 29) (fun v w h => st_num h)
    ·exact q_addr (b := b5_6) (off := 0) (off' := 4) hp (free_of rfl) gqi (sqo 6) (fun ρ w h => by simp [execOp, go_sem, h]) (fun _ => rfl)
    ·exact q_loadSt (off := 4) (l := 2) (fs := [.n a, .n b, .n m]) (gs := [.n m]) hp (free_of rfl) gqi (mq 3 rfl) (.inl rfl) rfl row_api_Int rfl (sqi 31) (fun v w h => st_num h)
    ·exact q_call2 (F := (Fq.num d2).P) (G := (Fq.num m).P) hp (free_of rfl) gqi (enq_Cmp) (sqi 30) (sqi 32) (fun v v' w h h' => exCmp h h')
    ·exact q_one (F := fun v _ => v = .int .i64 (cmpI d2 m)) hp (free_of rfl) gqi (sqi 33) (fun ρ w hc h => ⟨.bool false, by simp [execOp, go_sem, h, hc, HC2.out], rfl⟩)
    ·exact q_two (F := fun v _ => v = .bool false) (G := fun v _ => v = .bool false) hp (free_of rfl) trivial (sqi 25) (sqi 34) (fun ρ w hc h h' => ⟨_, by simp [execOp, go_sem, h, h'], rfl⟩)
    intro L vs w31 nb hL hC hn E31
    have e0 : vs 0 = .slice (some ⟨b6_18, 0, none⟩) 4 4 := hC 0 (by simp)
    have e1 : vs 1 = .int .i64 2 := hC 1 (by simp)
    have e2 : vs 2 = .pointer (some ⟨b6_18, 16, none⟩) := hC 2 (by simp)
    have e3 : vs 3 = .pointer (some ⟨b6_18, 23, none⟩) := hC 3 (by simp)
    have e4 : vs 4 = .int .i64 er2 := hC 4 (by simp)
    have e5 : vs 5 = .bool false := hC 5 (by simp)
    have e6 : vs 6 = .bool false := hC 6 (by simp)
    have e7 : vs 7 = .int .i64 0 := hC 7 (by simp)
    have e8 : vs 8 = .bool false := hC 8 (by simp)
    have e9 : vs 9 = .bool false := hC 9 (by simp)
    have e10 : vs 10 = .bool false := hC 10 (by simp)
    have e12 : vs 12 = .int .i64 (cmpI (m % d2) 0) := hC 12 (by simp)
    have e13 : vs 13 = .bool false := hC 13 (by simp)
    have e14 : vs 14 = .bool false := hC 14 (by simp)
    have e15 : vs 15 = .bool false := hC 15 (by simp)
    have e16 : vs 16 = .slice (some ⟨b6_18, 0, none⟩) 4 4 := hC 16 (by simp)
    have e17 : vs 17 = .int .i64 2 := hC 17 (by simp)
    have e18 : vs 18 = .pointer (some ⟨b6_18, 16, none⟩) := hC 18 (by simp)
    have e19 : vs 19 = .pointer (some ⟨b6_18, 21, none⟩) := hC 19 (by simp)
    have e22 : vs 22 = .int .i64 (cmpI d2 1) := hC 22 (by simp)
    have e23 : vs 23 = .bool false := hC 23 (by simp)
    have e24 : vs 24 = .bool false := hC 24 (by simp)
    have e25 : vs 25 = .bool false := hC 25 (by simp)
    have e26 : vs 26 = .slice (some ⟨b6_18, 0, none⟩) 4 4 := hC 26 (by simp)
    have e27 : vs 27 = .int .i64 2 := hC 27 (by simp)
    have e28 : vs 28 = .pointer (some ⟨b6_18, 16, none⟩) := hC 28 (by simp)
    have e29 : vs 29 = .pointer (some ⟨b6_18, 21, none⟩) := hC 29 (by simp)
    have e31 : vs 31 = .pointer (some ⟨b5_6, 4, none⟩) := hC 31 (by simp)
    have e33 : vs 33 = .int .i64 (cmpI d2 m) := hC 33 (by simp)
    have e34 : vs 34 = .bool false := hC 34 (by simp)
    have e35 : vs 35 = .bool false := hC 35 (by simp)
    have E : Fr w [(b30_12, 2, Fq.num (m / d2)), (b30_13, 2, Fq.num (m % d2)), (b6_18, 32, Fq.st [.n S0.x, .n S0.y, .v (.bool S0.i), .n d0, .v (.int .i64 er0), .n S1.x, .n S1.y, .v (.bool S1.i), .n d1, .v (.int .i64 er1), .n S2.x, .n S2.y, .v (.bool S2.i), .n d2, .v (.int .i64 er2), .n S3.x, .n S3.y, .v (.bool S3.i), .n d3, .v (.int .i64 er3)]), (b5_6, 6, Fq.st [.n a, .n b, .n m]), (b5_7, 5, Fq.st [.n x, .n y, .v (.bool false)]), (b5_8, 5, Fq.st [.n T.x, .n T.y, .v (.bool T.i)]), (b2, 2, Fq.raw neg ao n c xs), (b1, 5, Fq.st [.v (.int .u8 M9), .v (.int .u8 A), .v (.int .u8 X), .v (.int .u8 Y), .v (.int .u16 Q)])] w31 := E31
    rw [lay_all hL]
    simp only [putAll, dstOf, List.length_cons, List.length_nil, Nat.zero_add, Nat.reduceAdd, List.getElem?_toArray, List.getElem?_cons_zero, List.getElem?_cons_succ, Option.bind_some, Act.put, List.setIfInBounds_toArray, List.set_cons_succ, List.set_cons_zero]
    rw [e0, e1, e2, e3, e4, e5, e6, e7, e8, e9, e10, e12, e13, e14, e15, e16, e17, e18, e19, e22, e23, e24, e25, e26, e27, e28, e29, e31, e33, e34, e35]
    generalize vs 11 = u31_11
    generalize vs 20 = u31_20
    generalize vs 21 = u31_21
    generalize vs 30 = u31_30
    generalize vs 32 = u31_32
    clear e0 e1 e2 e3 e4 e5 e6 e7 e8 e9 e10 e12 e13 e14 e15 e16 e17 e18 e19 e22 e23 e24 e25 e26 e27 e28 e29 e31 e33 e34 e35 hC hn E31 hL vs L nb
    clear HE HE6 HDN HS1 HC1 HC2
    clear B28 B29
    clear BM BA BB B0 B1 B2 B3 HM0 K0 K1 K2 K3
    replace E := E.drop.drop
    go_wp2
    go_roundw
    case rel => exact ⟨3, by first | rfl | go_num, by omega, by omega, E⟩
    case measure => first | (simp [intOf]; omega) | simp [intOf] | decide
  ·have KJ := K3.out
   go_upto_region 7 with (fail)
   refine region_fr (C := [Fq.is (.int .i64 3), Fq.is (.slice (some ⟨b6_18, 0, none⟩) 4 4), Fq.is (.int .i64 ((4 : Nat) : Int)), Fq.is (.bool true)]) (ks := [none, none, none, none, none, none]) (new := []) E rfl (by kernel_rfl) rfl rfl (fun hp => ⟨?_, ?_, ?_, ?_, trivial⟩) ?_
   ·exact q_move hp (free_of rfl) trivial (sqo 10)
   ·exact q_move hp (free_of rfl) trivial (sqo 9)
   ·exact q_lenT_algoristref06_Sum hp (free_of rfl) trivial (sqi 1) (fun _ => rfl)
   ·exact q_two (F := fun v _ => v = .int .i64 3) (G := fun v _ => v = .int .i64 ((4 : Nat) : Int)) hp (free_of rfl) trivial (sqi 0) (sqi 2) (fun ρ w hc h h' => ⟨.bool true, by simp [execOp, go_sem, h, h'], rfl⟩)
   intro L vs w32 nb hL hC hn E32
   have e0 : vs 0 = .int .i64 3 := hC 0 (by simp)
   have e1 : vs 1 = .slice (some ⟨b6_18, 0, none⟩) 4 4 := hC 1 (by simp)
   have e2 : vs 2 = .int .i64 ((4 : Nat) : Int) := hC 2 (by simp)
   have e3 : vs 3 = .bool true := hC 3 (by simp)
   have E : Fr w [(b6_18, 32, Fq.st [.n S0.x, .n S0.y, .v (.bool S0.i), .n d0, .v (.int .i64 er0), .n S1.x, .n S1.y, .v (.bool S1.i), .n d1, .v (.int .i64 er1), .n S2.x, .n S2.y, .v (.bool S2.i), .n d2, .v (.int .i64 er2), .n S3.x, .n S3.y, .v (.bool S3.i), .n d3, .v (.int .i64 er3)]), (b5_6, 6, Fq.st [.n a, .n b, .n m]), (b5_7, 5, Fq.st [.n x, .n y, .v (.bool false)]), (b5_8, 5, Fq.st [.n T.x, .n T.y, .v (.bool T.i)]), (b2, 2, Fq.raw neg ao n c xs), (b1, 5, Fq.st [.v (.int .u8 M9), .v (.int .u8 A), .v (.int .u8 X), .v (.int .u8 Y), .v (.int .u16 Q)])] w32 := E32
   rw [lay_all hL]
   simp only [putAll, dstOf, List.length_cons, List.length_nil, Nat.zero_add, Nat.reduceAdd, List.getElem?_toArray, List.getElem?_cons_zero, List.getElem?_cons_succ, Option.bind_some, Act.put, List.setIfInBounds_toArray, List.set_cons_succ, List.set_cons_zero]
   rw [e0, e1, e2, e3]
   clear e0 e1 e2 e3 hC hn E32 hL vs L nb
   rcases KJ with ⟨he, hd, hon⟩ | ⟨he, hdv⟩
   ·have HE := hidd he
    have HSG : Hid (cmpI d3 0 = 0) := cmpIq0.2 hd
    have HON := hidd hon
    clear he hd hon
    go_upto_region 9 with (fail)
    refine region_fr (C := [Fq.is (.slice (some ⟨b6_18, 0, none⟩) 4 4), Fq.is (.int .i64 3), Fq.is (.pointer (some ⟨b6_18, 24, none⟩)), Fq.is (.pointer (some ⟨b6_18, 31, none⟩)), Fq.is (.int .i64 er3), Fq.is (.bool true)]) (ks := [none, none, none, none, none, none]) (new := []) E rfl (by kernel_rfl) rfl rfl (fun hp => ⟨?_, ?_, ?_, ?_, ?_, ?_, trivial⟩) ?_
    ·exact q_move hp (free_of rfl) trivial (sqo 9)
    ·exact q_move hp (free_of rfl) trivial (sqo 10)
    ·exact q_two (F := fun v _ => v = .slice (some ⟨b6_18, 0, none⟩) 4 4) (G := fun v _ => v = .int .i64 3) hp (free_of rfl) trivial (sqi 0) (sqi 1) (fun ρ w hc h h' => ⟨_, by simp [execOp, go_sem, h, h', hc], rfl⟩)
    ·exact q_addr (b := b6_18) (off := 24) (off' := 31) hp (free_of rfl) trivial (sqi 2) (fun ρ w h => by simp [execOp, go_sem, h]) (fun _ => rfl)
    ·exact q_load1 (off := 31) (fs := [.n S0.x, .n S0.y, .v (.bool S0.i), .n d0, .v (.int .i64 er0), .n S1.x, .n S1.y, .v (.bool S1.i), .n d1, .v (.int .i64 er1), .n S2.x, .n S2.y, .v (.bool S2.i), .n d2, .v (.int .i64 er2), .n S3.x, .n S3.y, .v (.bool S3.i), .n d3, .v (.int .i64 er3)]) (u := .int .i64 er3) hp (free_of rfl) trivial (mq 0 rfl) (.inl rfl) rfl rfl (fun ρ w b h1 h2 => by simp [execOp, go_sem, h1, h2]) (sqi 3) (fun _ => rfl)
    ·exact q_one (F := fun v _ => v = .int .i64 er3) hp (free_of rfl) trivial (sqi 4) (fun ρ w hc h => ⟨.bool true, by simp [execOp, go_sem, h, hc, HE.out], rfl⟩)
    intro L vs w33 nb hL hC hn E33
    have e0 : vs 0 = .slice (some ⟨b6_18, 0, none⟩) 4 4 := hC 0 (by simp)
    have e1 : vs 1 = .int .i64 3 := hC 1 (by simp)
    have e2 : vs 2 = .pointer (some ⟨b6_18, 24, none⟩) := hC 2 (by simp)
    have e3 : vs 3 = .pointer (some ⟨b6_18, 31, none⟩) := hC 3 (by simp)
    have e4 : vs 4 = .int .i64 er3 := hC 4 (by simp)
    have e5 : vs 5 = .bool true := hC 5 (by simp)
    have E : Fr w [(b6_18, 32, Fq.st [.n S0.x, .n S0.y, .v (.bool S0.i), .n d0, .v (.int .i64 er0), .n S1.x, .n S1.y, .v (.bool S1.i), .n d1, .v (.int .i64 er1), .n S2.x, .n S2.y, .v (.bool S2.i), .n d2, .v (.int .i64 er2), .n S3.x, .n S3.y, .v (.bool S3.i), .n d3, .v (.int .i64 er3)]), (b5_6, 6, Fq.st [.n a, .n b, .n m]), (b5_7, 5, Fq.st [.n x, .n y, .v (.bool false)]), (b5_8, 5, Fq.st [.n T.x, .n T.y, .v (.bool T.i)]), (b2, 2, Fq.raw neg ao n c xs), (b1, 5, Fq.st [.v (.int .u8 M9), .v (.int .u8 A), .v (.int .u8 X), .v (.int .u8 Y), .v (.int .u16 Q)])] w33 := E33
    rw [lay_all hL]
    simp only [putAll, dstOf, List.length_cons, List.length_nil, Nat.zero_add, Nat.reduceAdd, List.getElem?_toArray, List.getElem?_cons_zero, List.getElem?_cons_succ, Option.bind_some, Act.put, List.setIfInBounds_toArray, List.set_cons_succ, List.set_cons_zero]
    rw [e0, e1, e2, e3, e4, e5]
    clear e0 e1 e2 e3 e4 e5 hC hn E33 hL vs L nb
    go_upto_region 10 with (fail)
    refine region_fr (C := [Fq.st [.n a, .n b, .n m], Fq.is (.slice (some ⟨b6_18, 0, none⟩) 4 4), Fq.is (.int .i64 3), Fq.is (.pointer (some ⟨b6_18, 24, none⟩)), Fq.is (.pointer (some ⟨b6_18, 24, none⟩)), Fq.st [.n S3.x, .n S3.y, .v (.bool S3.i)], Fq.is (.bool true), Fq.is (.bool false), Fq.is (.bool false), Fq.is (.slice (some ⟨b6_18, 0, none⟩) 4 4), Fq.is (.int .i64 3), Fq.is (.pointer (some ⟨b6_18, 24, none⟩)), Fq.is (.pointer (some ⟨b6_18, 29, none⟩)), Fq.num d3, Fq.is (.int .i64 (cmpI d3 0)), Fq.is (.bool false), Fq.is (.bool false)]) (ks := [none, none, none, none, none, none]) (new := []) E rfl (by kernel_rfl) rfl rfl (fun hp => ⟨?_, ?_, ?_, ?_, ?_, ?_, ?_, ?_, ?_, ?_, ?_, ?_, ?_, ?_, ?_, ?_, ?_, trivial⟩) ?_
    ·exact q_loadSt (off := 0) (l := 6) (fs := [.n a, .n b, .n m]) (gs := [.n a, .n b, .n m]) hp (free_of rfl) trivial (mq 1 rfl) (.inl rfl) rfl row_api_Mod rfl (sqo 6) (fun v w h => h)
    ·exact q_move hp (free_of rfl) trivial (sqo 9)
    ·exact q_move hp (free_of rfl) trivial (sqo 10)
    ·exact q_two (F := fun v _ => v = .slice (some ⟨b6_18, 0, none⟩) 4 4) (G := fun v _ => v = .int .i64 3) hp (free_of rfl) trivial (sqi 1) (sqi 2) (fun ρ w hc h h' => ⟨_, by simp [execOp, go_sem, h, h', hc], rfl⟩)
    ·exact q_addr (b := b6_18) (off := 24) (off' := 24) hp (free_of rfl) trivial (sqi 3) (fun ρ w h => by simp [execOp, go_sem, h]) (fun _ => rfl)
    ·exact q_loadSt (off := 24) (l := 5) (fs := [.n S0.x, .n S0.y, .v (.bool S0.i), .n d0, .v (.int .i64 er0), .n S1.x, .n S1.y, .v (.bool S1.i), .n d1, .v (.int .i64 er1), .n S2.x, .n S2.y, .v (.bool S2.i), .n d2, .v (.int .i64 er2), .n S3.x, .n S3.y, .v (.bool S3.i), .n d3, .v (.int .i64 er3)]) (gs := [.n S3.x, .n S3.y, .v (.bool S3.i)]) hp (free_of rfl) trivial (mq 0 rfl) (.inl rfl) rfl row_api_Point rfl (sqi 4) (fun v w h => h)
    ·exact q_call2 (F := (Fq.st [.n a, .n b, .n m]).P) (G := (Fq.st [.n S3.x, .n S3.y, .v (.bool S3.i)]).P) hp (free_of rfl) trivial (enq_f_algorist_point_On) (sqi 0) (sqi 5) (fun v v' w h h' => exOn (x := S3.x) (y := S3.y) (i := S3.i) h h' BM.out BA.out BB.out B3.out.1.1 B3.out.1.2 HON.out)
    ·exact q_one (F := fun v _ => v = .bool true) hp (free_of rfl) trivial (sqi 6) (fun ρ w _ h => ⟨.bool false, by simp [execOp, go_sem, h], rfl⟩)
    ·exact q_move hp (free_of rfl) trivial (sqi 7)
    ·exact q_move hp (free_of rfl) gqi (sqo 9)
    ·exact q_move hp (free_of rfl) gqi (sqo 10)
    ·exact q_two (F := fun v _ => v = .slice (some ⟨b6_18, 0, none⟩) 4 4) (G := fun v _ => v = .int .i64 3) hp (free_of rfl) gqi (sqi 9) (sqi 10) (fun ρ w hc h h' => ⟨_, by simp [execOp, go_sem, h, h', hc], rfl⟩)
    ·exact q_addr (b := b6_18) (off := 24) (off' := 29) hp (free_of rfl) gqi (sqi 11) (fun ρ w h => by simp [execOp, go_sem, h]) (fun _ => rfl)
    ·exact q_loadSt (off := 29) (l := 2) (fs := [.n S0.x, .n S0.y, .v (.bool S0.i), .n d0, .v (.int .i64 er0), .n S1.x, .n S1.y, .v (.bool S1.i), .n d1, .v (.int .i64 er1), .n S2.x, .n S2.y, .v (.bool S2.i), .n d2, .v (.int .i64 er2), .n S3.x, .n S3.y, .v (.bool S3.i), .n d3, .v (.int .i64 er3)]) (gs := [.n d3]) hp (free_of rfl) gqi (mq 0 rfl) (.inl rfl) rfl row_api_Int rfl (sqi 12) (fun v w h => st_num h)
    ·exact q_call1 (F := (Fq.num d3).P) hp (free_of rfl) gqi (enq_Sign) (sqi 13) (fun v w h => exSign h)
    ·exact q_one (F := fun v _ => v = .int .i64 (cmpI d3 0)) hp (free_of rfl) gqi (sqi 14) (fun ρ w hc h => ⟨.bool false, by simp [execOp, go_sem, h, hc, HSG.out], rfl⟩)
    ·exact q_two (F := fun v _ => v = .bool false) (G := fun v _ => v = .bool false) hp (free_of rfl) trivial (sqi 8) (sqi 15) (fun ρ w hc h h' => ⟨_, by simp [execOp, go_sem, h, h'], rfl⟩)
    intro L vs w34 nb hL hC hn E34
    have e1 : vs 1 = .slice (some ⟨b6_18, 0, none⟩) 4 4 := hC 1 (by simp)
    have e2 : vs 2 = .int .i64 3 := hC 2 (by simp)
    have e3 : vs 3 = .pointer (some ⟨b6_18, 24, none⟩) := hC 3 (by simp)
    have e4 : vs 4 = .pointer (some ⟨b6_18, 24, none⟩) := hC 4 (by simp)
    have e6 : vs 6 = .bool true := hC 6 (by simp)
    have e7 : vs 7 = .bool false := hC 7 (by simp)
    have e8 : vs 8 = .bool false := hC 8 (by simp)
    have e9 : vs 9 = .slice (some ⟨b6_18, 0, none⟩) 4 4 := hC 9 (by simp)
    have e10 : vs 10 = .int .i64 3 := hC 10 (by simp)
    have e11 : vs 11 = .pointer (some ⟨b6_18, 24, none⟩) := hC 11 (by simp)
    have e12 : vs 12 = .pointer (some ⟨b6_18, 29, none⟩) := hC 12 (by simp)
    have e14 : vs 14 = .int .i64 (cmpI d3 0) := hC 14 (by simp)
    have e15 : vs 15 = .bool false := hC 15 (by simp)
    have e16 : vs 16 = .bool false := hC 16 (by simp)
    have E : Fr w [(b6_18, 32, Fq.st [.n S0.x, .n S0.y, .v (.bool S0.i), .n d0, .v (.int .i64 er0), .n S1.x, .n S1.y, .v (.bool S1.i), .n d1, .v (.int .i64 er1), .n S2.x, .n S2.y, .v (.bool S2.i), .n d2, .v (.int .i64 er2), .n S3.x, .n S3.y, .v (.bool S3.i), .n d3, .v (.int .i64 er3)]), (b5_6, 6, Fq.st [.n a, .n b, .n m]), (b5_7, 5, Fq.st [.n x, .n y, .v (.bool false)]), (b5_8, 5, Fq.st [.n T.x, .n T.y, .v (.bool T.i)]), (b2, 2, Fq.raw neg ao n c xs), (b1, 5, Fq.st [.v (.int .u8 M9), .v (.int .u8 A), .v (.int .u8 X), .v (.int .u8 Y), .v (.int .u16 Q)])] w34 := E34
    rw [lay_all hL]
    simp only [putAll, dstOf, List.length_cons, List.length_nil, Nat.zero_add, Nat.reduceAdd, List.getElem?_toArray, List.getElem?_cons_zero, List.getElem?_cons_succ, Option.bind_some, Act.put, List.setIfInBounds_toArray, List.set_cons_succ, List.set_cons_zero]
    rw [e1, e2, e3, e4, e6, e7, e8, e9, e10, e11, e12, e14, e15, e16]
    generalize vs 0 = u34_0
    generalize vs 5 = u34_5
    generalize vs 13 = u34_13
    clear e1 e2 e3 e4 e6 e7 e8 e9 e10 e11 e12 e14 e15 e16 hC hn E34 hL vs L nb
    clear HE HSG HON
    clear BM BA BB B0 B1 B2 B3 HM0 K0 K1 K2 K3
    go_wp2
    go_roundw
    case rel => exact ⟨4, by first | rfl | go_num, by omega, by omega, E⟩
    case measure => first | (simp [intOf]; omega) | simp [intOf] | decide
   ·have HE : Hid (¬ er3 = 0) := by show ¬ _; omega
    have HE6 := hidd he
    have HDN : Hid (d3 ≠ 0) := by have := hdv.1; show _ ≠ _; omega
    have HS1 : Hid (cmpI (m % d3) 0 = 0) := cmpIq0.2 hdv.2.2
    have HC1 : Hid (¬ cmpI d3 1 ≤ 0) := by have := hdv.1; have := cmpIqgt.2 this; show ¬ _; omega
    have HC2 : Hid (cmpI d3 m < 0) := cmpIqlt.2 hdv.2.1
    clear he hdv
    go_upto_region 9 with (fail)
    refine region_fr (C := [Fq.is (.slice (some ⟨b6_18, 0, none⟩) 4 4), Fq.is (.int .i64 3), Fq.is (.pointer (some ⟨b6_18, 24, none⟩)), Fq.is (.pointer (some ⟨b6_18, 31, none⟩)), Fq.is (.int .i64 er3), Fq.is (.bool false)]) (ks := [none, none, none, none, none, none]) (new := []) E rfl (by kernel_rfl) rfl rfl (fun hp => ⟨?_, ?_, ?_, ?_, ?_, ?_, trivial⟩) ?_
    ·exact q_move hp (free_of rfl) trivial (sqo 9)
    ·exact q_move hp (free_of rfl) trivial (sqo 10)
    ·exact q_two (F := fun v _ => v = .slice (some ⟨b6_18, 0, none⟩) 4 4) (G := fun v _ => v = .int .i64 3) hp (free_of rfl) trivial (sqi 0) (sqi 1) (fun ρ w hc h h' => ⟨_, by simp [execOp, go_sem, h, h', hc], rfl⟩)
    ·exact q_addr (b := b6_18) (off := 24) (off' := 31) hp (free_of rfl) trivial (sqi 2) (fun ρ w h => by simp [execOp, go_sem, h]) (fun _ => rfl)
    ·exact q_load1 (off := 31) (fs := [.n S0.x, .n S0.y, .v (.bool S0.i), .n d0, .v (.int .i64 er0), .n S1.x, .n S1.y, .v (.bool S1.i), .n d1, .v (.int .i64 er1), .n S2.x, .n S2.y, .v (.bool S2.i), .n d2, .v (.int .i64 er2), .n S3.x, .n S3.y, .v (.bool S3.i), .n d3, .v (.int .i64 er3)]) (u := .int .i64 er3) hp (free_of rfl) trivial (mq 0 rfl) (.inl rfl) rfl rfl (fun ρ w b h1 h2 => by simp [execOp, go_sem, h1, h2]) (sqi 3) (fun _ => rfl)
    ·exact q_one (F := fun v _ => v = .int .i64 er3) hp (free_of rfl) trivial (sqi 4) (fun ρ w hc h => ⟨.bool false, by simp [execOp, go_sem, h, hc, HE.out], rfl⟩)
    intro L vs w35 nb hL hC hn E35
    have e0 : vs 0 = .slice (some ⟨b6_18, 0, none⟩) 4 4 := hC 0 (by simp)
    have e1 : vs 1 = .int .i64 3 := hC 1 (by simp)
    have e2 : vs 2 = .pointer (some ⟨b6_18, 24, none⟩) := hC 2 (by simp)
    have e3 : vs 3 = .pointer (some ⟨b6_18, 31, none⟩) := hC 3 (by simp)
    have e4 : vs 4 = .int .i64 er3 := hC 4 (by simp)
    have e5 : vs 5 = .bool false := hC 5 (by simp)
    have E : Fr w [(b6_18, 32, Fq.st [.n S0.x, .n S0.y, .v (.bool S0.i), .n d0, .v (.int .i64 er0), .n S1.x, .n S1.y, .v (.bool S1.i), .n d1, .v (.int .i64 er1), .n S2.x, .n S2.y, .v (.bool S2.i), .n d2, .v (.int .i64 er2), .n S3.x, .n S3.y, .v (.bool S3.i), .n d3, .v (.int .i64 er3)]), (b5_6, 6, Fq.st [.n a, .n b, .n m]), (b5_7, 5, Fq.st [.n x, .n y, .v (.bool false)]), (b5_8, 5, Fq.st [.n T.x, .n T.y, .v (.bool T.i)]), (b2, 2, Fq.raw neg ao n c xs), (b1, 5, Fq.st [.v (.int .u8 M9), .v (.int .u8 A), .v (.int .u8 X), .v (.int .u8 Y), .v (.int .u16 Q)])] w35 := E35
    rw [lay_all hL]
    simp only [putAll, dstOf, List.length_cons, List.length_nil, Nat.zero_add, Nat.reduceAdd, List.getElem?_toArray, List.getElem?_cons_zero, List.getElem?_cons_succ, Option.bind_some, Act.put, List.setIfInBounds_toArray, List.set_cons_succ, List.set_cons_zero]
    rw [e0, e1, e2, e3, e4, e5]
    clear e0 e1 e2 e3 e4 e5 hC hn E35 hL vs L nb
    go_upto_region 12 with (fail)
    have B36 : Hid (ab ((m / d3)) < pw 6) := ab_divB BM.out (by omega)
    have B37 : Hid (ab ((m % d3)) < pw 5) := ab_modB HDN.out B3.out.2
    refine region_fr (C := [Fq.is (.pointer (some ⟨b5_6, 4, none⟩)), Fq.num m, Fq.is (.slice (some ⟨b6_18, 0, none⟩) 4 4), Fq.is (.int .i64 3), Fq.is (.pointer (some ⟨b6_18, 24, none⟩)), Fq.is (.pointer (some ⟨b6_18, 29, none⟩)), Fq.num d3, Fq.tup3 (Fq.num (m / d3)) (Fq.num (m % d3)) (Fq.is (.int .i64 0)), Fq.tup3 (Fq.num (m / d3)) (Fq.num (m % d3)) (Fq.is (.int .i64 0)), Fq.num (m / d3), Fq.num (m % d3), Fq.is (.int .i64 0), Fq.any, Fq.any, Fq.any, Fq.any, Fq.is (.int .i64 0)]) (ks := [none, none, none, none, none, none]) (new := [⟨12, 14, 2, Fq.num 0, Fq.num (m / d3), none⟩, ⟨13, 15, 2, Fq.num 0, Fq.num (m % d3), none⟩]) E rfl (by kernel_rfl) rfl rfl (fun hp => ⟨?_, ?_, ?_, ?_, ?_, ?_, ?_, ?_, ?_, ?_, ?_, ?_, ?_, ?_, ?_, ?_, ?_, trivial⟩) ?_
    ·exact q_addr (b := b5_6) (off := 0) (off' := 4) hp (free_of rfl) trivial (sqo 6) (fun ρ w h => by simp [execOp, go_sem, h]) (fun _ => rfl)
    ·exact q_loadSt (off := 4) (l := 2) (fs := [.n a, .n b, .n m]) (gs := [.n m]) hp (free_of rfl) trivial (mq 1 rfl) (.inl rfl) rfl row_api_Int rfl (sqi 0) (fun v w h => st_num h)
    ·exact q_move hp (free_of rfl) trivial (sqo 9)
    ·exact q_move hp (free_of rfl) trivial (sqo 10)
    ·exact q_two (F := fun v _ => v = .slice (some ⟨b6_18, 0, none⟩) 4 4) (G := fun v _ => v = .int .i64 3) hp (free_of rfl) trivial (sqi 2) (sqi 3) (fun ρ w hc h h' => ⟨_, by simp [execOp, go_sem, h, h', hc], rfl⟩)
    ·exact q_addr (b := b6_18) (off := 24) (off' := 29) hp (free_of rfl) trivial (sqi 4) (fun ρ w h => by simp [execOp, go_sem, h]) (fun _ => rfl)
    ·exact q_loadSt (off := 29) (l := 2) (fs := [.n S0.x, .n S0.y, .v (.bool S0.i), .n d0, .v (.int .i64 er0), .n S1.x, .n S1.y, .v (.bool S1.i), .n d1, .v (.int .i64 er1), .n S2.x, .n S2.y, .v (.bool S2.i), .n d2, .v (.int .i64 er2), .n S3.x, .n S3.y, .v (.bool S3.i), .n d3, .v (.int .i64 er3)]) (gs := [.n d3]) hp (free_of rfl) trivial (mq 0 rfl) (.inl rfl) rfl row_api_Int rfl (sqi 5) (fun v w h => st_num h)
    ·exact q_call2 (F := (Fq.num m).P) (G := (Fq.num d3).P) hp (free_of rfl) trivial (enq_DivMod) (sqi 1) (sqi 6) (fun v v' w h h' => exDMq h h' HDN.out B36.out B37.out (by omega) (by omega))
    ·exact q_move hp (free_of rfl) trivial (sqi 7)
    ·exact q_extract3 hp (free_of rfl) trivial (sqi 8) (fun v1 v2 v3 w h1 h2 h3 => ⟨_, rfl, h1⟩)
    ·exact q_extract3 hp (free_of rfl) trivial (sqi 8) (fun v1 v2 v3 w h1 h2 h3 => ⟨_, rfl, h2⟩)
    ·exact q_extract3 hp (free_of rfl) trivial (sqi 8) (fun v1 v2 v3 w h1 h2 h3 => ⟨_, rfl, h3⟩)
    ·exact q_allocInt hp (mq 0 rfl) rfl rfl rfl rfl (Nat.ne_of_beq_eq_false rfl) (fun _ _ => trivial) (old_ne rfl) (newk_ne rfl) (fun w => Num.zero w)
    ·exact q_allocInt hp (mq 1 rfl) rfl rfl rfl rfl (Nat.ne_of_beq_eq_false rfl) (fun _ _ => trivial) (old_ne rfl) (newk_ne rfl) (fun w => Num.zero w)
    ·exact q_storeNewInt hp (mq 0 rfl) rfl rfl rfl (own_ptr rfl rfl (by simp) rfl) (sq_in 9 rfl rfl (by simp) rfl (fun v w h => intV_num h)) (fun _ _ => trivial) (old_ne rfl) (newi_ne rfl)
    ·exact q_storeNewInt hp (mq 1 rfl) rfl rfl rfl (own_ptr rfl rfl (by simp) rfl) (sq_in 10 rfl rfl (by simp) rfl (fun v w h => intV_num h)) (fun _ _ => trivial) (old_ne rfl) (newi_ne rfl)
    ·exact q_assign hp (free_of rfl) trivial (sqi 11)
    intro L vs w38 nb hL hC hn E38
    have e0 : vs 0 = .pointer (some ⟨b5_6, 4, none⟩) := hC 0 (by simp)
    have e2 : vs 2 = .slice (some ⟨b6_18, 0, none⟩) 4 4 := hC 2 (by simp)
    have e3 : vs 3 = .int .i64 3 := hC 3 (by simp)
    have e4 : vs 4 = .pointer (some ⟨b6_18, 24, none⟩) := hC 4 (by simp)
    have e5 : vs 5 = .pointer (some ⟨b6_18, 29, none⟩) := hC 5 (by simp)
    have e11 : vs 11 = .int .i64 0 := hC 11 (by simp)
    have e16 : vs 16 = .int .i64 0 := hC 16 (by simp)
    have e12 : vs 12 = .pointer (some ⟨nb 12, 0, none⟩) := hn _ (mq 0 rfl)
    have e13 : vs 13 = .pointer (some ⟨nb 13, 0, none⟩) := hn _ (mq 1 rfl)
    have E : Fr w [(nb 12, 2, Fq.num (m / d3)), (nb 13, 2, Fq.num (m % d3)), (b6_18, 32, Fq.st [.n S0.x, .n S0.y, .v (.bool S0.i), .n d0, .v (.int .i64 er0), .n S1.x, .n S1.y, .v (.bool S1.i), .n d1, .v (.int .i64 er1), .n S2.x, .n S2.y, .v (.bool S2.i), .n d2, .v (.int .i64 er2), .n S3.x, .n S3.y, .v (.bool S3.i), .n d3, .v (.int .i64 er3)]), (b5_6, 6, Fq.st [.n a, .n b, .n m]), (b5_7, 5, Fq.st [.n x, .n y, .v (.bool false)]), (b5_8, 5, Fq.st [.n T.x, .n T.y, .v (.bool T.i)]), (b2, 2, Fq.raw neg ao n c xs), (b1, 5, Fq.st [.v (.int .u8 M9), .v (.int .u8 A), .v (.int .u8 X), .v (.int .u8 Y), .v (.int .u16 Q)])] w38 := E38
    rw [lay_all hL]
    simp only [putAll, dstOf, List.length_cons, List.length_nil, Nat.zero_add, Nat.reduceAdd, List.getElem?_toArray, List.getElem?_cons_zero, List.getElem?_cons_succ, Option.bind_some, Act.put, List.setIfInBounds_toArray, List.set_cons_succ, List.set_cons_zero]
    rw [e0, e2, e3, e4, e5, e11, e16, e12, e13]
    generalize nb 12 = b38_12 at E ⊢
    generalize nb 13 = b38_13 at E ⊢
    generalize vs 1 = u38_1
    generalize vs 6 = u38_6
    generalize vs 7 = u38_7
    generalize vs 8 = u38_8
    generalize vs 9 = u38_9
    generalize vs 10 = u38_10
    clear e0 e2 e3 e4 e5 e11 e16 e12 e13 hC hn E38 hL vs L nb
    go_upto_region 13 with (fail)
    refine region_fr (C := [Fq.is (.slice (some ⟨b6_18, 0, none⟩) 4 4), Fq.is (.int .i64 3), Fq.is (.pointer (some ⟨b6_18, 24, none⟩)), Fq.is (.pointer (some ⟨b6_18, 31, none⟩)), Fq.is (.int .i64 er3), Fq.is (.bool false), Fq.is (.bool false), Fq.is (.int .i64 0), Fq.is (.bool false), Fq.is (.bool false), Fq.is (.bool false), Fq.num (m % d3), Fq.is (.int .i64 (cmpI (m % d3) 0)), Fq.is (.bool false), Fq.is (.bool false), Fq.is (.bool false), Fq.is (.slice (some ⟨b6_18, 0, none⟩) 4 4), Fq.is (.int .i64 3), Fq.is (.pointer (some ⟨b6_18, 24, none⟩)), Fq.is (.pointer (some ⟨b6_18, 29, none⟩)), Fq.num d3, Fq.num 1, Fq.is (.int .i64 (cmpI d3 1)), Fq.is (.bool false), Fq.is (.bool false), Fq.is (.bool false), Fq.is (.slice (some ⟨b6_18, 0, none⟩) 4 4), Fq.is (.int .i64 3), Fq.is (.pointer (some ⟨b6_18, 24, none⟩)), Fq.is (.pointer (some ⟨b6_18, 29, none⟩)), Fq.num d3, Fq.is (.pointer (some ⟨b5_6, 4, none⟩)), Fq.num m, Fq.is (.int .i64 (cmpI d3 m)), Fq.is (.bool false), Fq.is (.bool false)]) (ks := [none, none, none, none, none, none, none, none]) (new := []) E rfl (by kernel_rfl) rfl rfl (fun hp => ⟨?_, ?_, ?_, ?_, ?_, ?_, ?_, ?_, ?_, ?_, ?_, ?_, ?_, ?_, ?_, ?_, ?_, ?_, ?_, ?_, ?_, ?_, ?_, ?_, ?_, ?_, ?_, ?_, ?_, ?_, ?_, ?_, ?_, ?_, ?_, ?_, trivial⟩) ?_
    ·exact q_move hp (free_of rfl) trivial (sqo 9)
    ·exact q_move hp (free_of rfl) trivial (sqo 10)
    ·exact q_two (F := fun v _ => v = .slice (some ⟨b6_18, 0, none⟩) 4 4) (G := fun v _ => v = .int .i64 3) hp (free_of rfl) trivial (sqi 0) (sqi 1) (fun ρ w hc h h' => ⟨_, by simp [execOp, go_sem, h, h', hc], rfl⟩)
    ·exact q_addr (b := b6_18) (off := 24) (off' := 31) hp (free_of rfl) trivial (sqi 2) (fun ρ w h => by simp [execOp, go_sem, h]) (fun _ => rfl)
    ·exact q_load1 (off := 31) (fs := [.n S0.x, .n S0.y, .v (.bool S0.i), .n d0, .v (.int .i64 er0), .n S1.x, .n S1.y, .v (.bool S1.i), .n d1, .v (.int .i64 er1), .n S2.x, .n S2.y, .v (.bool S2.i), .n d2, .v (.int .i64 er2), .n S3.x, .n S3.y, .v (.bool S3.i), .n d3, .v (.int .i64 er3)]) (u := .int .i64 er3) hp (free_of rfl) trivial (mq 2 rfl) (.inl rfl) rfl rfl (fun ρ w b h1 h2 => by simp [execOp, go_sem, h1, h2]) (sqi 3) (fun _ => rfl)
    ·exact q_one (F := fun v _ => v = .int .i64 er3) hp (free_of rfl) trivial (sqi 4) (fun ρ w hc h => ⟨.bool false, by simp [execOp, go_sem, h, hc, HE6.out], rfl⟩)
    ·exact q_move hp (free_of rfl) trivial (sqi 5)
    ·exact q_move hp (free_of rfl) gqi (sqo 13)
    ·exact q_one (F := fun v _ => v = .int .i64 0) hp (free_of rfl) gqi (sqi 7) (fun ρ w hc h => ⟨.bool false, by simp [execOp, go_sem, h, hc], rfl⟩)
    ·exact q_two (F := fun v _ => v = .bool false) (G := fun v _ => v = .bool false) hp (free_of rfl) trivial (sqi 6) (sqi 8) (fun ρ w hc h h' => ⟨_, by simp [execOp, go_sem, h, h'], rfl⟩)
    ·exact q_move hp (free_of rfl) trivial (sqi 9)
    ·exact q_loadInt (off := 0) hp (free_of rfl) gqi (mq 1 rfl) (.inl rfl) (Nat.le_of_ble_eq_true rfl) (sqo 12) (fun us w hl h => ld_num hl h)
    ·exact q_call1 (F := (Fq.num (m % d3)).P) hp (free_of rfl) gqi (enq_Sign) (sqi 11) (fun v w h => exSign h)
    ·exact q_one (F := fun v _ => v = .int .i64 (cmpI (m % d3) 0)) hp (free_of rfl) gqi (sqi 12) (fun ρ w hc h => ⟨.bool false, by simp [execOp, go_sem, h, hc, HS1.out], rfl⟩)
    ·exact q_two (F := fun v _ => v = .bool false) (G := fun v _ => v = .bool false) hp (free_of rfl) trivial (sqi 10) (sqi 13) (fun ρ w hc h h' => ⟨_, by simp [execOp, go_sem, h, h'], rfl⟩)
    ·exact q_move hp (free_of rfl) trivial (sqi 14)
    ·exact q_move hp (free_of rfl) gqi (sqo 9)
    ·exact q_move hp (free_of rfl) gqi (sqo 10)
    ·exact q_two (F := fun v _ => v = .slice (some ⟨b6_18, 0, none⟩) 4 4) (G := fun v _ => v = .int .i64 3) hp (free_of rfl) gqi (sqi 16) (sqi 17) (fun ρ w hc h h' => ⟨_, by simp [execOp, go_sem, h, h', hc], rfl⟩)
    ·exact q_addr (b := b6_18) (off := 24) (off' := 29) hp (free_of rfl) gqi (sqi 18) (fun ρ w h => by simp [execOp, go_sem, h]) (fun _ => rfl)
    ·exact q_loadSt (off := 29) (l := 2) (fs := [.n S0.x, .n S0.y, .v (.bool S0.i), .n d0, .v (.int .i64 er0), .n S1.x, .n S1.y, .v (.bool S1.i), .n d1, .v (.int .i64 er1), .n S2.x, .n S2.y, .v (.bool S2.i), .n d2, .v (.int .i64 er2), .n S3.x, .n S3.y, .v (.bool S3.i), .n d3, .v (.int .i64 er3)]) (gs := [.n d3]) hp (free_of rfl) gqi (mq 2 rfl) (.inl rfl) rfl row_api_Int rfl (sqi 19) (fun v w h => st_num h)
    ·exact q_call1 (F := (Fq.is (.int .i64 1)).P) hp (free_of rfl) gqi (enq_R_Of) (sq_const (fun _ => rfl)) (fun v w h => (by subst h; exact rOfK w 1 (by omega) (by omega)))
    ·exact q_call2 (F := (Fq.num d3).P) (G := (Fq.num 1).P) hp (free_of rfl) gqi (enq_Cmp) (sqi 20) (sqi 21) (fun v v' w h h' => exCmp h h')
    ·exact q_one (F := fun v _ => v = .int .i64 (cmpI d3 1)) hp (free_of rfl) gqi (sqi 22) (fun ρ w hc h => ⟨.bool false, by simp [execOp, go_sem, h, hc, HC1.out], rfl⟩)
    ·exact q_two (F := fun v _ => v = .bool false) (G := fun v _ => v = .bool false) hp (free_of rfl) trivial (sqi 15) (sqi 23) (fun ρ w hc h h' => ⟨_, by simp [execOp, go_sem, h, h'], rfl⟩)
    ·exact q_move hp (free_of rfl) trivial (sqi 24)
    ·exact q_move hp (free_of rfl) gqi (sqo 9)
    ·exact q_move hp (free_of rfl) gqi (sqo 10)
    ·exact q_two (F := fun v _ => v = .slice (some ⟨b6_18, 0, none⟩) 4 4) (G := fun v _ => v = .int .i64 3) hp (free_of rfl) gqi (sqi 26) (sqi 27) (fun ρ w hc h h' => ⟨_, by simp [execOp, go_sem, h, h', hc], rfl⟩)
    ·exact q_addr (b := b6_18) (off := 24) (off' := 29) hp (free_of rfl) gqi (sqi 28) (fun ρ w h => by simp [execOp, go_sem, h]) (fun _ => rfl)
    ·exact q_loadSt (off := 29) (l := 2) (fs := [.n S0.x, .n S0.y, .v (.bool S0.i), .n d0, .v (.int .i64 er0), .n S1.x, .n S1.y, .v (.bool S1.i), .n d1, .v (.int .i64 er1), .n S2.x, .n S2.y, .v (.bool S2.i), .n d2, .v (.int .i64 er2), .n S3.x, .n S3.y, .v (.bool S3.i), .n d3, .v (.int .i64 er3)]) (gs := [.n d3]) hp (free_of rfl) gqi (mq 2 rfl) (.inl rfl) rfl row_api_Int rfl (sqi 29) (fun v w h => st_num h)
    ·exact q_addr (b := b5_6) (off := 0) (off' := 4) hp (free_of rfl) gqi (sqo 6) (fun ρ w h => by simp [execOp, go_sem, h]) (fun _ => rfl)
    ·exact q_loadSt (off := 4) (l := 2) (fs := [.n a, .n b, .n m]) (gs := [.n m]) hp (free_of rfl) gqi (mq 3 rfl) (.inl rfl) rfl row_api_Int rfl (sqi 31) (fun v w h => st_num h)
    ·exact q_call2 (F := (Fq.num d3).P) (G := (Fq.num m).P) hp (free_of rfl) gqi (enq_Cmp) (sqi 30) (sqi 32) (fun v v' w h h' => exCmp h h')
    ·exact q_one (F := fun v _ => v = .int .i64 (cmpI d3 m)) hp (free_of rfl) gqi (sqi 33) (fun ρ w hc h => ⟨.bool false, by simp [execOp, go_sem, h, hc, HC2.out], rfl⟩)
    ·exact q_two (F := fun v _ => v = .bool false) (G := fun v _ => v = .bool false) hp (free_of rfl) trivial (sqi 25) (sqi 34) (fun ρ w hc h h' => ⟨_, by simp [execOp, go_sem, h, h'], rfl⟩)
    intro L vs w39 nb hL hC hn E39
    have e0 : vs 0 = .slice (some ⟨b6_18, 0, none⟩) 4 4 := hC 0 (by simp)
    have e1 : vs 1 = .int .i64 3 := hC 1 (by simp)
    have e2 : vs 2 = .pointer (some ⟨b6_18, 24, none⟩) := hC 2 (by simp)
    have e3 : vs 3 = .pointer (some ⟨b6_18, 31, none⟩) := hC 3 (by simp)
    have e4 : vs 4 = .int .i64 er3 := hC 4 (by simp)
    have e5 : vs 5 = .bool false := hC 5 (by simp)
    have e6 : vs 6 = .bool false := hC 6 (by simp)
    have e7 : vs 7 = .int .i64 0 := hC 7 (by simp)
    have e8 : vs 8 = .bool false := hC 8 (by simp)
    have e9 : vs 9 = .bool false := hC 9 (by simp)
    have e10 : vs 10 = .bool false := hC 10 (by simp)
    have e12 : vs 12 = .int .i64 (cmpI (m % d3) 0) := hC 12 (by simp)
    have e13 : vs 13 = .bool false := hC 13 (by simp)
    have e14 : vs 14 = .bool false := hC 14 (by simp)
    have e15 : vs 15 = .bool false := hC 15 (by simp)
    have e16 : vs 16 = .slice (some ⟨b6_18, 0, none⟩) 4 4 := hC 16 (by simp)
    have e17 : vs 17 = .int .i64 3 := hC 17 (by simp)
    have e18 : vs 18 = .pointer (some ⟨b6_18, 24, none⟩) := hC 18 (by simp)
    have e19 : vs 19 = .pointer (some ⟨b6_18, 29, none⟩) := hC 19 (by simp)
    have e22 : vs 22 = .int .i64 (cmpI d3 1) := hC 22 (by simp)
    have e23 : vs 23 = .bool false := hC 23 (by simp)
    have e24 : vs 24 = .bool false := hC 24 (by simp)
    have e25 : vs 25 = .bool false := hC 25 (by simp)
    have e26 : vs 26 = .slice (some ⟨b6_18, 0, none⟩) 4 4 := hC 26 (by simp)
    have e27 : vs 27 = .int .i64 3 := hC 27 (by simp)
    have e28 : vs 28 = .pointer (some ⟨b6_18, 24, none⟩) := hC 28 (by simp)
    have e29 : vs 29 = .pointer (some ⟨b6_18, 29, none⟩) := hC 29 (by simp)
    have e31 : vs 31 = .pointer (some ⟨b5_6, 4, none⟩) := hC 31 (by simp)
    have e33 : vs 33 = .int .i64 (cmpI d3 m) := hC 33 (by simp)
    have e34 : vs 34 = .bool false := hC 34 (by simp)
    have e35 : vs 35 = .bool false := hC 35 (by simp)
    have E : Fr w [(b38_12, 2, Fq.num (m / d3)), (b38_13, 2, Fq.num (m % d3)), (b6_18, 32, Fq.st [.n S0.x, .n S0.y, .v (.bool S0.i), .n d0, .v (.int .i64 er0), .n S1.x, .n S1.y, .v (.bool S1.i), .n d1, .v (.int .i64 er1), .n S2.x, .n S2.y, .v (.bool S2.i), .n d2, .v (.int .i64 er2), .n S3.x, .n S3.y, .v (.bool S3.i), .n d3, .v (.int .i64 er3)]), (b5_6, 6, Fq.st [.n a, .n b, .n m]), (b5_7, 5, Fq.st [.n x, .n y, .v (.bool false)]), (b5_8, 5, Fq.st [.n T.x, .n T.y, .v (.bool T.i)]), (b2, 2, Fq.raw neg ao n c xs), (b1, 5, Fq.st [.v (.int .u8 M9), .v (.int .u8 A), .v (.int .u8 X), .v (.int .u8 Y), .v (.int .u16 Q)])] w39 := E39
    rw [lay_all hL]
    simp only [putAll, dstOf, List.length_cons, List.length_nil, Nat.zero_add, Nat.reduceAdd, List.getElem?_toArray, List.getElem?_cons_zero, List.getElem?_cons_succ, Option.bind_some, Act.put, List.setIfInBounds_toArray, List.set_cons_succ, List.set_cons_zero]
    rw [e0, e1, e2, e3, e4, e5, e6, e7, e8, e9, e10, e12, e13, e14, e15, e16, e17, e18, e19, e22, e23, e24, e25, e26, e27, e28, e29, e31, e33, e34, e35]
    generalize vs 11 = u39_11
    generalize vs 20 = u39_20
    generalize vs 21 = u39_21
    generalize vs 30 = u39_30
    generalize vs 32 = u39_32
    clear e0 e1 e2 e3 e4 e5 e6 e7 e8 e9 e10 e12 e13 e14 e15 e16 e17 e18 e19 e22 e23 e24 e25 e26 e27 e28 e29 e31 e33 e34 e35 hC hn E39 hL vs L nb
    clear HE HE6 HDN HS1 HC1 HC2
    clear B36 B37
    clear BM BA BB B0 B1 B2 B3 HM0 K0 K1 K2 K3
    replace E := E.drop.drop
    go_wp2
    go_roundw
    case rel => exact ⟨4, by first | rfl | go_num, by omega, by omega, E⟩
    case measure => first | (simp [intOf]; omega) | simp [intOf] | decide
  ·clear BM BA BB B0 B1 B2 B3 HM0 K0 K1 K2 K3
   go_wp2
   refine bodyPost_ret (v := .bool true) ?_ rfl ⟨_, rfl, E.below, rfl⟩
   simp [results, Try.results5, go_sem]

theorem PointDivides_row (w : World) (M9 A X Y Q : Int) (hM : 0 ≤ M9 ∧ M9 ≤ 255) (hA : 0 ≤ A ∧ A ≤ 255) (hX : 0 ≤ X ∧ X ≤ 255) (hY : 0 ≤ Y ∧ Y ≤ 255) (hQ : 0 ≤ Q ∧ Q ≤ 65535) (neg : Bool) (ao : Option Addr) (n c : Nat) (xs : List Int) (hS : Sl w ao n c xs) (hn : n ≤ 9223372036854775807) : Calls Try.prog 5 #[.agg #[.int .u8 M9, .int .u8 A, .int .u8 X, .int .u8 Y, .int .u16 Q], .agg #[.bool neg, .slice ao n c]] w fun e w' => e = .returned (.bool true) ∧ Below w.heap.size w w' := by
 refine (PointDivides_any w (v := .agg #[.int .u8 M9, .int .u8 A, .int .u8 X, .int .u8 Y, .int .u16 Q]) ⟨[.int .u8 M9, .int .u8 A, .int .u8 X, .int .u8 Y, .int .u16 Q], rfl, _, rfl, rfl, _, rfl, rfl, _, rfl, rfl, _, rfl, rfl, _, rfl, rfl, rfl⟩ hM hA hX hY hQ neg ao n c xs hS hn).mono ?_
 rintro e w' ⟨v', rfl, hb, rfl⟩
 exact ⟨rfl, hb⟩

end Go.Proofs.Ytpkeeacdkkmknaa
