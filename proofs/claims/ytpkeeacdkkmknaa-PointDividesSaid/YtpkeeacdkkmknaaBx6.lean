/- Ow, Ox, Om, Oj, Ok, Od, Ni, Nj, Oe, Oy, Oz, Ol. -/
import Derived.Test.YtpkeeacdkkmknaaBx5
namespace Go.Proofs.Ytpkeeacdkkmknaa
open Go Go.RowKit

theorem enq_f_algorist_algoristlaw06_at (args : Array Value) (w : World) : (callFunc 12 args).run Try.prog w = .ok (.enter 12 args) w := enter_of Try.func12 (by kernel_rfl) rfl args w
theorem enq_f_algorist_algoristlaw06_add (args : Array Value) (w : World) : (callFunc 13 args).run Try.prog w = .ok (.enter 13 args) w := enter_of Try.func13 (by kernel_rfl) rfl args w
theorem enq_f_algorist_algoristlaw06_times (args : Array Value) (w : World) : (callFunc 18 args).run Try.prog w = .ok (.enter 18 args) w := enter_of Try.func18 (by kernel_rfl) rfl args w
theorem enq_f_algorist_algoristlaw06_examples (args : Array Value) (w : World) : (callFunc 7 args).run Try.prog w = .ok (.enter 7 args) w := enter_of Try.func7 (by kernel_rfl) rfl args w
theorem enq_f_algorist_algoristlaw06_made (args : Array Value) (w : World) : (callFunc 21 args).run Try.prog w = .ok (.enter 21 args) w := enter_of Try.func21 (by kernel_rfl) rfl args w
theorem enq_f_algorist_algoristref06_Same (args : Array Value) (w : World) : (callFunc 14 args).run Try.prog w = .ok (.enter 14 args) w := enter_of Try.func14 (by kernel_rfl) rfl args w
theorem enq_f_algorist_algoristref06_Curve (args : Array Value) (w : World) : (callFunc 9 args).run Try.prog w = .ok (.enter 9 args) w := enter_of Try.func9 (by kernel_rfl) rfl args w
theorem enq_f_algorist_algoristref06_Right (args : Array Value) (w : World) : (callFunc 33 args).run Try.prog w = .ok (.enter 33 args) w := enter_of Try.func33 (by kernel_rfl) rfl args w
theorem size_algoristref06_Sum : sizeB 41 8 = true := by kernel_rfl
theorem fits0_algoristref06_Sum (w : World) : Fits w [.n 0, .n 0, .v (.bool false), .n 0, .v (.int .i64 0)] [.bool false, .slice none 0 0, .bool false, .slice none 0 0, .bool false, .bool false, .slice none 0 0, .int .i64 0] := ⟨_, _, _, rfl, Num.zero w, _, _, _, rfl, Num.zero w, _, rfl, rfl, _, _, _, rfl, Num.zero w, _, rfl, rfl, rfl⟩
theorem fits0P_algoristref06_Sum (w : World) : (Fq.st [.n 0, .n 0, .v (.bool false), .n 0, .v (.int .i64 0)]).P (.agg ([.bool false, .slice none 0 0, .bool false, .slice none 0 0, .bool false, .bool false, .slice none 0 0, .int .i64 0] : List Value).toArray) w := ⟨_, rfl, fits0_algoristref06_Sum w⟩
theorem ralloc_algoristref06_Sum {d : Option Tmp} {ty : TypeId} {ps : String} {af : Array Edge} (ρ : Operand → Value) (w : World) : (execOp ρ { dst := d, op := .alloc 41, type := ty, pos := ps, after := af, guard := none }).run Try.prog w = .ok (.value (.pointer (some ⟨w.heap.size, 0, none⟩))) (w.alloc (.cells [.bool false, .slice none 0 0, .bool false, .slice none 0 0, .bool false, .bool false, .slice none 0 0, .int .i64 0].toArray 41)) := by
 simp [execOp, go_sem]

noncomputable def addS (A B M : Int) (P Q : Pt) : Pt × Int × Int := if onB A B M P.x P.y P.i = true then (if onB A B M Q.x Q.y Q.i = true then (if (sumP A M P Q).2 = 0 then ((sumP A M P Q).1, 0, 0) else (⟨0, 0, false⟩, (sumP A M P Q).2, 6)) else (⟨0, 0, false⟩, 0, 1)) else (⟨0, 0, false⟩, 0, 1)
noncomputable def timesS (A B M : Int) (n : Int) (P : Pt) : Pt × Int × Int := if onB A B M P.x P.y P.i = true then (if (timesP A M P n).2 = 0 then ((timesP A M P n).1, 0, 0) else (⟨0, 0, false⟩, (timesP A M P n).2, 6)) else (⟨0, 0, false⟩, 0, 1)
def Fq.sm (R : Pt × Int × Int) : Fq := Fq.st [.n R.1.x, .n R.1.y, .v (.bool R.1.i), .n R.2.1, .v (.int .i64 R.2.2)]
theorem exAddS {w : World} {v v' u : Value} {A B M : Int} {P Q : Pt} (h : (Fq.st [.n A, .n B, .n M]).P v w) (h' : (Fq.pt P).P v' w) (h2 : (Fq.pt Q).P u w) (hM : ab M < pw 5) (hA : ab A < pw 5) (hB : ab B < pw 5) (hP : ab P.x < pw 5 ∧ ab P.y < pw 5) (hQ : ab Q.x < pw 5 ∧ ab Q.y < pw 5) {R : Pt × Int × Int} (hR : addS A B M P Q = R) :
  Calls Try.prog 34 #[v, v', u] w fun e w' => ∃ v', e = .returned v' ∧ Below w.heap.size w w' ∧ (Fq.tup3 (Fq.pt R.1) (Fq.num R.2.1) (Fq.is (.int .i64 R.2.2))).P v' w' := by
 subst hR
 unfold addS
 by_cases h3 : onB A B M P.x P.y P.i = true
 ·rw [if_pos h3]
  by_cases h4 : onB A B M Q.x Q.y Q.i = true
  ·rw [if_pos h4]
   by_cases h5 : (sumP A M P Q).2 = 0
   ·rw [if_pos h5]; exact exAddP h h' h2 hM hA hB hP hQ h3 h4 rfl h5
   ·rw [if_neg h5]; exact exAddN h h' h2 hM hA hB hP hQ h3 h4 rfl h5
  ·rw [if_neg h4]; exact exAddE2 h h' h2 hM hA hB hP hQ h3 (bfalse h4)
 ·rw [if_neg h3]; exact exAddE1 h h' h2 hM hA hB hP hQ (bfalse h3)
theorem exTimesS {w : World} {v v' u : Value} {A B M n : Int} {P : Pt} (h : (Fq.st [.n A, .n B, .n M]).P v w) (h' : Num w v' n) (g : (Fq.pt P).P u w) (hM : ab M < pw 5) (hA : ab A < pw 5) (hB : ab B < pw 5) (hn : ab n < pw 20) (hP : ab P.x < pw 5 ∧ ab P.y < pw 5) {R : Pt × Int × Int} (hR : timesS A B M n P = R) :
  Calls Try.prog 39 #[v, v', u] w fun e w' => ∃ v', e = .returned v' ∧ Below w.heap.size w w' ∧ (Fq.tup3 (Fq.pt R.1) (Fq.num R.2.1) (Fq.is (.int .i64 R.2.2))).P v' w' := by
 subst hR
 unfold timesS
 by_cases h3 : onB A B M P.x P.y P.i = true
 ·rw [if_pos h3]
  by_cases h5 : (timesP A M P n).2 = 0
  ·rw [if_pos h5]
   by_cases h6 : n < 0
   ·exact exTimes10 h h' g hM hA hB hn hP h3 rfl h6 h5
   ·exact exTimes00 h h' g hM hA hB hn hP h3 rfl h6 h5
  ·rw [if_neg h5]
   by_cases h6 : n < 0
   ·exact exTimes11 h h' g hM hA hB hn hP h3 rfl h6 h5
   ·exact exTimes01 h h' g hM hA hB hn hP h3 rfl h6 h5
 ·rw [if_neg h3]; exact exTimesE h h' g hM hA hB hn hP (bfalse h3)
theorem ab_i64 {x : Int} (h0 : -9223372036854775808 ≤ x) (h1 : x ≤ 9223372036854775807) : ab x < pw 3 := by
 have hp : pw 3 = 79228162514264337593543950336 := by decide
 rw [hp]
 unfold ab
 omega
def sameP (P Q : Pt) : Bool := decide (P.i = Q.i) && (decide (P.x = Q.x) && decide (P.y = Q.y))
section
variable {os : List Oper} {Q : Exit → Act → World → Prop} {a : Act} {p : Pq} {B B0 : Nat} {w0 : World}
variable {i s : Nat} {d : Option Tmp} {ty : TypeId} {ps : String} {af : Array Edge} {gd : Option (Nat × Bool)}
theorem q_build_algoristref06_Sum_012 {x0 : Operand} {z0_0 : Int} {z0_1 : Int} {u0_2 : Bool} {x1 : Operand} {z1 : Int} {x2 : Operand} {u2 : Int} (hp : p.Ok B B0) (hF : p.Free i) (hg : GdQ os a p B B0 w0 af gd) (h0 : SrcQ os a p B B0 w0 af x0 (Fq.st [.n z0_0, .n z0_1, .v (.bool u0_2)]).P) (h1 : SrcQ os a p B B0 w0 af x1 fun v w => Num w v z1) (h2 : SrcQ os a p B B0 w0 af x2 fun v _ => v = .int .i64 u2) (hC : ∀ v w, (Fq.st [.n z0_0, .n z0_1, .v (.bool u0_2), .n z1, .v (.int .i64 u2)]).P v w → (p.c i).P v w) :
  StepQ os Q a p B B0 w0 i { dst := d, op := .build 41 #[(0, x0), (1, x1), (2, x2)], type := ty, pos := ps, after := af, guard := gd } := by
 refine stq_val hp hF hg fun L vs w hG hL hc hd => ?_
 have g0 := h0 L vs w hG hd
 obtain ⟨_, e0, _, _, _, rfl, a0_n0, _, _, _, rfl, a0_n1, _, rfl, _, rfl⟩ := g0
 obtain ⟨n0_0, ao0_0, k0_0, c0_0, e0_0⟩ := a0_n0.parts
 have m0_0 := a0_n0
 rw [e0_0] at m0_0
 obtain ⟨n0_1, ao0_1, k0_1, c0_1, e0_1⟩ := a0_n1.parts
 have m0_1 := a0_n1
 rw [e0_1] at m0_1
 injection e0_0 with f0_0
 have f0_0 := congrArg Array.toList f0_0
 simp at f0_0
 obtain ⟨rfl, rfl⟩ := f0_0
 injection e0_1 with f0_1
 have f0_1 := congrArg Array.toList f0_1
 simp at f0_1
 obtain ⟨rfl, rfl⟩ := f0_1
 have g1 := h1 L vs w hG hd
 obtain ⟨n1, ao1, k1, c1, e1⟩ := g1.parts
 have m1 : Num w (.agg #[.bool n1, .slice ao1 k1 c1]) z1 := by rw [← e1]; exact g1
 have g2 := h2 L vs w hG hd
 refine ⟨.agg #[.bool n0_0, .slice ao0_0 k0_0 c0_0, .bool n0_1, .slice ao0_1 k0_1 c0_1, .bool u0_2, .bool n1, .slice ao1 k1 c1, .int .i64 u2], ?_, hC _ _ ⟨_, rfl, _, _, _, rfl, m0_0, _, _, _, rfl, m0_1, _, rfl, rfl, _, _, _, rfl, m1, _, rfl, rfl, rfl⟩⟩
 generalize (lay os.toArray L vs os.toArray.size a).eval = ρ at e0 e1 g2
 simp [execOp, go_sem, e0, e1, g2]
end
set_option maxRecDepth 100000 in
set_option maxHeartbeats 4000000 in
theorem exAt {w : World} {x y : Int} (hx : -9223372036854775808 ≤ x ∧ x ≤ 9223372036854775807) (hy : -9223372036854775808 ≤ y ∧ y ≤ 9223372036854775807) :
  Calls Try.prog 12 #[.int .i64 x, .int .i64 y] w fun e w' => ∃ v', e = .returned v' ∧ Below w.heap.size w w' ∧ (Fq.st [.n x, .n y, .v (.bool false)]).P v' w' := by
 have HX := hidd hx
 have HY := hidd hy
 have Bx : Hid (ab x < pw 3) := ab_i64 hx.1 hx.2
 have By : Hid (ab y < pw 3) := ab_i64 hy.1 hy.2
 clear hx hy
 obtain ⟨w1, b1, hw1, hb1, hs1, E⟩ := fr_start w (F := Fq.st [.n 0, .n 0, .v (.bool false)]) (us := [.bool false, .slice none 0 0, .bool false, .slice none 0 0, .bool false]) 37 rfl (by simp) ((Fits.tame (fits0_api_Point w))) (fits0P_api_Point _)
 go_enter Try.func12, Try.ntmps12
 go_upto_region 1 with (fail)
 rw [← hw1]
 rw [← hb1]
 clear hw1 hb1 hs1
 refine region_fr (C := [Fq.is (.int .i64 x), Fq.num x, Fq.is (.int .i64 y), Fq.num y, Fq.st [.n x, .n y, .v (.bool false)], Fq.any]) (ks := [some (5, Fq.st [.n x, .n y, .v (.bool false)])]) (new := []) E rfl (by kernel_rfl) rfl rfl (fun hp => ⟨?_, ?_, ?_, ?_, ?_, ?_, trivial⟩) ?_
 ·exact q_move hp (free_of rfl) trivial (sqo 0)
 ·exact q_call1 (F := (Fq.is (.int .i64 x)).P) hp (free_of rfl) trivial (enq_R_Of) (sqi 0) (fun v w h => (by subst h; exact rOfK w x HX.out.1 HX.out.2))
 ·exact q_move hp (free_of rfl) trivial (sqo 1)
 ·exact q_call1 (F := (Fq.is (.int .i64 y)).P) hp (free_of rfl) trivial (enq_R_Of) (sqi 2) (fun v w h => (by subst h; exact rOfK w y HY.out.1 HY.out.2))
 ·exact q_build_api_Point_01 (z0 := x) (z1 := y) hp (free_of rfl) trivial (sqi 1) (sqi 3) (fun v w h => h)
 ·exact q_storeOldSt (off := 0) (fs := [.n 0, .n 0, .v (.bool false)]) (gs := [.n x, .n y, .v (.bool false)]) (fs' := [.n x, .n y, .v (.bool false)]) hp (mq 0 rfl) rfl rfl rfl size_api_Point rfl (sqo 4) (sq_in 4 rfl rfl (by simp) rfl (fun v w h => fitv_st h)) (fun _ _ => trivial) (newik_ne rfl)
 intro L vs w2 nb hL hC hn E2
 have e0 : vs 0 = .int .i64 x := hC 0 (by simp)
 have e2 : vs 2 = .int .i64 y := hC 2 (by simp)
 have E : Fr w [(b1, 5, Fq.st [.n x, .n y, .v (.bool false)])] w2 := E2
 rw [lay_all hL]
 simp only [putAll, dstOf, List.length_cons, List.length_nil, Nat.zero_add, Nat.reduceAdd, List.getElem?_toArray, List.getElem?_cons_zero, List.getElem?_cons_succ, Option.bind_some, Act.put, List.setIfInBounds_toArray, List.set_cons_succ, List.set_cons_zero]
 rw [e0, e2]
 generalize vs 1 = u2_1
 generalize vs 3 = u2_3
 generalize vs 4 = u2_4
 clear e0 e2 hC hn E2 hL vs L nb
 clear HX HY
 obtain ⟨_, _, hc0, hf0⟩ := box_st (E.box 0 rfl)
 have hP0 := hf0
 obtain ⟨r0_p0, r0_q0, _, rfl, _r0_n0, r0_p1, r0_q1, _, rfl, _r0_n1, _, rfl, _, rfl⟩ := hf0
 have c0_0 := hc0 0 (by simp)
 have c0_1 := hc0 1 (by simp)
 have c0_2 := hc0 2 (by simp)
 have c0_3 := hc0 3 (by simp)
 have c0_4 := hc0 4 (by simp)
 simp only [List.getD_cons_zero, List.getD_cons_succ] at c0_0 c0_1 c0_2 c0_3 c0_4
 clear hc0
 clear Bx By
 go_wp2
 refine bodyPost_ret (v := .agg #[r0_p0, r0_q0, r0_p1, r0_q1, .bool false]) ?_ rfl ⟨_, rfl, E.below, ⟨_, rfl, hP0⟩⟩
 simp [results, Try.results12, go_sem, c0_0, c0_1, c0_2, c0_3, c0_4]

set_option maxRecDepth 100000 in
set_option maxHeartbeats 4000000 in
theorem exLAdd {w : World} {v v' u : Value} {A B M : Int} {P Q : Pt} (h : (Fq.st [.n A, .n B, .n M]).P v w) (h' : (Fq.pt P).P v' w) (h2 : (Fq.pt Q).P u w) (hM : ab M < pw 5) (hA : ab A < pw 5) (hB : ab B < pw 5) (hP : ab P.x < pw 5 ∧ ab P.y < pw 5) (hQ : ab Q.x < pw 5 ∧ ab Q.y < pw 5) {R : Pt × Int × Int} (hR : addS A B M P Q = R) :
  Calls Try.prog 13 #[v, v', u] w fun e w' => ∃ v', e = .returned v' ∧ Below w.heap.size w w' ∧ (Fq.sm R).P v' w' := by
 replace hM := hidd hM
 replace hA := hidd hA
 replace hB := hidd hB
 replace hP := hidd hP
 replace hQ := hidd hQ
 replace hR := hidd hR
 obtain ⟨_, rfl, hf0⟩ := h
 have hF0 := hf0
 obtain ⟨y0_p0, y0_q0, _, rfl, _y0_n0, y0_p1, y0_q1, _, rfl, _y0_n1, y0_p2, y0_q2, _, rfl, _y0_n2, rfl⟩ := hf0
 obtain ⟨_, rfl, hf1⟩ := h'
 have hF1 := hf1
 obtain ⟨y1_p0, y1_q0, _, rfl, _y1_n0, y1_p1, y1_q1, _, rfl, _y1_n1, _, rfl, _, rfl⟩ := hf1
 obtain ⟨_, rfl, hf2⟩ := h2
 have hF2 := hf2
 obtain ⟨y2_p0, y2_q0, _, rfl, _y2_n0, y2_p1, y2_q1, _, rfl, _y2_n1, _, rfl, _, rfl⟩ := hf2
 obtain ⟨w1, b1, hw1, hb1, hs1, E⟩ := fr_start w (F := Fq.st [.n A, .n B, .n M]) (us := [y0_p0, y0_q0, y0_p1, y0_q1, y0_p2, y0_q2]) 31 rfl (by simp) (hF0.tame) (show (Fq.st [.n A, .n B, .n M]).P _ w from ⟨_, rfl, hF0⟩)
 obtain ⟨w2, b2, hw2, hb2, hs2, E⟩ := fr_more E hs1 (F := Fq.st [.n P.x, .n P.y, .v (.bool P.i)]) (us := [y1_p0, y1_q0, y1_p1, y1_q1, .bool P.i]) 37 rfl (by simp) (hF1.tame) ((Fq.st [.n P.x, .n P.y, .v (.bool P.i)]).mono (show (Fq.st [.n P.x, .n P.y, .v (.bool P.i)]).P _ w from ⟨_, rfl, hF1⟩) E.below)
 obtain ⟨w3, b3, hw3, hb3, hs3, E⟩ := fr_more E hs2 (F := Fq.st [.n Q.x, .n Q.y, .v (.bool Q.i)]) (us := [y2_p0, y2_q0, y2_p1, y2_q1, .bool Q.i]) 37 rfl (by simp) (hF2.tame) ((Fq.st [.n Q.x, .n Q.y, .v (.bool Q.i)]).mono (show (Fq.st [.n Q.x, .n Q.y, .v (.bool Q.i)]).P _ w from ⟨_, rfl, hF2⟩) E.below)
 obtain ⟨w4, b4, hw4, hb4, hs4, E⟩ := fr_more E hs3 (F := Fq.st [.n 0, .n 0, .v (.bool false), .n 0, .v (.int .i64 0)]) (us := [.bool false, .slice none 0 0, .bool false, .slice none 0 0, .bool false, .bool false, .slice none 0 0, .int .i64 0]) 41 rfl (by simp) ((Fits.tame (fits0_algoristref06_Sum w))) (fits0P_algoristref06_Sum _)
 go_enter Try.func13, Try.ntmps13
 go_upto_region 1 with (fail)
 rw [← hw1]
 rw [← hw2]
 rw [← hw3]
 rw [← hw4]
 rw [← hb4]
 rw [← hb3]
 rw [← hb2]
 rw [← hb1]
 clear hw1 hw2 hw3 hw4 hb1 hb2 hb3 hb4 hs4 hs1 hs2 hs3
 refine region_fr (C := [Fq.st [.n A, .n B, .n M], Fq.st [.n P.x, .n P.y, .v (.bool P.i)], Fq.st [.n Q.x, .n Q.y, .v (.bool Q.i)], Fq.tup3 (Fq.st [.n R.1.x, .n R.1.y, .v (.bool R.1.i)]) (Fq.num R.2.1) (Fq.is (.int .i64 R.2.2)), Fq.tup3 (Fq.st [.n R.1.x, .n R.1.y, .v (.bool R.1.i)]) (Fq.num R.2.1) (Fq.is (.int .i64 R.2.2)), Fq.st [.n R.1.x, .n R.1.y, .v (.bool R.1.i)], Fq.num R.2.1, Fq.is (.int .i64 R.2.2), Fq.any, Fq.any, Fq.any, Fq.any, Fq.is (.int .i64 R.2.2)]) (ks := [none, none, none, none]) (new := [⟨8, 10, 5, Fq.st [.n 0, .n 0, .v (.bool false)], Fq.st [.n R.1.x, .n R.1.y, .v (.bool R.1.i)], none⟩, ⟨9, 11, 2, Fq.num 0, Fq.num R.2.1, none⟩]) E rfl (by kernel_rfl) rfl rfl (fun hp => ⟨?_, ?_, ?_, ?_, ?_, ?_, ?_, ?_, ?_, ?_, ?_, ?_, ?_, trivial⟩) ?_
 ·exact q_loadSt (off := 0) (l := 6) (fs := [.n A, .n B, .n M]) (gs := [.n A, .n B, .n M]) hp (free_of rfl) trivial (mq 3 rfl) (.inl rfl) rfl row_api_Mod rfl (sqo 3) (fun v w h => h)
 ·exact q_loadSt (off := 0) (l := 5) (fs := [.n P.x, .n P.y, .v (.bool P.i)]) (gs := [.n P.x, .n P.y, .v (.bool P.i)]) hp (free_of rfl) trivial (mq 2 rfl) (.inl rfl) rfl row_api_Point rfl (sqo 4) (fun v w h => h)
 ·exact q_loadSt (off := 0) (l := 5) (fs := [.n Q.x, .n Q.y, .v (.bool Q.i)]) (gs := [.n Q.x, .n Q.y, .v (.bool Q.i)]) hp (free_of rfl) trivial (mq 1 rfl) (.inl rfl) rfl row_api_Point rfl (sqo 5) (fun v w h => h)
 ·exact q_call3 (F := (Fq.st [.n A, .n B, .n M]).P) (G := (Fq.st [.n P.x, .n P.y, .v (.bool P.i)]).P) (F3 := (Fq.st [.n Q.x, .n Q.y, .v (.bool Q.i)]).P) hp (free_of rfl) trivial (enq_f_algorist_point_Add) (sqi 0) (sqi 1) (sqi 2) (fun v v' u w h h' g => exAddS h h' g hM.out hA.out hB.out hP.out hQ.out hR.out)
 ·exact q_move hp (free_of rfl) trivial (sqi 3)
 ·exact q_extract3 hp (free_of rfl) trivial (sqi 4) (fun v1 v2 v3 w h1 h2 h3 => ⟨_, rfl, h1⟩)
 ·exact q_extract3 hp (free_of rfl) trivial (sqi 4) (fun v1 v2 v3 w h1 h2 h3 => ⟨_, rfl, h2⟩)
 ·exact q_extract3 hp (free_of rfl) trivial (sqi 4) (fun v1 v2 v3 w h1 h2 h3 => ⟨_, rfl, h3⟩)
 ·exact q_allocSt (us := [.bool false, .slice none 0 0, .bool false, .slice none 0 0, .bool false]) (fs := [.n 0, .n 0, .v (.bool false)]) hp (mq 0 rfl) rfl rfl rfl (Nat.lt_of_sub_eq_succ rfl) rfl fits0_api_Point (fun ρ w => ralloc_api_Point ρ w) rfl (Nat.ne_of_beq_eq_false rfl) (fun _ _ => trivial) (old_ne rfl) (newk_ne rfl)
 ·exact q_allocInt hp (mq 1 rfl) rfl rfl rfl rfl (Nat.ne_of_beq_eq_false rfl) (fun _ _ => trivial) (old_ne rfl) (newk_ne rfl) (fun w => Num.zero w)
 ·exact q_storeNewSt (fs := [.n 0, .n 0, .v (.bool false)]) (gs := [.n R.1.x, .n R.1.y, .v (.bool R.1.i)]) hp (mq 0 rfl) rfl rfl rfl rfl size_api_Point rfl (own_ptr rfl rfl (by simp) rfl) (sq_in 5 rfl rfl (by simp) rfl (fun v w h => fitv_st h)) (fun _ _ => trivial) (old_ne rfl) (newi_ne rfl)
 ·exact q_storeNewInt hp (mq 1 rfl) rfl rfl rfl (own_ptr rfl rfl (by simp) rfl) (sq_in 6 rfl rfl (by simp) rfl (fun v w h => intV_num h)) (fun _ _ => trivial) (old_ne rfl) (newi_ne rfl)
 ·exact q_assign hp (free_of rfl) trivial (sqi 7)
 intro L vs w5 nb hL hC hn E5
 have e7 : vs 7 = .int .i64 R.2.2 := hC 7 (by simp)
 have e12 : vs 12 = .int .i64 R.2.2 := hC 12 (by simp)
 have e8 : vs 8 = .pointer (some ⟨nb 8, 0, none⟩) := hn _ (mq 0 rfl)
 have e9 : vs 9 = .pointer (some ⟨nb 9, 0, none⟩) := hn _ (mq 1 rfl)
 have E : Fr w [(nb 8, 5, Fq.st [.n R.1.x, .n R.1.y, .v (.bool R.1.i)]), (nb 9, 2, Fq.num R.2.1), (b4, 8, Fq.st [.n 0, .n 0, .v (.bool false), .n 0, .v (.int .i64 0)]), (b3, 5, Fq.st [.n Q.x, .n Q.y, .v (.bool Q.i)]), (b2, 5, Fq.st [.n P.x, .n P.y, .v (.bool P.i)]), (b1, 6, Fq.st [.n A, .n B, .n M])] w5 := E5
 rw [lay_all hL]
 simp only [putAll, dstOf, List.length_cons, List.length_nil, Nat.zero_add, Nat.reduceAdd, List.getElem?_toArray, List.getElem?_cons_zero, List.getElem?_cons_succ, Option.bind_some, Act.put, List.setIfInBounds_toArray, List.set_cons_succ, List.set_cons_zero]
 rw [e7, e12, e8, e9]
 generalize nb 8 = b5_8 at E ⊢
 generalize nb 9 = b5_9 at E ⊢
 generalize vs 0 = u5_0
 generalize vs 1 = u5_1
 generalize vs 2 = u5_2
 generalize vs 3 = u5_3
 generalize vs 4 = u5_4
 generalize vs 5 = u5_5
 generalize vs 6 = u5_6
 clear e7 e12 e8 e9 hC hn E5 hL vs L nb
 go_upto_region 2 with (fail)
 refine region_fr (C := [Fq.st [.n R.1.x, .n R.1.y, .v (.bool R.1.i)], Fq.num R.2.1, Fq.is (.int .i64 R.2.2), Fq.st [.n R.1.x, .n R.1.y, .v (.bool R.1.i), .n R.2.1, .v (.int .i64 R.2.2)], Fq.any]) (ks := [none, none, some (4, Fq.st [.n R.1.x, .n R.1.y, .v (.bool R.1.i), .n R.2.1, .v (.int .i64 R.2.2)]), none, none, none]) (new := []) E rfl (by kernel_rfl) rfl rfl (fun hp => ⟨?_, ?_, ?_, ?_, ?_, trivial⟩) ?_
 ·exact q_loadSt (off := 0) (l := 5) (fs := [.n R.1.x, .n R.1.y, .v (.bool R.1.i)]) (gs := [.n R.1.x, .n R.1.y, .v (.bool R.1.i)]) hp (free_of rfl) trivial (mq 0 rfl) (.inl rfl) rfl row_api_Point rfl (sqo 7) (fun v w h => h)
 ·exact q_loadInt (off := 0) hp (free_of rfl) trivial (mq 1 rfl) (.inl rfl) (Nat.le_of_ble_eq_true rfl) (sqo 8) (fun us w hl h => ld_num hl h)
 ·exact q_move hp (free_of rfl) trivial (sqo 9)
 ·exact q_build_algoristref06_Sum_012 (z1 := R.2.1) (u2 := R.2.2) (z0_0 := R.1.x) (z0_1 := R.1.y) (u0_2 := R.1.i) hp (free_of rfl) trivial (sqi 0) (sqi 1) (sqi 2) (fun v w h => h)
 ·exact q_storeOldSt (off := 0) (fs := [.n 0, .n 0, .v (.bool false), .n 0, .v (.int .i64 0)]) (gs := [.n R.1.x, .n R.1.y, .v (.bool R.1.i), .n R.2.1, .v (.int .i64 R.2.2)]) (fs' := [.n R.1.x, .n R.1.y, .v (.bool R.1.i), .n R.2.1, .v (.int .i64 R.2.2)]) hp (mq 2 rfl) rfl rfl rfl size_algoristref06_Sum rfl (sqo 6) (sq_in 3 rfl rfl (by simp) rfl (fun v w h => fitv_st h)) (fun _ _ => trivial) (newik_ne rfl)
 intro L vs w6 nb hL hC hn E6
 have e2 : vs 2 = .int .i64 R.2.2 := hC 2 (by simp)
 have E : Fr w [(b5_8, 5, Fq.st [.n R.1.x, .n R.1.y, .v (.bool R.1.i)]), (b5_9, 2, Fq.num R.2.1), (b4, 8, Fq.st [.n R.1.x, .n R.1.y, .v (.bool R.1.i), .n R.2.1, .v (.int .i64 R.2.2)]), (b3, 5, Fq.st [.n Q.x, .n Q.y, .v (.bool Q.i)]), (b2, 5, Fq.st [.n P.x, .n P.y, .v (.bool P.i)]), (b1, 6, Fq.st [.n A, .n B, .n M])] w6 := E6
 rw [lay_all hL]
 simp only [putAll, dstOf, List.length_cons, List.length_nil, Nat.zero_add, Nat.reduceAdd, List.getElem?_toArray, List.getElem?_cons_zero, List.getElem?_cons_succ, Option.bind_some, Act.put, List.setIfInBounds_toArray, List.set_cons_succ, List.set_cons_zero]
 rw [e2]
 generalize vs 0 = u6_0
 generalize vs 1 = u6_1
 generalize vs 3 = u6_3
 clear e2 hC hn E6 hL vs L nb
 clear hR
 obtain ⟨_, _, hc0, hf0⟩ := box_st (E.box 2 rfl)
 have hP0 := hf0
 obtain ⟨r0_p0, r0_q0, _, rfl, _r0_n0, r0_p1, r0_q1, _, rfl, _r0_n1, _, rfl, _, r0_p3, r0_q3, _, rfl, _r0_n3, _, rfl, _, rfl⟩ := hf0
 have c0_0 := hc0 0 (by simp)
 have c0_1 := hc0 1 (by simp)
 have c0_2 := hc0 2 (by simp)
 have c0_3 := hc0 3 (by simp)
 have c0_4 := hc0 4 (by simp)
 have c0_5 := hc0 5 (by simp)
 have c0_6 := hc0 6 (by simp)
 have c0_7 := hc0 7 (by simp)
 simp only [List.getD_cons_zero, List.getD_cons_succ] at c0_0 c0_1 c0_2 c0_3 c0_4 c0_5 c0_6 c0_7
 clear hc0
 clear hM hA hB hP hQ
 go_wp2
 refine bodyPost_ret (v := .agg #[r0_p0, r0_q0, r0_p1, r0_q1, .bool R.1.i, r0_p3, r0_q3, .int .i64 R.2.2]) ?_ rfl ⟨_, rfl, E.below, ⟨_, rfl, hP0⟩⟩
 simp [results, Try.results13, go_sem, c0_0, c0_1, c0_2, c0_3, c0_4, c0_5, c0_6, c0_7]

set_option maxRecDepth 100000 in
set_option maxHeartbeats 4000000 in
theorem exLTimes {w : World} {v v' u : Value} {A B M n : Int} {P : Pt} (h : (Fq.st [.n A, .n B, .n M]).P v w) (h' : Num w v' n) (g : (Fq.pt P).P u w) (hM : ab M < pw 5) (hA : ab A < pw 5) (hB : ab B < pw 5) (hn : ab n < pw 20) (hP : ab P.x < pw 5 ∧ ab P.y < pw 5) {R : Pt × Int × Int} (hR : timesS A B M n P = R) :
  Calls Try.prog 18 #[v, v', u] w fun e w' => ∃ v', e = .returned v' ∧ Below w.heap.size w w' ∧ (Fq.sm R).P v' w' := by
 replace hM := hidd hM
 replace hA := hidd hA
 replace hB := hidd hB
 replace hn := hidd hn
 replace hP := hidd hP
 replace hR := hidd hR
 obtain ⟨_, rfl, hf0⟩ := h
 have hF0 := hf0
 obtain ⟨y0_p0, y0_q0, _, rfl, _y0_n0, y0_p1, y0_q1, _, rfl, _y0_n1, y0_p2, y0_q2, _, rfl, _y0_n2, rfl⟩ := hf0
 obtain ⟨n1, ao1, k1, c1, rfl⟩ := h'.parts
 obtain ⟨_, rfl, hf2⟩ := g
 have hF2 := hf2
 obtain ⟨y2_p0, y2_q0, _, rfl, _y2_n0, y2_p1, y2_q1, _, rfl, _y2_n1, _, rfl, _, rfl⟩ := hf2
 obtain ⟨w1, b1, hw1, hb1, hs1, E⟩ := fr_start w (F := Fq.st [.n A, .n B, .n M]) (us := [y0_p0, y0_q0, y0_p1, y0_q1, y0_p2, y0_q2]) 31 rfl (by simp) (hF0.tame) (show (Fq.st [.n A, .n B, .n M]).P _ w from ⟨_, rfl, hF0⟩)
 obtain ⟨w2, b2, hw2, hb2, hs2, E⟩ := fr_more E hs1 (F := Fq.num n) (us := [.bool n1, .slice ao1 k1 c1]) 29 rfl (by simp) (tame_int _ _ _ _) (h'.mono E.below)
 obtain ⟨w3, b3, hw3, hb3, hs3, E⟩ := fr_more E hs2 (F := Fq.st [.n P.x, .n P.y, .v (.bool P.i)]) (us := [y2_p0, y2_q0, y2_p1, y2_q1, .bool P.i]) 37 rfl (by simp) (hF2.tame) ((Fq.st [.n P.x, .n P.y, .v (.bool P.i)]).mono (show (Fq.st [.n P.x, .n P.y, .v (.bool P.i)]).P _ w from ⟨_, rfl, hF2⟩) E.below)
 obtain ⟨w4, b4, hw4, hb4, hs4, E⟩ := fr_more E hs3 (F := Fq.st [.n 0, .n 0, .v (.bool false), .n 0, .v (.int .i64 0)]) (us := [.bool false, .slice none 0 0, .bool false, .slice none 0 0, .bool false, .bool false, .slice none 0 0, .int .i64 0]) 41 rfl (by simp) ((Fits.tame (fits0_algoristref06_Sum w))) (fits0P_algoristref06_Sum _)
 go_enter Try.func18, Try.ntmps18
 go_upto_region 1 with (fail)
 rw [← hw1]
 rw [← hw2]
 rw [← hw3]
 rw [← hw4]
 rw [← hb4]
 rw [← hb3]
 rw [← hb2]
 rw [← hb1]
 clear hw1 hw2 hw3 hw4 hb1 hb2 hb3 hb4 hs4 hs1 hs2 hs3
 refine region_fr (C := [Fq.st [.n A, .n B, .n M], Fq.num n, Fq.st [.n P.x, .n P.y, .v (.bool P.i)], Fq.tup3 (Fq.st [.n R.1.x, .n R.1.y, .v (.bool R.1.i)]) (Fq.num R.2.1) (Fq.is (.int .i64 R.2.2)), Fq.tup3 (Fq.st [.n R.1.x, .n R.1.y, .v (.bool R.1.i)]) (Fq.num R.2.1) (Fq.is (.int .i64 R.2.2)), Fq.st [.n R.1.x, .n R.1.y, .v (.bool R.1.i)], Fq.num R.2.1, Fq.is (.int .i64 R.2.2), Fq.any, Fq.any, Fq.any, Fq.any, Fq.is (.int .i64 R.2.2)]) (ks := [none, none, none, none]) (new := [⟨8, 10, 5, Fq.st [.n 0, .n 0, .v (.bool false)], Fq.st [.n R.1.x, .n R.1.y, .v (.bool R.1.i)], none⟩, ⟨9, 11, 2, Fq.num 0, Fq.num R.2.1, none⟩]) E rfl (by kernel_rfl) rfl rfl (fun hp => ⟨?_, ?_, ?_, ?_, ?_, ?_, ?_, ?_, ?_, ?_, ?_, ?_, ?_, trivial⟩) ?_
 ·exact q_loadSt (off := 0) (l := 6) (fs := [.n A, .n B, .n M]) (gs := [.n A, .n B, .n M]) hp (free_of rfl) trivial (mq 3 rfl) (.inl rfl) rfl row_api_Mod rfl (sqo 3) (fun v w h => h)
 ·exact q_loadInt (off := 0) hp (free_of rfl) trivial (mq 2 rfl) (.inl rfl) (Nat.le_of_ble_eq_true rfl) (sqo 4) (fun us w hl h => ld_num hl h)
 ·exact q_loadSt (off := 0) (l := 5) (fs := [.n P.x, .n P.y, .v (.bool P.i)]) (gs := [.n P.x, .n P.y, .v (.bool P.i)]) hp (free_of rfl) trivial (mq 1 rfl) (.inl rfl) rfl row_api_Point rfl (sqo 5) (fun v w h => h)
 ·exact q_call3 (F := (Fq.st [.n A, .n B, .n M]).P) (G := (Fq.num n).P) (F3 := (Fq.st [.n P.x, .n P.y, .v (.bool P.i)]).P) hp (free_of rfl) trivial (enq_f_algorist_point_Times) (sqi 0) (sqi 1) (sqi 2) (fun v v' u w h h' g => exTimesS h h' g hM.out hA.out hB.out hn.out hP.out hR.out)
 ·exact q_move hp (free_of rfl) trivial (sqi 3)
 ·exact q_extract3 hp (free_of rfl) trivial (sqi 4) (fun v1 v2 v3 w h1 h2 h3 => ⟨_, rfl, h1⟩)
 ·exact q_extract3 hp (free_of rfl) trivial (sqi 4) (fun v1 v2 v3 w h1 h2 h3 => ⟨_, rfl, h2⟩)
 ·exact q_extract3 hp (free_of rfl) trivial (sqi 4) (fun v1 v2 v3 w h1 h2 h3 => ⟨_, rfl, h3⟩)
 ·exact q_allocSt (us := [.bool false, .slice none 0 0, .bool false, .slice none 0 0, .bool false]) (fs := [.n 0, .n 0, .v (.bool false)]) hp (mq 0 rfl) rfl rfl rfl (Nat.lt_of_sub_eq_succ rfl) rfl fits0_api_Point (fun ρ w => ralloc_api_Point ρ w) rfl (Nat.ne_of_beq_eq_false rfl) (fun _ _ => trivial) (old_ne rfl) (newk_ne rfl)
 ·exact q_allocInt hp (mq 1 rfl) rfl rfl rfl rfl (Nat.ne_of_beq_eq_false rfl) (fun _ _ => trivial) (old_ne rfl) (newk_ne rfl) (fun w => Num.zero w)
 ·exact q_storeNewSt (fs := [.n 0, .n 0, .v (.bool false)]) (gs := [.n R.1.x, .n R.1.y, .v (.bool R.1.i)]) hp (mq 0 rfl) rfl rfl rfl rfl size_api_Point rfl (own_ptr rfl rfl (by simp) rfl) (sq_in 5 rfl rfl (by simp) rfl (fun v w h => fitv_st h)) (fun _ _ => trivial) (old_ne rfl) (newi_ne rfl)
 ·exact q_storeNewInt hp (mq 1 rfl) rfl rfl rfl (own_ptr rfl rfl (by simp) rfl) (sq_in 6 rfl rfl (by simp) rfl (fun v w h => intV_num h)) (fun _ _ => trivial) (old_ne rfl) (newi_ne rfl)
 ·exact q_assign hp (free_of rfl) trivial (sqi 7)
 intro L vs w5 nb hL hC hn E5
 have e7 : vs 7 = .int .i64 R.2.2 := hC 7 (by simp)
 have e12 : vs 12 = .int .i64 R.2.2 := hC 12 (by simp)
 have e8 : vs 8 = .pointer (some ⟨nb 8, 0, none⟩) := hn _ (mq 0 rfl)
 have e9 : vs 9 = .pointer (some ⟨nb 9, 0, none⟩) := hn _ (mq 1 rfl)
 have E : Fr w [(nb 8, 5, Fq.st [.n R.1.x, .n R.1.y, .v (.bool R.1.i)]), (nb 9, 2, Fq.num R.2.1), (b4, 8, Fq.st [.n 0, .n 0, .v (.bool false), .n 0, .v (.int .i64 0)]), (b3, 5, Fq.st [.n P.x, .n P.y, .v (.bool P.i)]), (b2, 2, Fq.num n), (b1, 6, Fq.st [.n A, .n B, .n M])] w5 := E5
 rw [lay_all hL]
 simp only [putAll, dstOf, List.length_cons, List.length_nil, Nat.zero_add, Nat.reduceAdd, List.getElem?_toArray, List.getElem?_cons_zero, List.getElem?_cons_succ, Option.bind_some, Act.put, List.setIfInBounds_toArray, List.set_cons_succ, List.set_cons_zero]
 rw [e7, e12, e8, e9]
 generalize nb 8 = b5_8 at E ⊢
 generalize nb 9 = b5_9 at E ⊢
 generalize vs 0 = u5_0
 generalize vs 1 = u5_1
 generalize vs 2 = u5_2
 generalize vs 3 = u5_3
 generalize vs 4 = u5_4
 generalize vs 5 = u5_5
 generalize vs 6 = u5_6
 clear e7 e12 e8 e9 hC hn E5 hL vs L nb
 go_upto_region 2 with (fail)
 refine region_fr (C := [Fq.st [.n R.1.x, .n R.1.y, .v (.bool R.1.i)], Fq.num R.2.1, Fq.is (.int .i64 R.2.2), Fq.st [.n R.1.x, .n R.1.y, .v (.bool R.1.i), .n R.2.1, .v (.int .i64 R.2.2)], Fq.any]) (ks := [none, none, some (4, Fq.st [.n R.1.x, .n R.1.y, .v (.bool R.1.i), .n R.2.1, .v (.int .i64 R.2.2)]), none, none, none]) (new := []) E rfl (by kernel_rfl) rfl rfl (fun hp => ⟨?_, ?_, ?_, ?_, ?_, trivial⟩) ?_
 ·exact q_loadSt (off := 0) (l := 5) (fs := [.n R.1.x, .n R.1.y, .v (.bool R.1.i)]) (gs := [.n R.1.x, .n R.1.y, .v (.bool R.1.i)]) hp (free_of rfl) trivial (mq 0 rfl) (.inl rfl) rfl row_api_Point rfl (sqo 7) (fun v w h => h)
 ·exact q_loadInt (off := 0) hp (free_of rfl) trivial (mq 1 rfl) (.inl rfl) (Nat.le_of_ble_eq_true rfl) (sqo 8) (fun us w hl h => ld_num hl h)
 ·exact q_move hp (free_of rfl) trivial (sqo 9)
 ·exact q_build_algoristref06_Sum_012 (z1 := R.2.1) (u2 := R.2.2) (z0_0 := R.1.x) (z0_1 := R.1.y) (u0_2 := R.1.i) hp (free_of rfl) trivial (sqi 0) (sqi 1) (sqi 2) (fun v w h => h)
 ·exact q_storeOldSt (off := 0) (fs := [.n 0, .n 0, .v (.bool false), .n 0, .v (.int .i64 0)]) (gs := [.n R.1.x, .n R.1.y, .v (.bool R.1.i), .n R.2.1, .v (.int .i64 R.2.2)]) (fs' := [.n R.1.x, .n R.1.y, .v (.bool R.1.i), .n R.2.1, .v (.int .i64 R.2.2)]) hp (mq 2 rfl) rfl rfl rfl size_algoristref06_Sum rfl (sqo 6) (sq_in 3 rfl rfl (by simp) rfl (fun v w h => fitv_st h)) (fun _ _ => trivial) (newik_ne rfl)
 intro L vs w6 nb hL hC hn E6
 have e2 : vs 2 = .int .i64 R.2.2 := hC 2 (by simp)
 have E : Fr w [(b5_8, 5, Fq.st [.n R.1.x, .n R.1.y, .v (.bool R.1.i)]), (b5_9, 2, Fq.num R.2.1), (b4, 8, Fq.st [.n R.1.x, .n R.1.y, .v (.bool R.1.i), .n R.2.1, .v (.int .i64 R.2.2)]), (b3, 5, Fq.st [.n P.x, .n P.y, .v (.bool P.i)]), (b2, 2, Fq.num n), (b1, 6, Fq.st [.n A, .n B, .n M])] w6 := E6
 rw [lay_all hL]
 simp only [putAll, dstOf, List.length_cons, List.length_nil, Nat.zero_add, Nat.reduceAdd, List.getElem?_toArray, List.getElem?_cons_zero, List.getElem?_cons_succ, Option.bind_some, Act.put, List.setIfInBounds_toArray, List.set_cons_succ, List.set_cons_zero]
 rw [e2]
 generalize vs 0 = u6_0
 generalize vs 1 = u6_1
 generalize vs 3 = u6_3
 clear e2 hC hn E6 hL vs L nb
 clear hR
 obtain ⟨_, _, hc0, hf0⟩ := box_st (E.box 2 rfl)
 have hP0 := hf0
 obtain ⟨r0_p0, r0_q0, _, rfl, _r0_n0, r0_p1, r0_q1, _, rfl, _r0_n1, _, rfl, _, r0_p3, r0_q3, _, rfl, _r0_n3, _, rfl, _, rfl⟩ := hf0
 have c0_0 := hc0 0 (by simp)
 have c0_1 := hc0 1 (by simp)
 have c0_2 := hc0 2 (by simp)
 have c0_3 := hc0 3 (by simp)
 have c0_4 := hc0 4 (by simp)
 have c0_5 := hc0 5 (by simp)
 have c0_6 := hc0 6 (by simp)
 have c0_7 := hc0 7 (by simp)
 simp only [List.getD_cons_zero, List.getD_cons_succ] at c0_0 c0_1 c0_2 c0_3 c0_4 c0_5 c0_6 c0_7
 clear hc0
 clear hM hA hB hn hP
 go_wp2
 refine bodyPost_ret (v := .agg #[r0_p0, r0_q0, r0_p1, r0_q1, .bool R.1.i, r0_p3, r0_q3, .int .i64 R.2.2]) ?_ rfl ⟨_, rfl, E.below, ⟨_, rfl, hP0⟩⟩
 simp [results, Try.results18, go_sem, c0_0, c0_1, c0_2, c0_3, c0_4, c0_5, c0_6, c0_7]

set_option maxRecDepth 100000 in
set_option maxHeartbeats 4000000 in
theorem exPtSame {w : World} {v v' : Value} {P Q : Pt} (h : (Fq.pt P).P v w) (h' : (Fq.pt Q).P v' w) {t : Bool} (ht : sameP P Q = t) :
  Calls Try.prog 14 #[v, v'] w fun e w' => ∃ v', e = .returned v' ∧ Below w.heap.size w w' ∧ v' = .bool t := by
 obtain ⟨_, rfl, hf0⟩ := h
 have hF0 := hf0
 obtain ⟨y0_p0, y0_q0, _, rfl, _y0_n0, y0_p1, y0_q1, _, rfl, _y0_n1, _, rfl, _, rfl⟩ := hf0
 obtain ⟨_, rfl, hf1⟩ := h'
 have hF1 := hf1
 obtain ⟨y1_p0, y1_q0, _, rfl, _y1_n0, y1_p1, y1_q1, _, rfl, _y1_n1, _, rfl, _, rfl⟩ := hf1
 obtain ⟨w1, b1, hw1, hb1, hs1, E⟩ := fr_start w (F := Fq.st [.n P.x, .n P.y, .v (.bool P.i)]) (us := [y0_p0, y0_q0, y0_p1, y0_q1, .bool P.i]) 37 rfl (by simp) (hF0.tame) (show (Fq.st [.n P.x, .n P.y, .v (.bool P.i)]).P _ w from ⟨_, rfl, hF0⟩)
 obtain ⟨w2, b2, hw2, hb2, hs2, E⟩ := fr_more E hs1 (F := Fq.st [.n Q.x, .n Q.y, .v (.bool Q.i)]) (us := [y1_p0, y1_q0, y1_p1, y1_q1, .bool Q.i]) 37 rfl (by simp) (hF1.tame) ((Fq.st [.n Q.x, .n Q.y, .v (.bool Q.i)]).mono (show (Fq.st [.n Q.x, .n Q.y, .v (.bool Q.i)]).P _ w from ⟨_, rfl, hF1⟩) E.below)
 go_enter Try.func14, Try.ntmps14
 go_upto_region 1 with (fail)
 rw [← hw1]
 rw [← hw2]
 rw [← hb2]
 rw [← hb1]
 clear hw1 hw2 hb1 hb2 hs2 hs1
 go_upto_region 1 with (fail)
 by_cases hi : P.i = Q.i
 ·by_cases hx : P.x = Q.x
  ·by_cases hy : P.y = Q.y
   ·have ht2 : t = true := ht.symm.trans (by unfold sameP; rw [hi, hx, hy]; simp)
    subst ht2
    clear ht
    have HI := hidd (decide_eq_true hi)
    have HX := hidd (decide_eq_true hx)
    have HY := hidd (decide_eq_true hy)
    have HI2 : Hid ((P.i == Q.i) = true) := by show _ = _; rw [hi]; simp
    clear hi hx hy HI
    refine region_fr (C := [Fq.is (.pointer (some ⟨b1, 4, none⟩)), Fq.is (.bool P.i), Fq.is (.pointer (some ⟨b2, 4, none⟩)), Fq.is (.bool Q.i), Fq.is (.bool true), Fq.is (.bool true), Fq.is (.pointer (some ⟨b1, 0, none⟩)), Fq.num P.x, Fq.is (.pointer (some ⟨b2, 0, none⟩)), Fq.num Q.x, Fq.is (.bool true), Fq.is (.bool true), Fq.is (.bool true), Fq.is (.pointer (some ⟨b1, 2, none⟩)), Fq.num P.y, Fq.is (.pointer (some ⟨b2, 2, none⟩)), Fq.num Q.y, Fq.is (.bool true), Fq.is (.bool true), Fq.is (.bool true)]) (ks := [none, none]) (new := []) E rfl (by kernel_rfl) rfl rfl (fun hp => ⟨?_, ?_, ?_, ?_, ?_, ?_, ?_, ?_, ?_, ?_, ?_, ?_, ?_, ?_, ?_, ?_, ?_, ?_, ?_, ?_, trivial⟩) ?_
    ·exact q_addr (b := b1) (off := 0) (off' := 4) hp (free_of rfl) trivial (sqo 2) (fun ρ w h => by simp [execOp, go_sem, h]) (fun _ => rfl)
    ·exact q_load1 (off := 4) (fs := [.n P.x, .n P.y, .v (.bool P.i)]) (u := .bool P.i) hp (free_of rfl) trivial (mq 1 rfl) (.inl rfl) rfl rfl (fun ρ w b h1 h2 => by simp [execOp, go_sem, h1, h2]) (sqi 0) (fun _ => rfl)
    ·exact q_addr (b := b2) (off := 0) (off' := 4) hp (free_of rfl) trivial (sqo 3) (fun ρ w h => by simp [execOp, go_sem, h]) (fun _ => rfl)
    ·exact q_load1 (off := 4) (fs := [.n Q.x, .n Q.y, .v (.bool Q.i)]) (u := .bool Q.i) hp (free_of rfl) trivial (mq 0 rfl) (.inl rfl) rfl rfl (fun ρ w b h1 h2 => by simp [execOp, go_sem, h1, h2]) (sqi 2) (fun _ => rfl)
    ·exact q_two (F := fun v _ => v = .bool P.i) (G := fun v _ => v = .bool Q.i) hp (free_of rfl) trivial (sqi 1) (sqi 3) (fun ρ w hc h h' => ⟨.bool true, by simp [execOp, go_sem, h, h', HI2.out], rfl⟩)
    ·exact q_move hp (free_of rfl) trivial (sqi 4)
    ·exact q_addr (b := b1) (off := 0) (off' := 0) hp (free_of rfl) gqi (sqo 2) (fun ρ w h => by simp [execOp, go_sem, h]) (fun _ => rfl)
    ·exact q_loadSt (off := 0) (l := 2) (fs := [.n P.x, .n P.y, .v (.bool P.i)]) (gs := [.n P.x]) hp (free_of rfl) gqi (mq 1 rfl) (.inl rfl) rfl row_api_Int rfl (sqi 6) (fun v w h => st_num h)
    ·exact q_addr (b := b2) (off := 0) (off' := 0) hp (free_of rfl) gqi (sqo 3) (fun ρ w h => by simp [execOp, go_sem, h]) (fun _ => rfl)
    ·exact q_loadSt (off := 0) (l := 2) (fs := [.n Q.x, .n Q.y, .v (.bool Q.i)]) (gs := [.n Q.x]) hp (free_of rfl) gqi (mq 0 rfl) (.inl rfl) rfl row_api_Int rfl (sqi 8) (fun v w h => st_num h)
    ·exact q_call2 (F := (Fq.num P.x).P) (G := (Fq.num Q.x).P) hp (free_of rfl) gqi (enq_R_Same) (sqi 7) (sqi 9) (fun v v' w h h' => exRSameB h h' HX.out)
    ·exact q_two (F := fun v _ => v = .bool true) (G := fun v _ => v = .bool true) hp (free_of rfl) trivial (sqi 5) (sqi 10) (fun ρ w hc h h' => ⟨_, by simp [execOp, go_sem, h, h'], rfl⟩)
    ·exact q_move hp (free_of rfl) trivial (sqi 11)
    ·exact q_addr (b := b1) (off := 0) (off' := 2) hp (free_of rfl) gqi (sqo 2) (fun ρ w h => by simp [execOp, go_sem, h]) (fun _ => rfl)
    ·exact q_loadSt (off := 2) (l := 2) (fs := [.n P.x, .n P.y, .v (.bool P.i)]) (gs := [.n P.y]) hp (free_of rfl) gqi (mq 1 rfl) (.inl rfl) rfl row_api_Int rfl (sqi 13) (fun v w h => st_num h)
    ·exact q_addr (b := b2) (off := 0) (off' := 2) hp (free_of rfl) gqi (sqo 3) (fun ρ w h => by simp [execOp, go_sem, h]) (fun _ => rfl)
    ·exact q_loadSt (off := 2) (l := 2) (fs := [.n Q.x, .n Q.y, .v (.bool Q.i)]) (gs := [.n Q.y]) hp (free_of rfl) gqi (mq 0 rfl) (.inl rfl) rfl row_api_Int rfl (sqi 15) (fun v w h => st_num h)
    ·exact q_call2 (F := (Fq.num P.y).P) (G := (Fq.num Q.y).P) hp (free_of rfl) gqi (enq_R_Same) (sqi 14) (sqi 16) (fun v v' w h h' => exRSameB h h' HY.out)
    ·exact q_two (F := fun v _ => v = .bool true) (G := fun v _ => v = .bool true) hp (free_of rfl) trivial (sqi 12) (sqi 17) (fun ρ w hc h h' => ⟨_, by simp [execOp, go_sem, h, h'], rfl⟩)
    ·exact q_assign hp (free_of rfl) trivial (sqi 18)
    intro L vs w3 nb hL hC hn E3
    have e0 : vs 0 = .pointer (some ⟨b1, 4, none⟩) := hC 0 (by simp)
    have e1 : vs 1 = .bool P.i := hC 1 (by simp)
    have e2 : vs 2 = .pointer (some ⟨b2, 4, none⟩) := hC 2 (by simp)
    have e3 : vs 3 = .bool Q.i := hC 3 (by simp)
    have e4 : vs 4 = .bool true := hC 4 (by simp)
    have e5 : vs 5 = .bool true := hC 5 (by simp)
    have e6 : vs 6 = .pointer (some ⟨b1, 0, none⟩) := hC 6 (by simp)
    have e8 : vs 8 = .pointer (some ⟨b2, 0, none⟩) := hC 8 (by simp)
    have e10 : vs 10 = .bool true := hC 10 (by simp)
    have e11 : vs 11 = .bool true := hC 11 (by simp)
    have e12 : vs 12 = .bool true := hC 12 (by simp)
    have e13 : vs 13 = .pointer (some ⟨b1, 2, none⟩) := hC 13 (by simp)
    have e15 : vs 15 = .pointer (some ⟨b2, 2, none⟩) := hC 15 (by simp)
    have e17 : vs 17 = .bool true := hC 17 (by simp)
    have e18 : vs 18 = .bool true := hC 18 (by simp)
    have e19 : vs 19 = .bool true := hC 19 (by simp)
    have E : Fr w [(b2, 5, Fq.st [.n Q.x, .n Q.y, .v (.bool Q.i)]), (b1, 5, Fq.st [.n P.x, .n P.y, .v (.bool P.i)])] w3 := E3
    rw [lay_all hL]
    simp only [putAll, dstOf, List.length_cons, List.length_nil, Nat.zero_add, Nat.reduceAdd, List.getElem?_toArray, List.getElem?_cons_zero, List.getElem?_cons_succ, Option.bind_some, Act.put, List.setIfInBounds_toArray, List.set_cons_succ, List.set_cons_zero]
    rw [e0, e1, e2, e3, e4, e5, e6, e8, e10, e11, e12, e13, e15, e17, e18, e19]
    generalize vs 7 = u3_7
    generalize vs 9 = u3_9
    generalize vs 14 = u3_14
    generalize vs 16 = u3_16
    clear e0 e1 e2 e3 e4 e5 e6 e8 e10 e11 e12 e13 e15 e17 e18 e19 hC hn E3 hL vs L nb
    clear HX HY HI2
    go_wp2
    refine bodyPost_ret (v := .bool true) ?_ rfl ⟨_, rfl, E.below, rfl⟩
    simp [results, Try.results14, go_sem]
   ·have ht2 : t = false := ht.symm.trans (by unfold sameP; simp [hy])
    subst ht2
    clear ht
    have HX := hidd (decide_eq_true hx)
    have HY := hidd (decide_eq_false hy)
    have HI2 : Hid ((P.i == Q.i) = true) := by show _ = _; rw [hi]; simp
    clear hi hx hy
    refine region_fr (C := [Fq.is (.pointer (some ⟨b1, 4, none⟩)), Fq.is (.bool P.i), Fq.is (.pointer (some ⟨b2, 4, none⟩)), Fq.is (.bool Q.i), Fq.is (.bool true), Fq.is (.bool true), Fq.is (.pointer (some ⟨b1, 0, none⟩)), Fq.num P.x, Fq.is (.pointer (some ⟨b2, 0, none⟩)), Fq.num Q.x, Fq.is (.bool true), Fq.is (.bool true), Fq.is (.bool true), Fq.is (.pointer (some ⟨b1, 2, none⟩)), Fq.num P.y, Fq.is (.pointer (some ⟨b2, 2, none⟩)), Fq.num Q.y, Fq.is (.bool false), Fq.is (.bool false), Fq.is (.bool false)]) (ks := [none, none]) (new := []) E rfl (by kernel_rfl) rfl rfl (fun hp => ⟨?_, ?_, ?_, ?_, ?_, ?_, ?_, ?_, ?_, ?_, ?_, ?_, ?_, ?_, ?_, ?_, ?_, ?_, ?_, ?_, trivial⟩) ?_
    ·exact q_addr (b := b1) (off := 0) (off' := 4) hp (free_of rfl) trivial (sqo 2) (fun ρ w h => by simp [execOp, go_sem, h]) (fun _ => rfl)
    ·exact q_load1 (off := 4) (fs := [.n P.x, .n P.y, .v (.bool P.i)]) (u := .bool P.i) hp (free_of rfl) trivial (mq 1 rfl) (.inl rfl) rfl rfl (fun ρ w b h1 h2 => by simp [execOp, go_sem, h1, h2]) (sqi 0) (fun _ => rfl)
    ·exact q_addr (b := b2) (off := 0) (off' := 4) hp (free_of rfl) trivial (sqo 3) (fun ρ w h => by simp [execOp, go_sem, h]) (fun _ => rfl)
    ·exact q_load1 (off := 4) (fs := [.n Q.x, .n Q.y, .v (.bool Q.i)]) (u := .bool Q.i) hp (free_of rfl) trivial (mq 0 rfl) (.inl rfl) rfl rfl (fun ρ w b h1 h2 => by simp [execOp, go_sem, h1, h2]) (sqi 2) (fun _ => rfl)
    ·exact q_two (F := fun v _ => v = .bool P.i) (G := fun v _ => v = .bool Q.i) hp (free_of rfl) trivial (sqi 1) (sqi 3) (fun ρ w hc h h' => ⟨.bool true, by simp [execOp, go_sem, h, h', HI2.out], rfl⟩)
    ·exact q_move hp (free_of rfl) trivial (sqi 4)
    ·exact q_addr (b := b1) (off := 0) (off' := 0) hp (free_of rfl) gqi (sqo 2) (fun ρ w h => by simp [execOp, go_sem, h]) (fun _ => rfl)
    ·exact q_loadSt (off := 0) (l := 2) (fs := [.n P.x, .n P.y, .v (.bool P.i)]) (gs := [.n P.x]) hp (free_of rfl) gqi (mq 1 rfl) (.inl rfl) rfl row_api_Int rfl (sqi 6) (fun v w h => st_num h)
    ·exact q_addr (b := b2) (off := 0) (off' := 0) hp (free_of rfl) gqi (sqo 3) (fun ρ w h => by simp [execOp, go_sem, h]) (fun _ => rfl)
    ·exact q_loadSt (off := 0) (l := 2) (fs := [.n Q.x, .n Q.y, .v (.bool Q.i)]) (gs := [.n Q.x]) hp (free_of rfl) gqi (mq 0 rfl) (.inl rfl) rfl row_api_Int rfl (sqi 8) (fun v w h => st_num h)
    ·exact q_call2 (F := (Fq.num P.x).P) (G := (Fq.num Q.x).P) hp (free_of rfl) gqi (enq_R_Same) (sqi 7) (sqi 9) (fun v v' w h h' => exRSameB h h' HX.out)
    ·exact q_two (F := fun v _ => v = .bool true) (G := fun v _ => v = .bool true) hp (free_of rfl) trivial (sqi 5) (sqi 10) (fun ρ w hc h h' => ⟨_, by simp [execOp, go_sem, h, h'], rfl⟩)
    ·exact q_move hp (free_of rfl) trivial (sqi 11)
    ·exact q_addr (b := b1) (off := 0) (off' := 2) hp (free_of rfl) gqi (sqo 2) (fun ρ w h => by simp [execOp, go_sem, h]) (fun _ => rfl)
    ·exact q_loadSt (off := 2) (l := 2) (fs := [.n P.x, .n P.y, .v (.bool P.i)]) (gs := [.n P.y]) hp (free_of rfl) gqi (mq 1 rfl) (.inl rfl) rfl row_api_Int rfl (sqi 13) (fun v w h => st_num h)
    ·exact q_addr (b := b2) (off := 0) (off' := 2) hp (free_of rfl) gqi (sqo 3) (fun ρ w h => by simp [execOp, go_sem, h]) (fun _ => rfl)
    ·exact q_loadSt (off := 2) (l := 2) (fs := [.n Q.x, .n Q.y, .v (.bool Q.i)]) (gs := [.n Q.y]) hp (free_of rfl) gqi (mq 0 rfl) (.inl rfl) rfl row_api_Int rfl (sqi 15) (fun v w h => st_num h)
    ·exact q_call2 (F := (Fq.num P.y).P) (G := (Fq.num Q.y).P) hp (free_of rfl) gqi (enq_R_Same) (sqi 14) (sqi 16) (fun v v' w h h' => exRSameB h h' HY.out)
    ·exact q_two (F := fun v _ => v = .bool true) (G := fun v _ => v = .bool false) hp (free_of rfl) trivial (sqi 12) (sqi 17) (fun ρ w hc h h' => ⟨_, by simp [execOp, go_sem, h, h'], rfl⟩)
    ·exact q_assign hp (free_of rfl) trivial (sqi 18)
    intro L vs w4 nb hL hC hn E4
    have e0 : vs 0 = .pointer (some ⟨b1, 4, none⟩) := hC 0 (by simp)
    have e1 : vs 1 = .bool P.i := hC 1 (by simp)
    have e2 : vs 2 = .pointer (some ⟨b2, 4, none⟩) := hC 2 (by simp)
    have e3 : vs 3 = .bool Q.i := hC 3 (by simp)
    have e4 : vs 4 = .bool true := hC 4 (by simp)
    have e5 : vs 5 = .bool true := hC 5 (by simp)
    have e6 : vs 6 = .pointer (some ⟨b1, 0, none⟩) := hC 6 (by simp)
    have e8 : vs 8 = .pointer (some ⟨b2, 0, none⟩) := hC 8 (by simp)
    have e10 : vs 10 = .bool true := hC 10 (by simp)
    have e11 : vs 11 = .bool true := hC 11 (by simp)
    have e12 : vs 12 = .bool true := hC 12 (by simp)
    have e13 : vs 13 = .pointer (some ⟨b1, 2, none⟩) := hC 13 (by simp)
    have e15 : vs 15 = .pointer (some ⟨b2, 2, none⟩) := hC 15 (by simp)
    have e17 : vs 17 = .bool false := hC 17 (by simp)
    have e18 : vs 18 = .bool false := hC 18 (by simp)
    have e19 : vs 19 = .bool false := hC 19 (by simp)
    have E : Fr w [(b2, 5, Fq.st [.n Q.x, .n Q.y, .v (.bool Q.i)]), (b1, 5, Fq.st [.n P.x, .n P.y, .v (.bool P.i)])] w4 := E4
    rw [lay_all hL]
    simp only [putAll, dstOf, List.length_cons, List.length_nil, Nat.zero_add, Nat.reduceAdd, List.getElem?_toArray, List.getElem?_cons_zero, List.getElem?_cons_succ, Option.bind_some, Act.put, List.setIfInBounds_toArray, List.set_cons_succ, List.set_cons_zero]
    rw [e0, e1, e2, e3, e4, e5, e6, e8, e10, e11, e12, e13, e15, e17, e18, e19]
    generalize vs 7 = u4_7
    generalize vs 9 = u4_9
    generalize vs 14 = u4_14
    generalize vs 16 = u4_16
    clear e0 e1 e2 e3 e4 e5 e6 e8 e10 e11 e12 e13 e15 e17 e18 e19 hC hn E4 hL vs L nb
    clear HX HY HI2
    go_wp2
    refine bodyPost_ret (v := .bool false) ?_ rfl ⟨_, rfl, E.below, rfl⟩
    simp [results, Try.results14, go_sem]
  ·have ht2 : t = false := ht.symm.trans (by unfold sameP; simp [hx])
   subst ht2
   clear ht
   have HX := hidd (decide_eq_false hx)
   have HI2 : Hid ((P.i == Q.i) = true) := by show _ = _; rw [hi]; simp
   clear hi hx
   refine region_fr (C := [Fq.is (.pointer (some ⟨b1, 4, none⟩)), Fq.is (.bool P.i), Fq.is (.pointer (some ⟨b2, 4, none⟩)), Fq.is (.bool Q.i), Fq.is (.bool true), Fq.is (.bool true), Fq.is (.pointer (some ⟨b1, 0, none⟩)), Fq.num P.x, Fq.is (.pointer (some ⟨b2, 0, none⟩)), Fq.num Q.x, Fq.is (.bool false), Fq.is (.bool false), Fq.is (.bool false), Fq.is (undef), Fq.is (undef), Fq.is (undef), Fq.is (undef), Fq.is (undef), Fq.is (.bool false), Fq.is (.bool false)]) (ks := [none, none]) (new := []) E rfl (by kernel_rfl) rfl rfl (fun hp => ⟨?_, ?_, ?_, ?_, ?_, ?_, ?_, ?_, ?_, ?_, ?_, ?_, ?_, ?_, ?_, ?_, ?_, ?_, ?_, ?_, trivial⟩) ?_
   ·exact q_addr (b := b1) (off := 0) (off' := 4) hp (free_of rfl) trivial (sqo 2) (fun ρ w h => by simp [execOp, go_sem, h]) (fun _ => rfl)
   ·exact q_load1 (off := 4) (fs := [.n P.x, .n P.y, .v (.bool P.i)]) (u := .bool P.i) hp (free_of rfl) trivial (mq 1 rfl) (.inl rfl) rfl rfl (fun ρ w b h1 h2 => by simp [execOp, go_sem, h1, h2]) (sqi 0) (fun _ => rfl)
   ·exact q_addr (b := b2) (off := 0) (off' := 4) hp (free_of rfl) trivial (sqo 3) (fun ρ w h => by simp [execOp, go_sem, h]) (fun _ => rfl)
   ·exact q_load1 (off := 4) (fs := [.n Q.x, .n Q.y, .v (.bool Q.i)]) (u := .bool Q.i) hp (free_of rfl) trivial (mq 0 rfl) (.inl rfl) rfl rfl (fun ρ w b h1 h2 => by simp [execOp, go_sem, h1, h2]) (sqi 2) (fun _ => rfl)
   ·exact q_two (F := fun v _ => v = .bool P.i) (G := fun v _ => v = .bool Q.i) hp (free_of rfl) trivial (sqi 1) (sqi 3) (fun ρ w hc h h' => ⟨.bool true, by simp [execOp, go_sem, h, h', HI2.out], rfl⟩)
   ·exact q_move hp (free_of rfl) trivial (sqi 4)
   ·exact q_addr (b := b1) (off := 0) (off' := 0) hp (free_of rfl) gqi (sqo 2) (fun ρ w h => by simp [execOp, go_sem, h]) (fun _ => rfl)
   ·exact q_loadSt (off := 0) (l := 2) (fs := [.n P.x, .n P.y, .v (.bool P.i)]) (gs := [.n P.x]) hp (free_of rfl) gqi (mq 1 rfl) (.inl rfl) rfl row_api_Int rfl (sqi 6) (fun v w h => st_num h)
   ·exact q_addr (b := b2) (off := 0) (off' := 0) hp (free_of rfl) gqi (sqo 3) (fun ρ w h => by simp [execOp, go_sem, h]) (fun _ => rfl)
   ·exact q_loadSt (off := 0) (l := 2) (fs := [.n Q.x, .n Q.y, .v (.bool Q.i)]) (gs := [.n Q.x]) hp (free_of rfl) gqi (mq 0 rfl) (.inl rfl) rfl row_api_Int rfl (sqi 8) (fun v w h => st_num h)
   ·exact q_call2 (F := (Fq.num P.x).P) (G := (Fq.num Q.x).P) hp (free_of rfl) gqi (enq_R_Same) (sqi 7) (sqi 9) (fun v v' w h h' => exRSameB h h' HX.out)
   ·exact q_two (F := fun v _ => v = .bool true) (G := fun v _ => v = .bool false) hp (free_of rfl) trivial (sqi 5) (sqi 10) (fun ρ w hc h h' => ⟨_, by simp [execOp, go_sem, h, h'], rfl⟩)
   ·exact q_move hp (free_of rfl) trivial (sqi 11)
   ·exact q_skip hp (free_of rfl) rfl gqi (fun _ => rfl)
   ·exact q_skip hp (free_of rfl) rfl gqi (fun _ => rfl)
   ·exact q_skip hp (free_of rfl) rfl gqi (fun _ => rfl)
   ·exact q_skip hp (free_of rfl) rfl gqi (fun _ => rfl)
   ·exact q_skip hp (free_of rfl) rfl gqi (fun _ => rfl)
   ·exact q_two (F := fun v _ => v = .bool false) (G := fun v _ => v = .bool false) hp (free_of rfl) trivial (sqi 12) (sq_const (fun _ => rfl)) (fun ρ w hc h h' => ⟨_, by simp [execOp, go_sem, h, h'], rfl⟩)
   ·exact q_assign hp (free_of rfl) trivial (sqi 18)
   intro L vs w5 nb hL hC hn E5
   have e0 : vs 0 = .pointer (some ⟨b1, 4, none⟩) := hC 0 (by simp)
   have e1 : vs 1 = .bool P.i := hC 1 (by simp)
   have e2 : vs 2 = .pointer (some ⟨b2, 4, none⟩) := hC 2 (by simp)
   have e3 : vs 3 = .bool Q.i := hC 3 (by simp)
   have e4 : vs 4 = .bool true := hC 4 (by simp)
   have e5 : vs 5 = .bool true := hC 5 (by simp)
   have e6 : vs 6 = .pointer (some ⟨b1, 0, none⟩) := hC 6 (by simp)
   have e8 : vs 8 = .pointer (some ⟨b2, 0, none⟩) := hC 8 (by simp)
   have e10 : vs 10 = .bool false := hC 10 (by simp)
   have e11 : vs 11 = .bool false := hC 11 (by simp)
   have e12 : vs 12 = .bool false := hC 12 (by simp)
   have e13 : vs 13 = undef := hC 13 (by simp)
   have e14 : vs 14 = undef := hC 14 (by simp)
   have e15 : vs 15 = undef := hC 15 (by simp)
   have e16 : vs 16 = undef := hC 16 (by simp)
   have e17 : vs 17 = undef := hC 17 (by simp)
   have e18 : vs 18 = .bool false := hC 18 (by simp)
   have e19 : vs 19 = .bool false := hC 19 (by simp)
   have E : Fr w [(b2, 5, Fq.st [.n Q.x, .n Q.y, .v (.bool Q.i)]), (b1, 5, Fq.st [.n P.x, .n P.y, .v (.bool P.i)])] w5 := E5
   rw [lay_all hL]
   simp only [putAll, dstOf, List.length_cons, List.length_nil, Nat.zero_add, Nat.reduceAdd, List.getElem?_toArray, List.getElem?_cons_zero, List.getElem?_cons_succ, Option.bind_some, Act.put, List.setIfInBounds_toArray, List.set_cons_succ, List.set_cons_zero]
   rw [e0, e1, e2, e3, e4, e5, e6, e8, e10, e11, e12, e13, e14, e15, e16, e17, e18, e19]
   generalize vs 7 = u5_7
   generalize vs 9 = u5_9
   clear e0 e1 e2 e3 e4 e5 e6 e8 e10 e11 e12 e13 e14 e15 e16 e17 e18 e19 hC hn E5 hL vs L nb
   clear HX HI2
   go_wp2
   refine bodyPost_ret (v := .bool false) ?_ rfl ⟨_, rfl, E.below, rfl⟩
   simp [results, Try.results14, go_sem]
 ·have ht2 : t = false := ht.symm.trans (by unfold sameP; simp [hi])
  subst ht2
  clear ht
  have HI2 : Hid ((P.i == Q.i) = false) := by show _ = _; simp [hi]
  clear hi
  refine region_fr (C := [Fq.is (.pointer (some ⟨b1, 4, none⟩)), Fq.is (.bool P.i), Fq.is (.pointer (some ⟨b2, 4, none⟩)), Fq.is (.bool Q.i), Fq.is (.bool false), Fq.is (.bool false), Fq.is (undef), Fq.is (undef), Fq.is (undef), Fq.is (undef), Fq.is (undef), Fq.is (.bool false), Fq.is (.bool false), Fq.is (undef), Fq.is (undef), Fq.is (undef), Fq.is (undef), Fq.is (undef), Fq.is (.bool false), Fq.is (.bool false)]) (ks := [none, none]) (new := []) E rfl (by kernel_rfl) rfl rfl (fun hp => ⟨?_, ?_, ?_, ?_, ?_, ?_, ?_, ?_, ?_, ?_, ?_, ?_, ?_, ?_, ?_, ?_, ?_, ?_, ?_, ?_, trivial⟩) ?_
  ·exact q_addr (b := b1) (off := 0) (off' := 4) hp (free_of rfl) trivial (sqo 2) (fun ρ w h => by simp [execOp, go_sem, h]) (fun _ => rfl)
  ·exact q_load1 (off := 4) (fs := [.n P.x, .n P.y, .v (.bool P.i)]) (u := .bool P.i) hp (free_of rfl) trivial (mq 1 rfl) (.inl rfl) rfl rfl (fun ρ w b h1 h2 => by simp [execOp, go_sem, h1, h2]) (sqi 0) (fun _ => rfl)
  ·exact q_addr (b := b2) (off := 0) (off' := 4) hp (free_of rfl) trivial (sqo 3) (fun ρ w h => by simp [execOp, go_sem, h]) (fun _ => rfl)
  ·exact q_load1 (off := 4) (fs := [.n Q.x, .n Q.y, .v (.bool Q.i)]) (u := .bool Q.i) hp (free_of rfl) trivial (mq 0 rfl) (.inl rfl) rfl rfl (fun ρ w b h1 h2 => by simp [execOp, go_sem, h1, h2]) (sqi 2) (fun _ => rfl)
  ·exact q_two (F := fun v _ => v = .bool P.i) (G := fun v _ => v = .bool Q.i) hp (free_of rfl) trivial (sqi 1) (sqi 3) (fun ρ w hc h h' => ⟨.bool false, by simp [execOp, go_sem, h, h', HI2.out], rfl⟩)
  ·exact q_move hp (free_of rfl) trivial (sqi 4)
  ·exact q_skip hp (free_of rfl) rfl gqi (fun _ => rfl)
  ·exact q_skip hp (free_of rfl) rfl gqi (fun _ => rfl)
  ·exact q_skip hp (free_of rfl) rfl gqi (fun _ => rfl)
  ·exact q_skip hp (free_of rfl) rfl gqi (fun _ => rfl)
  ·exact q_skip hp (free_of rfl) rfl gqi (fun _ => rfl)
  ·exact q_two (F := fun v _ => v = .bool false) (G := fun v _ => v = .bool false) hp (free_of rfl) trivial (sqi 5) (sq_const (fun _ => rfl)) (fun ρ w hc h h' => ⟨_, by simp [execOp, go_sem, h, h'], rfl⟩)
  ·exact q_move hp (free_of rfl) trivial (sqi 11)
  ·exact q_skip hp (free_of rfl) rfl gqi (fun _ => rfl)
  ·exact q_skip hp (free_of rfl) rfl gqi (fun _ => rfl)
  ·exact q_skip hp (free_of rfl) rfl gqi (fun _ => rfl)
  ·exact q_skip hp (free_of rfl) rfl gqi (fun _ => rfl)
  ·exact q_skip hp (free_of rfl) rfl gqi (fun _ => rfl)
  ·exact q_two (F := fun v _ => v = .bool false) (G := fun v _ => v = .bool false) hp (free_of rfl) trivial (sqi 12) (sq_const (fun _ => rfl)) (fun ρ w hc h h' => ⟨_, by simp [execOp, go_sem, h, h'], rfl⟩)
  ·exact q_assign hp (free_of rfl) trivial (sqi 18)
  intro L vs w6 nb hL hC hn E6
  have e0 : vs 0 = .pointer (some ⟨b1, 4, none⟩) := hC 0 (by simp)
  have e1 : vs 1 = .bool P.i := hC 1 (by simp)
  have e2 : vs 2 = .pointer (some ⟨b2, 4, none⟩) := hC 2 (by simp)
  have e3 : vs 3 = .bool Q.i := hC 3 (by simp)
  have e4 : vs 4 = .bool false := hC 4 (by simp)
  have e5 : vs 5 = .bool false := hC 5 (by simp)
  have e6 : vs 6 = undef := hC 6 (by simp)
  have e7 : vs 7 = undef := hC 7 (by simp)
  have e8 : vs 8 = undef := hC 8 (by simp)
  have e9 : vs 9 = undef := hC 9 (by simp)
  have e10 : vs 10 = undef := hC 10 (by simp)
  have e11 : vs 11 = .bool false := hC 11 (by simp)
  have e12 : vs 12 = .bool false := hC 12 (by simp)
  have e13 : vs 13 = undef := hC 13 (by simp)
  have e14 : vs 14 = undef := hC 14 (by simp)
  have e15 : vs 15 = undef := hC 15 (by simp)
  have e16 : vs 16 = undef := hC 16 (by simp)
  have e17 : vs 17 = undef := hC 17 (by simp)
  have e18 : vs 18 = .bool false := hC 18 (by simp)
  have e19 : vs 19 = .bool false := hC 19 (by simp)
  have E : Fr w [(b2, 5, Fq.st [.n Q.x, .n Q.y, .v (.bool Q.i)]), (b1, 5, Fq.st [.n P.x, .n P.y, .v (.bool P.i)])] w6 := E6
  rw [lay_all hL]
  simp only [putAll, dstOf, List.length_cons, List.length_nil, Nat.zero_add, Nat.reduceAdd, List.getElem?_toArray, List.getElem?_cons_zero, List.getElem?_cons_succ, Option.bind_some, Act.put, List.setIfInBounds_toArray, List.set_cons_succ, List.set_cons_zero]
  rw [e0, e1, e2, e3, e4, e5, e6, e7, e8, e9, e10, e11, e12, e13, e14, e15, e16, e17, e18, e19]
  clear e0 e1 e2 e3 e4 e5 e6 e7 e8 e9 e10 e11 e12 e13 e14 e15 e16 e17 e18 e19 hC hn E6 hL vs L nb
  clear HI2
  go_wp2
  refine bodyPost_ret (v := .bool false) ?_ rfl ⟨_, rfl, E.below, rfl⟩
  simp [results, Try.results14, go_sem]

end Go.Proofs.Ytpkeeacdkkmknaa

namespace Go.Proofs.Ytpkeeacdkkmknaa
open Go Go.RowKit

theorem tmod_same (s m : Int) : Int.tmod s m % m = s % m := by
 have h := Int.mul_tdiv_add_tmod s m
 calc Int.tmod s m % m = (m * Int.tdiv s m + Int.tmod s m) % m := by rw [Int.mul_add_emod_self_left]
  _ = s % m := by rw [h]
theorem tmod_bd {s m : Int} (hm : 0 < m) : -m < Int.tmod s m ∧ Int.tmod s m < m := by
 have h := Int.natAbs_tmod s m
 have h2 := Nat.mod_lt s.natAbs (show 0 < m.natAbs by omega)
 omega
theorem curve_b {m a x y t2 : Int} (ht2 : t2 = Int.tmod (y * y - x * x % m * x - a * x) m + m) (hm : 0 < m) : Int.tmod t2 m = (y * y - ((x * x) + a) * x) % m ∧ 0 < t2 ∧ t2 < 2 * m := by
 have h1 := tmod_bd (s := y * y - x * x % m * x - a * x) hm
 refine ⟨?_, by omega, by omega⟩
 rw [Int.tmod_eq_emod_of_nonneg (by omega), ht2, Int.add_emod_right, tmod_same]
 have h2 := Int.mul_ediv_add_emod (x * x) m
 have e : y * y - x * x % m * x - a * x = (y * y - ((x * x) + a) * x) + m * (x * x / m * x) := by
  have e1 : x * x * x = m * (x * x / m * x) + x * x % m * x := by
   rw [← Int.mul_assoc m, ← Int.add_mul, h2]
  rw [Int.add_mul]
  omega
 rw [e, Int.add_mul_emod_self_left]
theorem prod_bd {a b K : Int} (ha : 0 ≤ a ∧ a ≤ K) (hb : 0 ≤ b ∧ b ≤ K) (hK : 0 ≤ K) : 0 ≤ a * b ∧ a * b ≤ K * K := ⟨Int.mul_nonneg ha.1 hb.1, Int.mul_le_mul ha.2 hb.2 hb.1 hK⟩
section
variable {os : List Oper} {Q : Exit → Act → World → Prop} {a : Act} {p : Pq} {B B0 : Nat} {w0 : World}
variable {i s : Nat} {d : Option Tmp} {ty : TypeId} {ps : String} {af : Array Edge} {gd : Option (Nat × Bool)}
theorem q_build_api_Mod_012 {x0 : Operand} {z0 : Int} {x1 : Operand} {z1 : Int} {x2 : Operand} {z2 : Int} (hp : p.Ok B B0) (hF : p.Free i) (hg : GdQ os a p B B0 w0 af gd) (h0 : SrcQ os a p B B0 w0 af x0 fun v w => Num w v z0) (h1 : SrcQ os a p B B0 w0 af x1 fun v w => Num w v z1) (h2 : SrcQ os a p B B0 w0 af x2 fun v w => Num w v z2) (hC : ∀ v w, (Fq.st [.n z0, .n z1, .n z2]).P v w → (p.c i).P v w) :
  StepQ os Q a p B B0 w0 i { dst := d, op := .build 31 #[(0, x0), (1, x1), (2, x2)], type := ty, pos := ps, after := af, guard := gd } := by
 refine stq_val hp hF hg fun L vs w hG hL hc hd => ?_
 have g0 := h0 L vs w hG hd
 obtain ⟨n0, ao0, k0, c0, e0⟩ := g0.parts
 have m0 : Num w (.agg #[.bool n0, .slice ao0 k0 c0]) z0 := by rw [← e0]; exact g0
 have g1 := h1 L vs w hG hd
 obtain ⟨n1, ao1, k1, c1, e1⟩ := g1.parts
 have m1 : Num w (.agg #[.bool n1, .slice ao1 k1 c1]) z1 := by rw [← e1]; exact g1
 have g2 := h2 L vs w hG hd
 obtain ⟨n2, ao2, k2, c2, e2⟩ := g2.parts
 have m2 : Num w (.agg #[.bool n2, .slice ao2 k2 c2]) z2 := by rw [← e2]; exact g2
 refine ⟨.agg #[.bool n0, .slice ao0 k0 c0, .bool n1, .slice ao1 k1 c1, .bool n2, .slice ao2 k2 c2], ?_, hC _ _ ⟨_, rfl, _, _, _, rfl, m0, _, _, _, rfl, m1, _, _, _, rfl, m2, rfl⟩⟩
 generalize (lay os.toArray L vs os.toArray.size a).eval = ρ at e0 e1 e2
 simp [execOp, go_sem, e0, e1, e2]
end
set_option maxRecDepth 100000 in
set_option maxHeartbeats 4000000 in
theorem exCurve {w : World} {m a x y b : Int} (hm : 2 < m ∧ m ≤ 5000) (ha : 0 ≤ a ∧ a ≤ 5000) (hx : 0 ≤ x ∧ x ≤ 5000) (hy : 0 ≤ y ∧ y ≤ 5000) (hb : (y * y - ((x * x) + a) * x) % m = b) :
  Calls Try.prog 9 #[.int .i64 m, .int .i64 a, .int .i64 x, .int .i64 y] w fun e w' => ∃ v', e = .returned v' ∧ Below w.heap.size w w' ∧ (Fq.st [.n a, .n b, .n m]).P v' w' := by
 have hyy := prod_bd (K := 5000) hy hy (by omega)
 have hxx := prod_bd (K := 5000) hx hx (by omega)
 have hax := prod_bd (K := 5000) ha hx (by omega)
 obtain ⟨r, hr⟩ : ∃ r, r = x * x % m := ⟨_, rfl⟩
 have hr0 : 0 ≤ r ∧ r ≤ 5000 := by rw [hr]; have h1 := Int.emod_nonneg (x * x) (show m ≠ 0 by omega); have h2 := Int.emod_lt_of_pos (x * x) (show 0 < m by omega); omega
 have hrx := prod_bd (K := 5000) hr0 hx (by omega)
 obtain ⟨yy, hyyE⟩ : ∃ yy, yy = y * y := ⟨_, rfl⟩
 obtain ⟨xx, hxxE⟩ : ∃ xx, xx = x * x := ⟨_, rfl⟩
 obtain ⟨ax, haxE⟩ : ∃ ax, ax = a * x := ⟨_, rfl⟩
 obtain ⟨rx, hrxE⟩ : ∃ rx, rx = r * x := ⟨_, rfl⟩
 obtain ⟨t1, ht1⟩ : ∃ t1, t1 = Int.tmod (yy - rx - ax) m := ⟨_, rfl⟩
 obtain ⟨t2, ht2⟩ : ∃ t2, t2 = t1 + m := ⟨_, rfl⟩
 have hcb := curve_b (m := m) (a := a) (x := x) (y := y) (t2 := t2) (by rw [ht2, ht1, hyyE, hrxE, haxE, hr]) (by omega)
 rw [hb] at hcb
 rw [← hyyE] at hyy
 rw [← hxxE] at hxx
 rw [← haxE] at hax
 rw [← hrxE] at hrx
 have ht1b := tmod_bd (s := yy - rx - ax) (m := m) (by omega)
 rw [← ht1] at ht1b
 have hb0 : 0 ≤ b ∧ b < m := by rw [← hb]; exact ⟨Int.emod_nonneg _ (by omega), Int.emod_lt_of_pos _ (by omega)⟩
 have W1 : Hid (IntKind.i64.wrap (y * y) = yy) := by show _ = _; rw [← hyyE]; exact IntWalk.i64_in _ (by omega)
 have W2 : Hid (IntKind.i64.wrap (x * x) = xx) := by show _ = _; rw [← hxxE]; exact IntWalk.i64_in _ (by omega)
 have W3 : Hid (Int.tmod xx m = r) := by show _ = _; rw [Int.tmod_eq_emod_of_nonneg (by omega), hr, hxxE]
 have W3b : Hid (IntKind.i64.wrap r = r) := IntWalk.i64_in _ (by omega)
 have W4 : Hid (IntKind.i64.wrap (r * x) = rx) := by show _ = _; rw [← hrxE]; exact IntWalk.i64_in _ (by omega)
 have W5 : Hid (IntKind.i64.wrap (yy - rx) = yy - rx) := IntWalk.i64_in _ (by omega)
 have W6 : Hid (IntKind.i64.wrap (a * x) = ax) := by show _ = _; rw [← haxE]; exact IntWalk.i64_in _ (by omega)
 have W7 : Hid (IntKind.i64.wrap (yy - rx - ax) = yy - rx - ax) := IntWalk.i64_in _ (by omega)
 have W8 : Hid (Int.tmod (yy - rx - ax) m = t1) := ht1.symm
 have W8b : Hid (IntKind.i64.wrap t1 = t1) := IntWalk.i64_in _ (by omega)
 have W9 : Hid (IntKind.i64.wrap (t1 + m) = t2) := by show _ = _; rw [← ht2]; exact IntWalk.i64_in _ (by omega)
 have WA : Hid (Int.tmod t2 m = b) := hcb.1
 have WAb : Hid (IntKind.i64.wrap b = b) := IntWalk.i64_in _ (by omega)
 have W0 : Hid (¬ m = 0) := by show ¬ _; omega
 have RA : Hid (-9223372036854775808 ≤ a ∧ a ≤ 9223372036854775807) := by show _ ∧ _; omega
 have RB : Hid (-9223372036854775808 ≤ b ∧ b ≤ 9223372036854775807) := by show _ ∧ _; omega
 have RM9 : Hid (-9223372036854775808 ≤ m ∧ m ≤ 9223372036854775807) := by show _ ∧ _; omega
 have Ba : Hid (ab a < pw 3) := ab_i64 RA.out.1 RA.out.2
 have Bb : Hid (ab b < pw 3) := ab_i64 RB.out.1 RB.out.2
 have Bm : Hid (ab m < pw 3) := ab_i64 RM9.out.1 RM9.out.2
 clear hyy hxx hax hr hr0 hrx hyyE hxxE haxE hrxE ht1 ht2 hcb ht1b hb0 hb hm ha hx hy
 obtain ⟨w1, b1, hw1, hb1, hs1, E⟩ := fr_start w (F := Fq.st [.n 0, .n 0, .n 0]) (us := [.bool false, .slice none 0 0, .bool false, .slice none 0 0, .bool false, .slice none 0 0]) 31 rfl (by simp) ((Fits.tame (fits0_api_Mod w))) (fits0P_api_Mod _)
 go_enter Try.func9, Try.ntmps9
 go_upto_region 1 with (fail)
 rw [← hw1]
 rw [← hb1]
 clear hw1 hb1 hs1
 refine region_fr (C := [Fq.is (.int .i64 y), Fq.is (.int .i64 y), Fq.is (.int .i64 yy), Fq.is (.int .i64 x), Fq.is (.int .i64 x), Fq.is (.int .i64 xx), Fq.is (.int .i64 m), Fq.is (.int .i64 r), Fq.is (.int .i64 x), Fq.is (.int .i64 rx), Fq.is (.int .i64 (yy - rx)), Fq.is (.int .i64 a), Fq.is (.int .i64 x), Fq.is (.int .i64 ax), Fq.is (.int .i64 (yy - rx - ax)), Fq.is (.int .i64 m), Fq.is (.int .i64 t1), Fq.is (.int .i64 m), Fq.is (.int .i64 t2), Fq.is (.int .i64 m), Fq.is (.int .i64 b), Fq.is (.int .i64 b)]) (ks := [none]) (new := []) E rfl (by kernel_rfl) rfl rfl (fun hp => ⟨?_, ?_, ?_, ?_, ?_, ?_, ?_, ?_, ?_, ?_, ?_, ?_, ?_, ?_, ?_, ?_, ?_, ?_, ?_, ?_, ?_, ?_, trivial⟩) ?_
 ·exact q_move hp (free_of rfl) trivial (sqo 3)
 ·exact q_move hp (free_of rfl) trivial (sqo 3)
 ·exact q_two (F := fun v _ => v = .int .i64 y) (G := fun v _ => v = .int .i64 y) hp (free_of rfl) trivial (sqi 0) (sqi 1) (fun ρ w hc h h' => ⟨.int .i64 yy, by simp [execOp, go_sem, h, h', W1.out], rfl⟩)
 ·exact q_move hp (free_of rfl) trivial (sqo 2)
 ·exact q_move hp (free_of rfl) trivial (sqo 2)
 ·exact q_two (F := fun v _ => v = .int .i64 x) (G := fun v _ => v = .int .i64 x) hp (free_of rfl) trivial (sqi 3) (sqi 4) (fun ρ w hc h h' => ⟨.int .i64 xx, by simp [execOp, go_sem, h, h', W2.out], rfl⟩)
 ·exact q_move hp (free_of rfl) trivial (sqo 0)
 ·exact q_two (F := fun v _ => v = .int .i64 xx) (G := fun v _ => v = .int .i64 m) hp (free_of rfl) trivial (sqi 5) (sqi 6) (fun ρ w hc h h' => ⟨.int .i64 r, by simp [execOp, go_sem, h, h', W0.out, W3.out, W3b.out], rfl⟩)
 ·exact q_move hp (free_of rfl) trivial (sqo 2)
 ·exact q_two (F := fun v _ => v = .int .i64 r) (G := fun v _ => v = .int .i64 x) hp (free_of rfl) trivial (sqi 7) (sqi 8) (fun ρ w hc h h' => ⟨.int .i64 rx, by simp [execOp, go_sem, h, h', W4.out], rfl⟩)
 ·exact q_two (F := fun v _ => v = .int .i64 yy) (G := fun v _ => v = .int .i64 rx) hp (free_of rfl) trivial (sqi 2) (sqi 9) (fun ρ w hc h h' => ⟨.int .i64 (yy - rx), by simp [execOp, go_sem, h, h', W5.out], rfl⟩)
 ·exact q_move hp (free_of rfl) trivial (sqo 1)
 ·exact q_move hp (free_of rfl) trivial (sqo 2)
 ·exact q_two (F := fun v _ => v = .int .i64 a) (G := fun v _ => v = .int .i64 x) hp (free_of rfl) trivial (sqi 11) (sqi 12) (fun ρ w hc h h' => ⟨.int .i64 ax, by simp [execOp, go_sem, h, h', W6.out], rfl⟩)
 ·exact q_two (F := fun v _ => v = .int .i64 (yy - rx)) (G := fun v _ => v = .int .i64 ax) hp (free_of rfl) trivial (sqi 10) (sqi 13) (fun ρ w hc h h' => ⟨.int .i64 (yy - rx - ax), by simp [execOp, go_sem, h, h', W7.out], rfl⟩)
 ·exact q_move hp (free_of rfl) trivial (sqo 0)
 ·exact q_two (F := fun v _ => v = .int .i64 (yy - rx - ax)) (G := fun v _ => v = .int .i64 m) hp (free_of rfl) trivial (sqi 14) (sqi 15) (fun ρ w hc h h' => ⟨.int .i64 t1, by simp [execOp, go_sem, h, h', W0.out, W8.out, W8b.out], rfl⟩)
 ·exact q_move hp (free_of rfl) trivial (sqo 0)
 ·exact q_two (F := fun v _ => v = .int .i64 t1) (G := fun v _ => v = .int .i64 m) hp (free_of rfl) trivial (sqi 16) (sqi 17) (fun ρ w hc h h' => ⟨.int .i64 t2, by simp [execOp, go_sem, h, h', W9.out], rfl⟩)
 ·exact q_move hp (free_of rfl) trivial (sqo 0)
 ·exact q_two (F := fun v _ => v = .int .i64 t2) (G := fun v _ => v = .int .i64 m) hp (free_of rfl) trivial (sqi 18) (sqi 19) (fun ρ w hc h h' => ⟨.int .i64 b, by simp [execOp, go_sem, h, h', W0.out, WA.out, WAb.out], rfl⟩)
 ·exact q_assign hp (free_of rfl) trivial (sqi 20)
 intro L vs w2 nb hL hC hn E2
 have e0 : vs 0 = .int .i64 y := hC 0 (by simp)
 have e1 : vs 1 = .int .i64 y := hC 1 (by simp)
 have e2 : vs 2 = .int .i64 yy := hC 2 (by simp)
 have e3 : vs 3 = .int .i64 x := hC 3 (by simp)
 have e4 : vs 4 = .int .i64 x := hC 4 (by simp)
 have e5 : vs 5 = .int .i64 xx := hC 5 (by simp)
 have e6 : vs 6 = .int .i64 m := hC 6 (by simp)
 have e7 : vs 7 = .int .i64 r := hC 7 (by simp)
 have e8 : vs 8 = .int .i64 x := hC 8 (by simp)
 have e9 : vs 9 = .int .i64 rx := hC 9 (by simp)
 have e10 : vs 10 = .int .i64 (yy - rx) := hC 10 (by simp)
 have e11 : vs 11 = .int .i64 a := hC 11 (by simp)
 have e12 : vs 12 = .int .i64 x := hC 12 (by simp)
 have e13 : vs 13 = .int .i64 ax := hC 13 (by simp)
 have e14 : vs 14 = .int .i64 (yy - rx - ax) := hC 14 (by simp)
 have e15 : vs 15 = .int .i64 m := hC 15 (by simp)
 have e16 : vs 16 = .int .i64 t1 := hC 16 (by simp)
 have e17 : vs 17 = .int .i64 m := hC 17 (by simp)
 have e18 : vs 18 = .int .i64 t2 := hC 18 (by simp)
 have e19 : vs 19 = .int .i64 m := hC 19 (by simp)
 have e20 : vs 20 = .int .i64 b := hC 20 (by simp)
 have e21 : vs 21 = .int .i64 b := hC 21 (by simp)
 have E : Fr w [(b1, 6, Fq.st [.n 0, .n 0, .n 0])] w2 := E2
 rw [lay_all hL]
 simp only [putAll, dstOf, List.length_cons, List.length_nil, Nat.zero_add, Nat.reduceAdd, List.getElem?_toArray, List.getElem?_cons_zero, List.getElem?_cons_succ, Option.bind_some, Act.put, List.setIfInBounds_toArray, List.set_cons_succ, List.set_cons_zero]
 rw [e0, e1, e2, e3, e4, e5, e6, e7, e8, e9, e10, e11, e12, e13, e14, e15, e16, e17, e18, e19, e20, e21]
 clear e0 e1 e2 e3 e4 e5 e6 e7 e8 e9 e10 e11 e12 e13 e14 e15 e16 e17 e18 e19 e20 e21 hC hn E2 hL vs L nb
 clear W0 W1 W2 W3 W3b W4 W5 W6 W7 W8 W8b W9 WA WAb
 go_upto_region 2 with (fail)
 refine region_fr (C := [Fq.is (.int .i64 a), Fq.num a, Fq.is (.int .i64 b), Fq.num b, Fq.is (.int .i64 m), Fq.num m, Fq.st [.n a, .n b, .n m], Fq.any]) (ks := [some (7, Fq.st [.n a, .n b, .n m])]) (new := []) E rfl (by kernel_rfl) rfl rfl (fun hp => ⟨?_, ?_, ?_, ?_, ?_, ?_, ?_, ?_, trivial⟩) ?_
 ·exact q_move hp (free_of rfl) trivial (sqo 1)
 ·exact q_call1 (F := (Fq.is (.int .i64 a)).P) hp (free_of rfl) trivial (enq_R_Of) (sqi 0) (fun v w h => (by subst h; exact rOfK w a RA.out.1 RA.out.2))
 ·exact q_move hp (free_of rfl) trivial (sqo 9)
 ·exact q_call1 (F := (Fq.is (.int .i64 b)).P) hp (free_of rfl) trivial (enq_R_Of) (sqi 2) (fun v w h => (by subst h; exact rOfK w b RB.out.1 RB.out.2))
 ·exact q_move hp (free_of rfl) trivial (sqo 0)
 ·exact q_call1 (F := (Fq.is (.int .i64 m)).P) hp (free_of rfl) trivial (enq_R_Of) (sqi 4) (fun v w h => (by subst h; exact rOfK w m RM9.out.1 RM9.out.2))
 ·exact q_build_api_Mod_012 (z0 := a) (z1 := b) (z2 := m) hp (free_of rfl) trivial (sqi 1) (sqi 3) (sqi 5) (fun v w h => h)
 ·exact q_storeOldSt (off := 0) (fs := [.n 0, .n 0, .n 0]) (gs := [.n a, .n b, .n m]) (fs' := [.n a, .n b, .n m]) hp (mq 0 rfl) rfl rfl rfl size_api_Mod rfl (sqo 8) (sq_in 6 rfl rfl (by simp) rfl (fun v w h => fitv_st h)) (fun _ _ => trivial) (newik_ne rfl)
 intro L vs w3 nb hL hC hn E3
 have e0 : vs 0 = .int .i64 a := hC 0 (by simp)
 have e2 : vs 2 = .int .i64 b := hC 2 (by simp)
 have e4 : vs 4 = .int .i64 m := hC 4 (by simp)
 have E : Fr w [(b1, 6, Fq.st [.n a, .n b, .n m])] w3 := E3
 rw [lay_all hL]
 simp only [putAll, dstOf, List.length_cons, List.length_nil, Nat.zero_add, Nat.reduceAdd, List.getElem?_toArray, List.getElem?_cons_zero, List.getElem?_cons_succ, Option.bind_some, Act.put, List.setIfInBounds_toArray, List.set_cons_succ, List.set_cons_zero]
 rw [e0, e2, e4]
 generalize vs 1 = u3_1
 generalize vs 3 = u3_3
 generalize vs 5 = u3_5
 generalize vs 6 = u3_6
 clear e0 e2 e4 hC hn E3 hL vs L nb
 clear RA RB RM9
 obtain ⟨_, _, hc0, hf0⟩ := box_st (E.box 0 rfl)
 have hP0 := hf0
 obtain ⟨r0_p0, r0_q0, _, rfl, _r0_n0, r0_p1, r0_q1, _, rfl, _r0_n1, r0_p2, r0_q2, _, rfl, _r0_n2, rfl⟩ := hf0
 have c0_0 := hc0 0 (by simp)
 have c0_1 := hc0 1 (by simp)
 have c0_2 := hc0 2 (by simp)
 have c0_3 := hc0 3 (by simp)
 have c0_4 := hc0 4 (by simp)
 have c0_5 := hc0 5 (by simp)
 simp only [List.getD_cons_zero, List.getD_cons_succ] at c0_0 c0_1 c0_2 c0_3 c0_4 c0_5
 clear hc0
 clear Ba Bb Bm
 go_wp2
 refine bodyPost_ret (v := .agg #[r0_p0, r0_q0, r0_p1, r0_q1, r0_p2, r0_q2]) ?_ rfl ⟨_, rfl, E.below, ⟨_, rfl, hP0⟩⟩
 simp [results, Try.results9, go_sem, c0_0, c0_1, c0_2, c0_3, c0_4, c0_5]

end Go.Proofs.Ytpkeeacdkkmknaa

namespace Go.Proofs.Ytpkeeacdkkmknaa
open Go Go.RowKit

inductive PE where
 | c (k : Int)
 | v (i : Nat)
 | a (x y : PE)
 | m (x y : PE)
 | n (x : PE)
def PE.den (ρ : List Int) : PE → Int
 | .c k => k
 | .v i => ρ.getD i 0
 | .a x y => x.den ρ + y.den ρ
 | .m x y => x.den ρ * y.den ρ
 | .n x => - x.den ρ
def insV (i : Nat) : List Nat → List Nat
 | [] => [i]
 | j :: r => if i ≤ j then i :: j :: r else j :: insV i r
def monD (ρ : List Int) : List Nat → Int
 | [] => 1
 | i :: r => ρ.getD i 0 * monD ρ r
def polD (ρ : List Int) : List (Int × List Nat) → Int
 | [] => 0
 | t :: r => t.1 * monD ρ t.2 + polD ρ r
theorem insV_den (ρ : List Int) (i : Nat) : ∀ l, monD ρ (insV i l) = ρ.getD i 0 * monD ρ l
 | [] => rfl
 | j :: r => by
  unfold insV
  split
  ·rfl
  ·show _ * monD ρ (insV i r) = _ * (_ * monD ρ r)
   rw [insV_den ρ i r, Int.mul_left_comm]
def mulM : List Nat → List Nat → List Nat
 | [], l => l
 | i :: r, l => insV i (mulM r l)
theorem mulM_den (ρ : List Int) : ∀ a b, monD ρ (mulM a b) = monD ρ a * monD ρ b
 | [], b => by show monD ρ b = 1 * _; rw [Int.one_mul]
 | i :: r, b => by
  show monD ρ (insV i (mulM r b)) = _ * monD ρ r * _
  rw [insV_den, mulM_den ρ r b, Int.mul_assoc]
def addT (k : Int) (mo : List Nat) : List (Int × List Nat) → List (Int × List Nat)
 | [] => [(k, mo)]
 | t :: p => if t.2 = mo then (k + t.1, mo) :: p else t :: addT k mo p
theorem addT_den (ρ : List Int) (k : Int) (mo : List Nat) : ∀ p, polD ρ (addT k mo p) = k * monD ρ mo + polD ρ p
 | [] => rfl
 | t :: p => by
  unfold addT
  split
  ·rename_i h
   show (k + t.1) * monD ρ mo + polD ρ p = _ + (t.1 * monD ρ t.2 + polD ρ p)
   rw [Int.add_mul, h]
   omega
  ·show t.1 * monD ρ t.2 + polD ρ (addT k mo p) = _ + (t.1 * monD ρ t.2 + polD ρ p)
   rw [addT_den ρ k mo p]
   omega
def addQ : List (Int × List Nat) → List (Int × List Nat) → List (Int × List Nat)
 | [], q => q
 | t :: p, q => addT t.1 t.2 (addQ p q)
theorem addQ_den (ρ : List Int) : ∀ p q, polD ρ (addQ p q) = polD ρ p + polD ρ q
 | [], q => by show polD ρ q = 0 + _; omega
 | t :: p, q => by
  show polD ρ (addT t.1 t.2 (addQ p q)) = t.1 * monD ρ t.2 + polD ρ p + polD ρ q
  rw [addT_den, addQ_den ρ p q]
  omega
def mulT (k : Int) (mo : List Nat) : List (Int × List Nat) → List (Int × List Nat)
 | [] => []
 | t :: p => (k * t.1, mulM mo t.2) :: mulT k mo p
theorem mulT_den (ρ : List Int) (k : Int) (mo : List Nat) : ∀ p, polD ρ (mulT k mo p) = k * monD ρ mo * polD ρ p
 | [] => by show (0 : Int) = _ * 0; omega
 | t :: p => by
  show k * t.1 * monD ρ (mulM mo t.2) + polD ρ (mulT k mo p) = k * monD ρ mo * (t.1 * monD ρ t.2 + polD ρ p)
  rw [mulM_den, mulT_den ρ k mo p, Int.mul_add]
  congr 1
  simp only [Int.mul_assoc, Int.mul_left_comm]
def mulQ : List (Int × List Nat) → List (Int × List Nat) → List (Int × List Nat)
 | [], _ => []
 | t :: p, q => addQ (mulT t.1 t.2 q) (mulQ p q)
theorem mulQ_den (ρ : List Int) : ∀ p q, polD ρ (mulQ p q) = polD ρ p * polD ρ q
 | [], q => by show (0 : Int) = 0 * _; omega
 | t :: p, q => by
  show polD ρ (addQ (mulT t.1 t.2 q) (mulQ p q)) = (t.1 * monD ρ t.2 + polD ρ p) * polD ρ q
  rw [addQ_den, mulT_den, mulQ_den ρ p q, Int.add_mul]
def PE.norm : PE → List (Int × List Nat)
 | .c k => [(k, [])]
 | .v i => [(1, [i])]
 | .a x y => addQ x.norm y.norm
 | .m x y => mulQ x.norm y.norm
 | .n x => mulT (-1) [] x.norm
theorem PE.norm_den (ρ : List Int) : ∀ e : PE, polD ρ e.norm = e.den ρ
 | .c k => by show k * 1 + 0 = k; omega
 | .v i => by show 1 * (ρ.getD i 0 * 1) + 0 = ρ.getD i 0; omega
 | .a x y => by show polD ρ (addQ _ _) = _ + _; rw [addQ_den, PE.norm_den ρ x, PE.norm_den ρ y]
 | .m x y => by show polD ρ (mulQ _ _) = _ * _; rw [mulQ_den, PE.norm_den ρ x, PE.norm_den ρ y]
 | .n x => by show polD ρ (mulT _ _ _) = - _; rw [mulT_den, PE.norm_den ρ x]; show -1 * 1 * _ = _; omega
theorem polD_zero (ρ : List Int) : ∀ p : List (Int × List Nat), p.all (fun t => t.1 == 0) = true → polD ρ p = 0
 | [], _ => rfl
 | t :: p, h => by
  simp only [List.all_cons, Bool.and_eq_true, beq_iff_eq] at h
  show t.1 * _ + polD ρ p = 0
  rw [h.1, polD_zero ρ p h.2]
  omega
theorem PE.same (ρ : List Int) (x y : PE) (h : ((PE.a x (.n y)).norm.all fun t => t.1 == 0) = true) : x.den ρ = y.den ρ := by
 have h1 := polD_zero ρ _ h
 rw [PE.norm_den] at h1
 have h2 : x.den ρ + - y.den ρ = 0 := h1
 omega

theorem cg_mul {M a b c d : Int} (h : M ∣ a - b) (h' : M ∣ c - d) : M ∣ a * c - b * d := by
 have e : a * c - b * d = (a - b) * c + b * (c - d) := by rw [Int.sub_mul, Int.mul_sub]; omega
 rw [e]
 exact Int.dvd_add (Int.dvd_mul_of_dvd_left h) (Int.dvd_mul_of_dvd_right h')
theorem cg_add {M a b c d : Int} (h : M ∣ a - b) (h' : M ∣ c - d) : M ∣ (a + c) - (b + d) := by
 have e : (a + c) - (b + d) = (a - b) + (c - d) := by omega
 rw [e]
 exact Int.dvd_add h h'
theorem cg_sub {M a b c d : Int} (h : M ∣ a - b) (h' : M ∣ c - d) : M ∣ (a - c) - (b - d) := by
 have e : (a - c) - (b - d) = (a - b) - (c - d) := by omega
 rw [e]
 exact Int.dvd_sub h h'
theorem cg_refl (M a : Int) : M ∣ a - a := by rw [Int.sub_self]; exact Int.dvd_zero M
theorem cg_symm {M a b : Int} (h : M ∣ a - b) : M ∣ b - a := by
 have e : b - a = -(a - b) := by omega
 rw [e]
 exact Int.dvd_neg.2 h
theorem cg_trans {M a b c : Int} (h : M ∣ a - b) (h' : M ∣ b - c) : M ∣ a - c := by
 have e : a - c = (a - b) + (b - c) := by omega
 rw [e]
 exact Int.dvd_add h h'
theorem cg_mod (M a : Int) : M ∣ a % M - a := by
 have h := Int.mul_ediv_add_emod a M
 exact ⟨-(a / M), by rw [Int.mul_neg]; omega⟩
theorem cg_iff {M a b : Int} : M ∣ a - b ↔ a % M = b % M := by
 constructor
 ·intro h; exact Int.emod_eq_emod_iff_emod_sub_eq_zero.2 (Int.emod_eq_zero_of_dvd h)
 ·intro h
  have h1 := cg_mod M a
  have h2 := cg_mod M b
  rw [h] at h1
  exact cg_trans (cg_symm h1) h2
-- PART2
theorem chord_id (A B x1 y1 x2 y2 s : Int) : (x2-x1)*((s*(x1-(s*s-(x1+x2)))-y1)*(s*(x1-(s*s-(x1+x2)))-y1)-(((s*s-(x1+x2))*(s*s-(x1+x2))+A)*(s*s-(x1+x2))+B)) = (x2-x1)*(y1*y1-((x1*x1+A)*x1+B))+((s*s-(x1+x2))-x1)*((y2*y2-((x2*x2+A)*x2+B))+(s*(x2-x1)-(y2-y1))*(2*y2+(s*(x2-x1)-(y2-y1)))-(y1*y1-((x1*x1+A)*x1+B))) := by
 have h := PE.same [A, B, x1, y1, x2, y2, s] (.m (.a (.v 4) (.n (.v 2))) (.a (.m (.a (.m (.v 6) (.a (.v 2) (.n (.a (.m (.v 6) (.v 6)) (.n (.a (.v 2) (.v 4))))))) (.n (.v 3))) (.a (.m (.v 6) (.a (.v 2) (.n (.a (.m (.v 6) (.v 6)) (.n (.a (.v 2) (.v 4))))))) (.n (.v 3)))) (.n (.a (.m (.a (.m (.a (.m (.v 6) (.v 6)) (.n (.a (.v 2) (.v 4)))) (.a (.m (.v 6) (.v 6)) (.n (.a (.v 2) (.v 4))))) (.v 0)) (.a (.m (.v 6) (.v 6)) (.n (.a (.v 2) (.v 4))))) (.v 1))))) (.a (.m (.a (.v 4) (.n (.v 2))) (.a (.m (.v 3) (.v 3)) (.n (.a (.m (.a (.m (.v 2) (.v 2)) (.v 0)) (.v 2)) (.v 1))))) (.m (.a (.a (.m (.v 6) (.v 6)) (.n (.a (.v 2) (.v 4)))) (.n (.v 2))) (.a (.a (.a (.m (.v 5) (.v 5)) (.n (.a (.m (.a (.m (.v 4) (.v 4)) (.v 0)) (.v 4)) (.v 1)))) (.m (.a (.m (.v 6) (.a (.v 4) (.n (.v 2)))) (.n (.a (.v 5) (.n (.v 3))))) (.a (.m (.c 2) (.v 5)) (.a (.m (.v 6) (.a (.v 4) (.n (.v 2)))) (.n (.a (.v 5) (.n (.v 3)))))))) (.n (.a (.m (.v 3) (.v 3)) (.n (.a (.m (.a (.m (.v 2) (.v 2)) (.v 0)) (.v 2)) (.v 1)))))))) (by decide +kernel)
 simp only [PE.den, List.getD_cons_zero, List.getD_cons_succ] at h
 simp only [Int.sub_eq_add_neg]
 exact h
theorem tang_id (A B x1 y1 s : Int) : ((s*(x1-(s*s-(x1+x1)))-y1)*(s*(x1-(s*s-(x1+x1)))-y1)-(((s*s-(x1+x1))*(s*s-(x1+x1))+A)*(s*s-(x1+x1))+B)) = (y1*y1-((x1*x1+A)*x1+B))+(s*(y1+y1)-(3*(x1*x1)+A))*((s*s-(x1+x1))-x1) := by
 have h := PE.same [A, B, x1, y1, s] (.a (.m (.a (.m (.v 4) (.a (.v 2) (.n (.a (.m (.v 4) (.v 4)) (.n (.a (.v 2) (.v 2))))))) (.n (.v 3))) (.a (.m (.v 4) (.a (.v 2) (.n (.a (.m (.v 4) (.v 4)) (.n (.a (.v 2) (.v 2))))))) (.n (.v 3)))) (.n (.a (.m (.a (.m (.a (.m (.v 4) (.v 4)) (.n (.a (.v 2) (.v 2)))) (.a (.m (.v 4) (.v 4)) (.n (.a (.v 2) (.v 2))))) (.v 0)) (.a (.m (.v 4) (.v 4)) (.n (.a (.v 2) (.v 2))))) (.v 1)))) (.a (.a (.m (.v 3) (.v 3)) (.n (.a (.m (.a (.m (.v 2) (.v 2)) (.v 0)) (.v 2)) (.v 1)))) (.m (.a (.m (.v 4) (.a (.v 3) (.v 3))) (.n (.a (.m (.c 3) (.m (.v 2) (.v 2))) (.v 0)))) (.a (.a (.m (.v 4) (.v 4)) (.n (.a (.v 2) (.v 2)))) (.n (.v 2))))) (by decide +kernel)
 simp only [PE.den, List.getD_cons_zero, List.getD_cons_succ] at h
 simp only [Int.sub_eq_add_neg]
 exact h
theorem sq_id (A B x y1 y2 : Int) : (y1-y2)*(y1+y2) = (y1*y1-((x*x+A)*x+B))-(y2*y2-((x*x+A)*x+B)) := by
 have h := PE.same [A, B, x, y1, y2] (.m (.a (.v 3) (.n (.v 4))) (.a (.v 3) (.v 4))) (.a (.a (.m (.v 3) (.v 3)) (.n (.a (.m (.a (.m (.v 2) (.v 2)) (.v 0)) (.v 2)) (.v 1)))) (.n (.a (.m (.v 4) (.v 4)) (.n (.a (.m (.a (.m (.v 2) (.v 2)) (.v 0)) (.v 2)) (.v 1)))))) (by decide +kernel)
 simp only [PE.den, List.getD_cons_zero, List.getD_cons_succ] at h
 simp only [Int.sub_eq_add_neg]
 exact h

theorem dvd_cop {M a b : Int} (h : M ∣ a * b) (hg : Int.gcd a M = 1) : M ∣ b := by
 have h1 : Nat.Coprime M.natAbs a.natAbs := by rw [Int.gcd_comm] at hg; exact hg
 have h2 : M.natAbs ∣ a.natAbs * b.natAbs := by rw [← Int.natAbs_mul]; exact Int.natAbs_dvd_natAbs.2 h
 exact Int.natAbs_dvd_natAbs.1 (h1.dvd_of_dvd_mul_left h2)
theorem on_cong {M A B x y x' y' : Int} (h : M ∣ y * y - ((x * x + A) * x + B)) (hx : M ∣ x' - x) (hy : M ∣ y' - y) : M ∣ y' * y' - ((x' * x' + A) * x' + B) := by
 have h1 := cg_sub (cg_mul hy hy) (cg_add (cg_mul (cg_add (cg_mul hx hx) (cg_refl M A)) hx) (cg_refl M B))
 have e : y' * y' - ((x' * x' + A) * x' + B) = (y' * y' - ((x' * x' + A) * x' + B) - (y * y - ((x * x + A) * x + B))) + (y * y - ((x * x + A) * x + B)) := by omega
 rw [e]
 exact Int.dvd_add h1 h
theorem chord_cl {M A B x1 y1 x2 y2 s x3 y3 : Int} (h1 : M ∣ y1 * y1 - ((x1 * x1 + A) * x1 + B)) (h2 : M ∣ y2 * y2 - ((x2 * x2 + A) * x2 + B)) (hs : M ∣ s * (x2 - x1) - (y2 - y1)) (hg : Int.gcd (x2 - x1) M = 1) (h3 : M ∣ x3 - (s * s - (x1 + x2))) (h4 : M ∣ y3 - (s * (x1 - x3) - y1)) : M ∣ y3 * y3 - ((x3 * x3 + A) * x3 + B) := by
 have hF : M ∣ (x2 - x1) * ((s * (x1 - (s * s - (x1 + x2))) - y1) * (s * (x1 - (s * s - (x1 + x2))) - y1) - (((s * s - (x1 + x2)) * (s * s - (x1 + x2)) + A) * (s * s - (x1 + x2)) + B)) := by
  rw [chord_id A B x1 y1 x2 y2 s]
  exact Int.dvd_add (Int.dvd_mul_of_dvd_right h1) (Int.dvd_mul_of_dvd_right (Int.dvd_sub (Int.dvd_add h2 (Int.dvd_mul_of_dvd_left hs)) h1))
 refine on_cong (dvd_cop hF hg) h3 (cg_trans h4 ?_)
 exact cg_sub (cg_mul (cg_refl M s) (cg_sub (cg_refl M x1) h3)) (cg_refl M y1)
theorem tang_cl {M A B x1 y1 s x3 y3 : Int} (h1 : M ∣ y1 * y1 - ((x1 * x1 + A) * x1 + B)) (hs : M ∣ s * (y1 + y1) - (3 * (x1 * x1) + A)) (h3 : M ∣ x3 - (s * s - (x1 + x1))) (h4 : M ∣ y3 - (s * (x1 - x3) - y1)) : M ∣ y3 * y3 - ((x3 * x3 + A) * x3 + B) := by
 have hF : M ∣ (s * (x1 - (s * s - (x1 + x1))) - y1) * (s * (x1 - (s * s - (x1 + x1))) - y1) - (((s * s - (x1 + x1)) * (s * s - (x1 + x1)) + A) * (s * s - (x1 + x1)) + B) := by
  rw [tang_id A B x1 y1 s]
  exact Int.dvd_add h1 (Int.dvd_mul_of_dvd_left hs)
 refine on_cong hF h3 (cg_trans h4 ?_)
 exact cg_sub (cg_mul (cg_refl M s) (cg_sub (cg_refl M x1) h3)) (cg_refl M y1)
theorem slope_cg {M N D : Int} (hM : 0 < M) (hg : Int.gcd D M = 1) : M ∣ ((N * bezU D M) % M) * D - N := by
 have h1 := cg_iff.2 (bez_inv hM hg)
 have h2 : M ∣ ((N * bezU D M) % M) * D - (N * bezU D M) * D := cg_mul (cg_mod M _) (cg_refl M D)
 have h3 : M ∣ (N * bezU D M) * D - N * 1 := by
  rw [Int.mul_assoc, Int.mul_comm (bezU D M)]
  exact cg_mul (cg_refl M N) h1
 rw [Int.mul_one] at h3
 exact cg_trans h2 h3
theorem fin_facts {M x1 y1 x2 N D : Int} (hM : 0 < M) (hg : Int.gcd D M = 1) : ∃ s, M ∣ s * D - N ∧ M ∣ finX M x1 x2 N D - (s * s - (x1 + x2)) ∧ M ∣ finY M x1 y1 x2 N D - (s * (x1 - finX M x1 x2 N D) - y1) := ⟨_, slope_cg hM hg, cg_mod M _, cg_mod M _⟩
theorem gcd_mod {a M : Int} : Int.gcd (a % M) M = Int.gcd a M := by
 have h : a / M * M + a % M = a := by rw [Int.mul_comm]; exact Int.mul_ediv_add_emod a M
 rw [Int.gcd_comm, Int.gcd_comm a]
 conv => rhs; rw [← h]
 exact (Int.gcd_mul_right_add_right M _ _).symm
theorem on_dvd {A B M x y : Int} {i : Bool} (h : onB A B M x y i = true) : curveB A B M = true ∧ (i = true → x = 0 ∧ y = 0) ∧ (i = false → (0 ≤ x ∧ x < M ∧ 0 ≤ y ∧ y < M) ∧ M ∣ y * y - ((x * x + A) * x + B)) := by
 simp only [onB, Bool.and_eq_true] at h
 refine ⟨h.1, fun hi => ?_, fun hi => ?_⟩
 ·have h2 := h.2
  subst hi
  simpa [ptB] using h2
 ·have h2 := h.2
  subst hi
  simp only [ptB, resB, Bool.and_eq_true, decide_eq_true_eq, Bool.false_eq_true, if_false] at h2
  exact ⟨⟨h2.1.1, h2.1.2, h2.2.1.1, h2.2.1.2⟩, Int.dvd_of_emod_eq_zero h2.2.2⟩
theorem on_of {A B M x y : Int} {i : Bool} (hc : curveB A B M = true) (h1 : i = true → x = 0 ∧ y = 0) (h2 : i = false → (0 ≤ x ∧ x < M ∧ 0 ≤ y ∧ y < M) ∧ M ∣ y * y - ((x * x + A) * x + B)) : onB A B M x y i = true := by
 simp only [onB, Bool.and_eq_true]
 refine ⟨hc, ?_⟩
 cases i with
 | true => simpa [ptB] using h1 rfl
 | false =>
  obtain ⟨⟨g1, g2, g3, g4⟩, g5⟩ := h2 rfl
  simp only [ptB, resB, Bool.and_eq_true, decide_eq_true_eq, Bool.false_eq_true, if_false]
  exact ⟨⟨g1, g2⟩, ⟨g3, g4⟩, Int.emod_eq_zero_of_dvd g5⟩
theorem sum_on {A B M : Int} {P Q : Pt} (hP : onB A B M P.x P.y P.i = true) (hQ : onB A B M Q.x Q.y Q.i = true) (h : (sumP A M P Q).2 = 0) : onB A B M (sumP A M P Q).1.x (sumP A M P Q).1.y (sumP A M P Q).1.i = true := by
 obtain ⟨x1, y1, i1⟩ := P
 obtain ⟨x2, y2, i2⟩ := Q
 cases i1 with
 | true => exact hQ
 | false =>
  cases i2 with
  | true => exact hP
  | false =>
   obtain ⟨hc, _, hp⟩ := on_dvd hP
   obtain ⟨_, _, hq⟩ := on_dvd hQ
   obtain ⟨hp1, hp2⟩ : (0 ≤ x1 ∧ x1 < M ∧ 0 ≤ y1 ∧ y1 < M) ∧ M ∣ y1 * y1 - ((x1 * x1 + A) * x1 + B) := hp rfl
   obtain ⟨hq1, hq2⟩ : (0 ≤ x2 ∧ x2 < M ∧ 0 ≤ y2 ∧ y2 < M) ∧ M ∣ y2 * y2 - ((x2 * x2 + A) * x2 + B) := hq rfl
   have hM : 0 < M := (curve_of hc).1
   simp only [sumP, Bool.false_eq_true, if_false] at h ⊢
   unfold finP at h ⊢
   by_cases h0 : slD M x1 y1 x2 y2 = 0
   ·rw [if_pos h0]; exact on_of hc (fun _ => ⟨rfl, rfl⟩) (fun e => by cases e)
   ·rw [if_neg h0] at h ⊢
    by_cases hg : Int.gcd (slD M x1 y1 x2 y2) M = 1
    ·rw [if_pos hg]
     refine on_of hc (fun e => by cases e) fun _ => ⟨⟨Int.emod_nonneg _ (by omega), Int.emod_lt_of_pos _ hM, Int.emod_nonneg _ (by omega), Int.emod_lt_of_pos _ hM⟩, ?_⟩
     obtain ⟨s, hs, hx, hy⟩ := fin_facts (x1 := x1) (y1 := y1) (x2 := x2) (N := slN A x1 y1 x2 y2) hM hg
     by_cases hx12 : x1 = x2
     ·unfold slD at hg hs hx hy
      unfold slN at hs
      rw [if_pos hx12] at hg
      rw [gcd_mod] at hg
      have hyy : M ∣ (y1 + y2) * (y1 - y2) := by
       rw [Int.mul_comm, sq_id A B x1 y1 y2]
       refine Int.dvd_sub hp2 ?_
       rw [hx12]
       exact hq2
      have hy12 : y1 = y2 := by
       obtain ⟨k, hk⟩ := dvd_cop hyy hg
       have : k = 0 := by
        rcases Int.lt_trichotomy k 0 with hk0 | hk0 | hk0
        ·exfalso
         have := Int.mul_le_mul_of_nonneg_left (show k ≤ -1 by omega) (show 0 ≤ M by omega)
         omega
        ·exact hk0
        ·exfalso
         have := Int.mul_le_mul_of_nonneg_left (show 1 ≤ k by omega) (show 0 ≤ M by omega)
         omega
       rw [this] at hk
       omega
      subst hx12 hy12
      rw [if_pos rfl] at hs
      have hs2 : M ∣ s * (y1 + y1) - (3 * (x1 * x1) + A) := by
       rw [if_pos rfl] at hs
       exact cg_trans (cg_mul (cg_refl M s) (cg_symm (cg_mod M _))) hs
      exact tang_cl hp2 hs2 hx hy
     ·unfold slD at hg hs hx hy
      unfold slN at hs hx hy
      rw [if_neg hx12] at hg
      rw [if_neg hx12, if_neg hx12] at hs
      unfold slN slD
      exact chord_cl hp2 hq2 hs hg hx hy
    ·rw [if_neg hg] at h
     exfalso
     have := Int.gcd_pos_of_ne_zero_right (slD M x1 y1 x2 y2) (show M ≠ 0 by omega)
     simp at h
     omega

theorem opp_on {A B M : Int} {P : Pt} (hP : onB A B M P.x P.y P.i = true) : onB A B M (oppP M P).x (oppP M P).y (oppP M P).i = true := by
 obtain ⟨x, y, i⟩ := P
 obtain ⟨hc, _, h2⟩ := on_dvd hP
 have hM := (curve_of hc).1
 cases i with
 | true => exact on_of hc (fun _ => ⟨rfl, rfl⟩) fun e => by cases e
 | false =>
  obtain ⟨⟨g1, g2, g3, g4⟩, g5⟩ : (0 ≤ x ∧ x < M ∧ 0 ≤ y ∧ y < M) ∧ M ∣ y * y - ((x * x + A) * x + B) := h2 rfl
  refine on_of hc (fun e => by cases e) fun _ => ⟨⟨g1, g2, Int.emod_nonneg _ (by omega), Int.emod_lt_of_pos _ hM⟩, ?_⟩
  have e : y * y = (-y) * (-y) := by rw [Int.neg_mul_neg]
  rw [e] at g5
  exact on_cong g5 (cg_refl M x) (cg_mod M (-y))
theorem mulP_on {A B M : Int} {P : Pt} (hP : onB A B M P.x P.y P.i = true) : ∀ k m, (mulP A M P k m).2 = 0 → onB A B M (mulP A M P k m).1.x (mulP A M P k m).1.y (mulP A M P k m).1.i = true
 | 0, _, _ => on_of (on_dvd hP).1 (fun _ => ⟨rfl, rfl⟩) fun e => by cases e
 | k + 1, m, h => by
  rw [mulP] at h ⊢
  have ih := mulP_on hP k (m / 2)
  generalize mulP A M P k (m / 2) = R at h ih ⊢
  unfold stepP at h ⊢
  split at h
  ·rename_i h0
   rw [if_pos h0]
   have hR := ih h0
   split at h
   ·rename_i h1
    rw [if_pos h1]
    have hS := sum_on hR hR h1
    split at h
    ·rename_i h2
     rw [if_pos h2]
     exact sum_on hS hP h
    ·rename_i h2
     rw [if_neg h2]
     exact hS
   ·rename_i h1
    exact absurd h h1
  ·rename_i h0
   exact absurd h h0
theorem times_on {A B M n : Int} {P : Pt} (hP : onB A B M P.x P.y P.i = true) (h : (timesP A M P n).2 = 0) : onB A B M (timesP A M P n).1.x (timesP A M P n).1.y (timesP A M P n).1.i = true := by
 unfold timesP xjP at h ⊢
 by_cases hn : n < 0
 ·rw [if_pos hn] at h ⊢
  exact mulP_on (opp_on hP) _ _ h
 ·rw [if_neg hn] at h ⊢
  exact mulP_on hP _ _ h
def PDiv (M d : Int) : Prop := 1 < d ∧ d < M ∧ M % d = 0
theorem sum_div {A M : Int} {P Q : Pt} (hP : P.Ok M) (hQ : Q.Ok M) (h : ¬ (sumP A M P Q).2 = 0) : PDiv M (sumP A M P Q).2 := by
 obtain ⟨x1, y1, i1⟩ := P
 obtain ⟨x2, y2, i2⟩ := Q
 obtain ⟨p1, p2, p3, p4⟩ : 0 ≤ x1 ∧ x1 < M ∧ 0 ≤ y1 ∧ y1 < M := hP
 obtain ⟨q1, q2, q3, q4⟩ : 0 ≤ x2 ∧ x2 < M ∧ 0 ≤ y2 ∧ y2 < M := hQ
 cases i1 with
 | true => exact absurd rfl h
 | false =>
  cases i2 with
  | true => exact absurd rfl h
  | false =>
   simp only [sumP, Bool.false_eq_true, if_false] at h ⊢
   unfold finP at h ⊢
   by_cases h0 : slD M x1 y1 x2 y2 = 0
   ·rw [if_pos h0] at h; exact absurd rfl h
   ·rw [if_neg h0] at h ⊢
    by_cases hg : Int.gcd (slD M x1 y1 x2 y2) M = 1
    ·rw [if_pos hg] at h; exact absurd rfl h
    ·rw [if_neg hg] at h ⊢
     have hb : -M < slD M x1 y1 x2 y2 ∧ slD M x1 y1 x2 y2 < M := by
      unfold slD
      split
      ·have := Int.emod_nonneg (y1 + y2) (show M ≠ 0 by omega)
       have := Int.emod_lt_of_pos (y1 + y2) (show 0 < M by omega)
       omega
      ·omega
     have h1 := Int.gcd_le_natAbs_left M h0
     have h2 := Int.gcd_pos_of_ne_zero_left M h0
     refine ⟨?_, ?_, Int.emod_eq_zero_of_dvd (Int.gcd_dvd_right ..)⟩
     ·show (1 : Int) < (Int.gcd (slD M x1 y1 x2 y2) M : Nat); omega
     ·show ((Int.gcd (slD M x1 y1 x2 y2) M : Nat) : Int) < M; omega
theorem mulP_div {A M : Int} {P : Pt} (hP : P.Ok M) : ∀ k m, ¬ (mulP A M P k m).2 = 0 → PDiv M (mulP A M P k m).2
 | 0, _, h => absurd rfl h
 | k + 1, m, h => by
  rw [mulP] at h ⊢
  have ih := mulP_div (A := A) hP k (m / 2)
  have hO : (mulP A M P k (m / 2)).1.Ok M := by
   have := xj_ok (A := A) (N := m / 2) (L := k) hP 0
   unfold xjP at this
   rwa [Nat.sub_zero, Nat.pow_zero, Nat.div_one] at this
  generalize mulP A M P k (m / 2) = R at h ih hO ⊢
  unfold stepP at h ⊢
  by_cases h0 : R.2 = 0
  ·rw [if_pos h0] at h ⊢
   by_cases h1 : (sumP A M R.1 R.1).2 = 0
   ·rw [if_pos h1] at h ⊢
    by_cases h2 : decide (m % 2 = 1) = true
    ·rw [if_pos h2] at h ⊢
     exact sum_div (sumP_ok hO hO) hP h
    ·rw [if_neg h2] at h
     exact absurd h1 h
   ·rw [if_neg h1]
    exact sum_div hO hO h1
  ·rw [if_neg h0]
   exact ih h0
theorem times_div {A M n : Int} {P : Pt} (hP : P.Ok M) (h : ¬ (timesP A M P n).2 = 0) : PDiv M (timesP A M P n).2 := by
 unfold timesP xjP at h ⊢
 by_cases hn : n < 0
 ·rw [if_pos hn] at h ⊢
  exact mulP_div (oppP_ok hP) _ _ h
 ·rw [if_neg hn] at h ⊢
  exact mulP_div hP _ _ h
end Go.Proofs.Ytpkeeacdkkmknaa

namespace Go.Proofs.Ytpkeeacdkkmknaa
open Go Go.RowKit

def noSl : List Fd → Bool
 | [] => true
 | .v (.slice _ _ _) :: _ => false
 | _ :: r => noSl r
def FarC (own : Option Nat) (es : List Value) : Prop := ∀ a k c, Value.slice (some a) k c ∈ es → k ≠ 0 → some a.block ≠ own
theorem FarC.tail {own : Option Nat} {u : Value} {es : List Value} (h : FarC own (u :: es)) : FarC own es := fun a k c hm hk => h a k c (List.mem_cons_of_mem _ hm) hk
theorem Fits.grown {w w' : World} {row : Option Nat} (hg : w.grownBy w' row) : ∀ {fs : List Fd} {es : List Value}, Fits w fs es → FarC row es → Fits w' fs es
 | [], _, h, _ => h
 | .n z :: fs, _, ⟨a, b, r, e, h1, h2⟩, hf => by
  subst e
  refine ⟨a, b, r, rfl, ?_, Fits.grown hg h2 hf.tail.tail⟩
  obtain ⟨n, ao, k, c, e⟩ := h1.parts
  rw [e] at h1 ⊢
  injection e with e
  have e2 := congrArg Array.toList e
  simp at e2
  obtain ⟨rfl, rfl⟩ := e2
  exact h1.grown hg fun x hx hk => hf x k c (by rw [hx]; simp) hk
 | .v u :: fs, _, ⟨r, e, h1, h2⟩, hf => by
  subst e
  exact ⟨r, rfl, h1, Fits.grown hg h2 hf.tail⟩
 | .r n ao k c xs z :: fs, _, ⟨r, e, h1, h2⟩, hf => by
  subst e
  refine ⟨r, rfl, ⟨?_, h1.2.grown hg fun x hx hk => hf x k c (by rw [hx]; simp) hk⟩, Fits.grown hg h2 hf.tail.tail⟩
  have hs := h1.1
  refine ⟨hs.len, hs.cap, hs.cells.1, ?_⟩
  rcases hs.cells.2 with h0 | ⟨b, off, rfl, hlt, hc⟩
  ·exact .inl h0
  ·rcases Nat.eq_zero_or_pos k with h0 | h0
   ·exact .inl (List.eq_nil_of_length_eq_zero (hs.len.trans h0))
   ·exact .inr ⟨b, off, rfl, Nat.lt_of_lt_of_le hlt hg.size, fun j hj => hg.cell (hc j hj) (show some b ≠ row from hf ⟨b, off, none⟩ k c (by simp) (by omega))⟩
theorem Fits.blk {w : World} : ∀ {fs : List Fd} {es : List Value}, Fits w fs es → noSl fs = true → ∀ {a : Addr} {k c : Nat}, Value.slice (some a) k c ∈ es → k ≠ 0 → a.block < w.heap.size
 | [], _, h, _, _, _, _, hm, _ => by rw [show _ = [] from h] at hm; simp at hm
 | .n z :: fs, _, ⟨x, y, r, e, h1, h2⟩, hn, a, k, c, hm, hk => by
  subst e
  obtain ⟨n, ao, k', c', e⟩ := h1.parts
  have h3 := h1
  rw [e] at h3
  injection e with e
  have e2 := congrArg Array.toList e
  simp at e2
  obtain ⟨rfl, rfl⟩ := e2
  simp only [List.mem_cons, reduceCtorEq, false_or] at hm
  rcases hm with hm | hm
  ·injection hm with hm1 hm2 hm3
   subst hm1 hm2 hm3
   exact h3.blk hk
  ·exact Fits.blk h2 hn hm hk
 | .v u :: fs, _, ⟨r, e, h1, h2⟩, hn, a, k, c, hm, hk => by
  subst e
  rcases List.mem_cons.1 hm with hm | hm
  ·subst hm; simp [noSl] at hn
  ·refine Fits.blk h2 ?_ hm hk
   cases u <;> first | exact hn | simp [noSl] at hn
 | .r n ao k' c' xs z :: fs, _, ⟨r, e, h1, h2⟩, hn, a, k, c, hm, hk => by
  subst e
  simp only [List.mem_cons, reduceCtorEq, false_or] at hm
  rcases hm with hm | hm
  ·injection hm with hm1 hm2 hm3
   subst hm1 hm2 hm3
   exact h1.2.blk hk
  ·exact Fits.blk h2 hn hm hk
def StAt (w : World) (g o : Nat) (fs : List Fd) : Prop := ∃ es, Fits w fs es ∧ ∀ j, j < es.length → w.cell? ⟨g, o + j, none⟩ = some (es.getD j undef)
theorem StAt.mono {w w' : World} {g o : Nat} {fs : List Fd} (h : StAt w g o fs) (hl : g < w.heap.size) (hb : Below w.heap.size w w') : StAt w' g o fs := by
 obtain ⟨es, h1, h2⟩ := h
 exact ⟨es, h1.mono hb, fun j hj => (hb.cell (p := ⟨g, o + j, none⟩) hl).trans (h2 j hj)⟩
def Sts (m : Nat) (w : World) (v : Value) (fss : List (List Fd)) : Prop := ∃ g cap, v = .slice (some ⟨g, 0, none⟩) fss.length cap ∧ g < w.heap.size ∧ ∀ i fs, fss[i]? = some fs → StAt w g (i * m) fs
theorem Sts.mono {m : Nat} {w w' : World} {v : Value} {fss : List (List Fd)} (h : Sts m w v fss) (hb : Below w.heap.size w w') : Sts m w' v fss := by
 obtain ⟨g, cap, e, h1, h2⟩ := h
 exact ⟨g, cap, e, Nat.lt_of_lt_of_le h1 hb.size, fun i fs hi => (h2 i fs hi).mono h1 hb⟩
def StCell (m : Nat) (us : List Value) (w : World) (own : Option Nat) (i : Nat) (fs : List Fd) : Prop := ∃ es, es.length = m ∧ (∀ j, j < m → us[i * m + j]? = es[j]?) ∧ FarC own es ∧ Fits w fs es ∧ noSl fs = true
def Ls (T m : Nat) (W : World) (B : Nat) (v : Value) (fss : List (List Fd)) : Prop := ∃ us, W.ownsRow B T m v fss.length us ∧ ∀ i fs, fss[i]? = some fs → StCell m us W v.ownBlock i fs
theorem Ls.shape {T m : Nat} {W : World} {B : Nat} {v : Value} {fss : List (List Fd)} (h : Ls T m W B v fss) : ∃ ao cap, v = .slice ao fss.length cap := by
 obtain ⟨us, h, _⟩ := h
 rcases h.2 with ⟨rfl, h0⟩ | ⟨g, cap, cur, rfl, _⟩
 ·exact ⟨none, 0, by rw [h0]⟩
 ·exact ⟨_, _, rfl⟩
theorem Ls.mono {T m : Nat} {w w' : World} {B : Nat} {v : Value} {fss : List (List Fd)} (h : Ls T m w B v fss) (hb : Below w.heap.size w w') : Ls T m w' B v fss := by
 obtain ⟨us, h, hE⟩ := h
 refine ⟨us, ⟨h.1, ?_⟩, fun i z hi => ?_⟩
 ·rcases h.2 with h2 | ⟨g, cap, cur, h1, h2, h3, h4⟩
  ·exact .inl h2
  ·exact .inr ⟨g, cap, cur, h1, h2, by rw [hb.block g (Array.getElem?_eq_some_iff.1 h3).1]; exact h3, h4⟩
 ·obtain ⟨es, g1, g2, g3, g4, g5⟩ := hE i z hi
  exact ⟨es, g1, g2, g3, g4.mono hb, g5⟩
theorem Ls.one {T m : Nat} (w : World) {B : Nat} {fs : List Fd} {es : List Value} (hB : B ≤ w.heap.size) (hm : es.length = m) (hF : Fits w fs es) (hn : noSl fs = true) : Ls T m (w.alloc (.cells es.toArray T)) B (.slice (some ⟨w.heap.size, 0, none⟩) 1 1) [fs] := by
 refine ⟨es, ⟨by simp [hm], .inr ⟨w.heap.size, 1, es.toArray, rfl, hB, ?_, ?_⟩⟩, fun i z hi => ?_⟩
 ·exact heap_alloc_new w _
 ·simp [hm]
  exact ⟨by unfold maxLen; omega, by rw [← hm, List.take_length]⟩
 ·match i, hi with
  | 0, hi =>
   simp at hi
   subst hi
   refine ⟨es, hm, fun j _ => by rw [Nat.zero_mul, Nat.zero_add], fun a k c hs hk e => ?_, hF.mono (alloc_below _ _), hn⟩
   have h1 := hF.blk hn hs hk
   simp [Value.ownBlock] at e
   omega
  | i + 1, hi => simp at hi
theorem Ls.step {T m B : Nat} {w wr w1 w2 : World} {v : Value} {fss : List (List Fd)} {us es : List Value} {fs : List Fd} {o : Obj} {g cap H : Nat}
  (hO : wr.ownsRow B T m v fss.length us) (hE : ∀ i z, fss[i]? = some z → StCell m us wr v.ownBlock i z) (hB : B ≤ wr.heap.size) (hnx : Below B w wr) (hb : Below wr.heap.size wr w1)
  (hnew : ∀ a k c, Value.slice (some a) k c ∈ es → k ≠ 0 → wr.heap.size ≤ a.block) (hF : Fits w1 fs es) (hn : noSl fs = true) (hm : es.length = m)
  (hown' : w2.ownsRow B T m (.slice (some ⟨g, 0, none⟩) (fss.length + 1) cap) (fss.length + 1) (us ++ es)) (hgrow : (w1.alloc o).grownBy w2 v.ownBlock) (hat : v.ownBlock = some g ∨ g = H) (hH : (w1.alloc o).heap.size = H) :
  Ls T m w2 B (.slice (some ⟨g, 0, none⟩) (fss.length + 1) cap) (fss ++ [fs]) ∧ Below B w w2 := by
 have hsz := hb.size
 have hH2 : w1.heap.size + 1 = H := by rw [← hH]; simp
 have hlt := hO.lt
 have hul := hO.1
 refine ⟨⟨us ++ es, by simpa using hown', fun i y hi => ?_⟩, ?_⟩
 ·have hne : ∀ {a : Addr} {k c : Nat} {xs : List Value} {gs : List Fd}, Fits w1 gs xs → noSl gs = true → Value.slice (some a) k c ∈ xs → k ≠ 0 → some a.block ≠ v.ownBlock → a.block ≠ g := by
   intro a k c xs gs hx hnx2 hmx hk hr e
   have h1 := hx.blk hnx2 hmx hk
   rcases hat with h | h
   ·rw [h, e] at hr; exact hr rfl
   ·omega
  by_cases hil : i < fss.length
  ·rw [List.getElem?_append_left hil] at hi
   obtain ⟨xs, g1, g2, g3, g4, g5⟩ := hE i y hi
   refine ⟨xs, g1, fun j hj => ?_, fun a k c hs hk e => ?_, ((g4.mono hb).mono (alloc_below w1 o)).grown hgrow g3, g5⟩
   ·have hm1 : (i + 1) * m ≤ fss.length * m := Nat.mul_le_mul_right m (by omega)
    rw [Nat.add_mul, Nat.one_mul] at hm1
    rw [List.getElem?_append_left (by omega)]
    exact g2 j hj
   ·exact hne (g4.mono hb) g5 hs hk (g3 a k c hs hk) (by simpa [Value.ownBlock] using e)
  ·have hi2 : i = fss.length := by
    rcases Nat.lt_or_ge i (fss ++ [fs]).length with h | h
    ·simp at h; omega
    ·rw [List.getElem?_eq_none h] at hi; cases hi
   subst hi2
   rw [List.getElem?_append_right (Nat.le_refl _), Nat.sub_self] at hi
   simp only [List.getElem?_cons_zero, Option.some.injEq] at hi
   subst hi
   have hfar : FarC v.ownBlock es := fun a k c hs hk e => by
    have h1 := hnew a k c hs hk
    have h2 := (hlt a.block e.symm).2
    omega
   refine ⟨es, hm, fun j hj => ?_, fun a k c hs hk e => ?_, (hF.mono (alloc_below w1 o)).grown hgrow hfar, hn⟩
   ·rw [List.getElem?_append_right (by omega), show fss.length * m + j - us.length = j by omega]
   ·exact hne hF hn hs hk (hfar a k c hs hk) (by simpa [Value.ownBlock] using e)
 ·exact ((hnx.trans (hb.mono hB)).alloc (by omega) o).grown hgrow (by simp; omega) (fun j hj => (hO.lt j hj).1)
section
variable {os : List Oper} {Q : Exit → Act → World → Prop} {a : Act} {p : Pq} {B B0 : Nat} {w0 : World}
variable {i s : Nat} {d : Option Tmp} {ty : TypeId} {ps : String} {af : Array Edge} {gd : Option (Nat × Bool)}
theorem q_loadStOut {b off l T : Nat} {fs : List Fd} {x : Operand} (hp : p.Ok B B0) (hF : p.Free i) (hg : GdQ os a p B B0 w0 af gd) (hn : ∀ w, Below B w0 w → StAt w b off fs) (hT : rowB T l = true) (hl : sz fs = l)
  (hx : SrcQ os a p B B0 w0 af x fun u _ => u = .pointer (some ⟨b, off, none⟩)) (hC : ∀ v w, (Fq.st fs).P v w → (p.c i).P v w) :
  StepQ os Q a p B B0 w0 i { dst := d, op := .load T x, type := ty, pos := ps, after := af, guard := gd } := by
 refine stq_val hp hF hg fun L vs w hG hL hc hd => ?_
 obtain ⟨es, hfit, hat⟩ := hn w hG.below
 have e := hx L vs w hG hd
 obtain ⟨⟨dd, hu, hd'⟩, hi⟩ := rowB_of hT
 refine ⟨.agg es.toArray, ?_, hC _ _ ⟨_, rfl, hfit⟩⟩
 have hr : w.rangeAt b off es := by
  intro j v hv
  have hj := (List.getElem?_eq_some_iff.1 hv).1
  rw [hat j hj, List.getD, hv]
  rfl
 have := run_loadVar_mid (P := Try.prog) w b off T _ dd hr hu hd' (by rw [hfit.length, hl]; exact hi)
 generalize (lay os.toArray L vs os.toArray.size a).eval = ρ at e
 simp only [execOp, e, Instr.loadAt, Instr.sureAddr, Sem.run_bind, Sem.run_pure, Result.andThen_ok, this]
end
def TameRow (w : World) (v : Value) : Prop := ∃ g n cap cur e, v = .slice (some ⟨g, 0, none⟩) n cap ∧ w.heap[g]? = some (.cells cur e (0, 0)) ∧ ∀ u ∈ cur.toList, tameB u = true
theorem TameRow.mono {w w' : World} {v : Value} (h : TameRow w v) (hb : Below w.heap.size w w') : TameRow w' v := by
 obtain ⟨g, n, cap, cur, e, h1, h2, h3⟩ := h
 exact ⟨g, n, cap, cur, e, h1, by rw [hb.block g (Array.getElem?_eq_some_iff.1 h2).1]; exact h2, h3⟩
theorem TameRow.num {w : World} {v : Value} (h : TameRow w v) {n : Bool} {ao : Option Addr} {k c : Nat} {z : Int} (hN : Num w (.agg #[.bool n, .slice ao k c]) z) : ∀ a, ao = some a → k ≠ 0 → some a.block ≠ v.ownBlock := by
 intro a ha hk e
 obtain ⟨g, n', cap, cur, et, rfl, h2, h3⟩ := h
 obtain ⟨neg, ao', k', c', xs, hv, hs, hn, hz⟩ := hN
 injection hv with hv
 have hv2 := congrArg Array.toList hv
 simp at hv2
 obtain ⟨rfl, rfl, rfl, rfl⟩ := hv2
 subst ha
 rcases hs.cells.2 with h0 | ⟨b, off, e1, hlt, hc⟩
 ·have := hs.len; rw [h0] at this; simp at this; omega
 ·injection e1 with e1
  subst e1
  simp [Value.ownBlock] at e
  subst e
  have h4 := hc 0 (by have := hs.len; omega)
  rw [cell_of_row w b _ cur et _ h2] at h4
  have h5 := List.mem_of_getElem? (l := cur.toList) (i := off + 0) (by rw [Array.getElem?_toList]; exact h4)
  have h6 := h3 _ h5
  simp [tameB] at h6
set_option maxRecDepth 20000 in
theorem run_append_tame {w : World} (t ty : TypeId) (base : Nat) (e : TypeId) (i : TypeInfo) (z : Value) (size bytes : Nat) (ht : Try.prog.underlying t = some (.slice e)) (hi : Try.prog.info? e = some i) (hz : i.zero = some z)
  (hsize : i.size = size) (hby : i.bytes = bytes) (hzs : z.cells.size = size) (hsz : 0 < size)
  (v : Value) (n : Nat) (xs : List Value) (hown : w.ownsRow base e size v n xs) (htm : TameRow w v) (hzt : ∀ u ∈ z.cells.toList, tameB u = true)
  (ad : Addr) (m c : Nat) (news : List Value) (hl : news.length = m * size) (hnews : ∀ j u, news[j]? = some u → w.cell? (ad.add j) = some u) (h1 : ∀ u ∈ news, tameB u = true)
  (hm : 0 < m) (h63 : n + m ≤ maxLen) (hbytes : (n + m) * bytes ≤ 140737488355328) (hbase : base ≤ w.heap.size) (H : Nat) (hH : w.heap.size = H) :
  ∃ g cap w', (Builtin.append_ #[t, t] ty #[v, .slice (some ad) m c]).run Try.prog w = .ok (.slice (some ⟨g, 0, none⟩) (n + m) cap) w' ∧
   w'.ownsRow base e size (.slice (some ⟨g, 0, none⟩) (n + m) cap) (n + m) (xs ++ news) ∧ w.grownBy w' v.ownBlock ∧ (v.ownBlock = some g ∨ g = H) ∧ g < w'.heap.size ∧ TameRow w' (.slice (some ⟨g, 0, none⟩) (n + m) cap) := by
 have hone : ∀ u ∈ news, u.oneCell' = true := fun u hu => by
  have := h1 u hu
  simp only [tameB, Bool.and_eq_true] at this
  exact this.1
 obtain ⟨g, cap, w', hr, h2, h3, h4, h5⟩ := run_append_lies (P := Try.prog) w t ty base e i z size bytes ht hi hz hsize hby hzs hsz v n xs hown ad m c news hl hnews hone hm h63 hbytes hbase H hH
 refine ⟨g, cap, w', hr, h2, h3, h4, h5, ?_⟩
 subst hsize
 subst hby
 obtain ⟨g0, n0, cap0, cur0, e0, rfl, hg0, ht0⟩ := htm
 rcases hown.2 with ⟨h6, _⟩ | ⟨g6, cap6, cur, h7, hbg, hg, hnc, hcm, hcs, htake⟩
 ·cases h6
 ·injection h7 with h7 h8 h9
  injection h7 with h7
  injection h7 with h7
  subst h7 h8 h9
  have hcur : cur = cur0 := by rw [hg0] at hg; injection hg with hg; injection hg with hg; exact hg.symm
  subst hcur
  by_cases hroom : n0 + m ≤ cap0
  ·have hfit : n0 * i.size + news.length ≤ cur.size := by rw [hl, hcs, ← Nat.add_mul]; exact Nat.mul_le_mul_right _ hroom
   have hr2 := run_append_room (P := Try.prog) w t ty e i ht hi g0 n0 cap0 cur hg ad m c news hl hnews hone hroom hfit
   rw [hr] at hr2
   injection hr2 with e1 e2
   injection e1 with e1 _ e3
   injection e1 with e1
   injection e1 with e1
   subst e1 e2 e3
   refine ⟨g, _, _, _, e, rfl, setRow_heap w g cur _ e _ hg, fun u hu => ?_⟩
   simp only [List.mem_append] at hu
   rcases hu with (hu | hu) | hu
   ·exact ht0 u (List.mem_of_mem_take hu)
   ·exact h1 u hu
   ·exact ht0 u (List.mem_of_mem_drop hu)
  ·have holds : ∀ j u, xs[j]? = some u → w.cell? ((⟨g0, 0, none⟩ : Addr).add j) = some u := hown.cells (g := g0) rfl
   have hsmall : n0 + m ≤ 9223372036854775807 := by simp only [maxLen] at h63; omega
   have hr2 := run_append_grow (P := Try.prog) w t ty e i z ht hi hz ⟨g0, 0, none⟩ n0 cap0 xs hown.1 holds ad m c news hl hnews (by omega) (by omega) (growslice_fits (by omega) hbytes)
   rw [hr] at hr2
   injection hr2 with e1 e2
   injection e1 with e1 _ e3
   injection e1 with e1
   injection e1 with e1
   subst e1 e2 e3
   refine ⟨_, _, _, _, e, rfl, heap_alloc_new w.drew _, fun u hu => ?_⟩
   simp only [Array.toList_append, List.mem_append] at hu
   rcases hu with (hu | hu) | hu
   ·rw [← htake] at hu
    exact ht0 u (List.mem_of_mem_take hu)
   ·exact h1 u hu
   ·simp only [Builtin.zeroCells, Array.toList_map, Array.toList_range, List.mem_map, List.mem_range] at hu
    obtain ⟨j, hj, rfl⟩ := hu
    have hlt : j % z.cells.size < z.cells.size := Nat.mod_lt _ (by rw [hzs]; exact hsz)
    rw [getElem!_pos z.cells (j % z.cells.size) hlt]
    exact hzt _ (by simp)
theorem wpList_append_tame {w : World} {ops : Array Oper} {rest : List Oper} {o : Oper} {a : Act} {Q : Exit → Act → World → Prop} (hgd : o.guard = none) (s x : Operand) (t : TypeId)
  (ho : o.op = .call { callee := .builtin .append, args := #[s, x], argTypes := #[t, t] })
  (base : Nat) (e : TypeId) (i : TypeInfo) (z : Value) (size bytes : Nat) (ht : Try.prog.underlying t = some (.slice e)) (hi : Try.prog.info? e = some i) (hz : i.zero = some z)
  (hsize : i.size = size) (hby : i.bytes = bytes) (hzs : z.cells.size = size) (hsz : 0 < size)
  (v : Value) (n : Nat) (xs : List Value) (hs : a.eval s = v) (hown : w.ownsRow base e size v n xs) (htm : TameRow w v) (hzt : ∀ u ∈ z.cells.toList, tameB u = true)
  (ad : Addr) (m c : Nat) (news : List Value) (hx : a.eval x = .slice (some ad) m c) (hl : news.length = m * size) (hnews : ∀ j u, news[j]? = some u → w.cell? (ad.add j) = some u) (h1 : ∀ u ∈ news, tameB u = true)
  (hm : 0 < m) (h63 : n + m ≤ maxLen) (hbytes : (n + m) * bytes ≤ 140737488355328) (hbase : base ≤ w.heap.size) (H : Nat) (hH : w.heap.size = H)
  (h : ∀ g cap w', w'.ownsRow base e size (.slice (some ⟨g, 0, none⟩) (n + m) cap) (n + m) (xs ++ news) → w.grownBy w' v.ownBlock → (v.ownBlock = some g ∨ g = H) → g < w'.heap.size → TameRow w' (.slice (some ⟨g, 0, none⟩) (n + m) cap) → wpList Try.prog ops Q rest (a.put o.dst (.slice (some ⟨g, 0, none⟩) (n + m) cap)) w') : wpList Try.prog ops Q (o :: rest) a w := by
 refine wpList_plain hgd fun K hK => ?_
 obtain ⟨g, cap, w', hr, h2, h3, h4, h5, h6⟩ := run_append_tame (w := w) t o.type base e i z size bytes ht hi hz hsize hby hzs hsz v n xs hown htm hzt ad m c news hl hnews h1 hm h63 hbytes hbase H hH
 unfold Oper.wp execOp
 simp only [ho, resolve, invoke, builtin, Sem.run_bind, Sem.run_pure, Result.andThen_ok, List.map_toArray, List.map_cons, List.map_nil, hs, hx, hr]
 exact hK _ _ (h g cap w' h2 h3 h4 h5 h6)
def RBox (W : World) (own : Option Nat) (br : Nat) (z : Int) : Prop := br < W.heap.size ∧ some br ≠ own ∧ ∃ n ao k c, W.cell? ⟨br, 0, none⟩ = some (.bool n) ∧ W.cell? ⟨br, 1, none⟩ = some (.slice ao k c) ∧ Num W (.agg #[.bool n, .slice ao k c]) z
theorem RBox.mono {W W' : World} {own : Option Nat} {br : Nat} {z : Int} (h : RBox W own br z) (hb : Below W.heap.size W W') : RBox W' own br z := by
 obtain ⟨h1, h2, n, ao, k, c, g1, g2, g3⟩ := h
 exact ⟨Nat.lt_of_lt_of_le h1 hb.size, h2, n, ao, k, c, (hb.cell (p := ⟨br, 0, none⟩) h1).trans g1, (hb.cell (p := ⟨br, 1, none⟩) h1).trans g2, g3.mono hb⟩
theorem RBox.st {W : World} {own : Option Nat} {br : Nat} {z : Int} (h : RBox W own br z) : StAt W br 0 [.n z] := by
 obtain ⟨h1, h2, n, ao, k, c, g1, g2, g3⟩ := h
 refine ⟨[.bool n, .slice ao k c], ⟨_, _, _, rfl, g3, rfl⟩, fun j hj => ?_⟩
 match j, hj with
 | 0, _ => exact g1
 | 1, _ => exact g2
theorem RBox.step {wr w1 w2 : World} {v : Value} {br g H n cap : Nat} {z : Int} {o : Obj} (h : RBox wr v.ownBlock br z) (hb : Below wr.heap.size wr w1) (ht : TameRow (w1.alloc o) v) (hgrow : (w1.alloc o).grownBy w2 v.ownBlock) (hat : v.ownBlock = some g ∨ g = H) (hH : (w1.alloc o).heap.size = H) : RBox w2 (Value.slice (some ⟨g, 0, none⟩) n cap).ownBlock br z := by
 obtain ⟨h1, h2, m, ao, k, c, g1, g2, g3⟩ := (h.mono hb).mono (alloc_below w1 o)
 have hlt : br < H := by rw [← hH]; exact h1
 refine ⟨Nat.lt_of_lt_of_le h1 hgrow.size, ?_, m, ao, k, c, hgrow.cell g1 h2, hgrow.cell g2 h2, g3.grown hgrow (ht.num g3)⟩
 intro e
 simp [Value.ownBlock] at e
 rcases hat with h3 | h3
 ·rw [h3, e] at h2; exact h2 rfl
 ·omega
theorem TameRow.made {w : World} {es : List Value} {T : Nat} (h : ∀ u ∈ es, tameB u = true) : TameRow (w.alloc (.cells es.toArray T)) (.slice (some ⟨w.heap.size, 0, none⟩) 1 1) := ⟨_, _, _, es.toArray, T, rfl, heap_alloc_new w _, fun u hu => h u (by simpa using hu)⟩
end Go.Proofs.Ytpkeeacdkkmknaa

namespace Go.Proofs.Ytpkeeacdkkmknaa
open Go Go.RowKit

set_option maxRecDepth 100000 in
set_option maxHeartbeats 4000000 in
theorem exRight {w : World} {v v' : Value} {A B M x : Int} (h : (Fq.st [.n A, .n B, .n M]).P v w) (h' : Num w v' x) (hM : ab M < pw 5) (hA : ab A < pw 5) (hB : ab B < pw 5) (hx : ab x < pw 5) (h0 : 0 < M) :
  Calls Try.prog 33 #[v, v'] w fun e w' => ∃ v', e = .returned v' ∧ Below w.heap.size w w' ∧ Num w' v' (((x * (x * x)) + (A * x) + B) % M) := by
 replace hM := hidd hM
 replace hA := hidd hA
 replace hB := hidd hB
 replace hx := hidd hx
 replace h0 := hidd h0
 obtain ⟨_, rfl, hf0⟩ := h
 have hF0 := hf0
 obtain ⟨y0_p0, y0_q0, _, rfl, _y0_n0, y0_p1, y0_q1, _, rfl, _y0_n1, y0_p2, y0_q2, _, rfl, _y0_n2, rfl⟩ := hf0
 obtain ⟨n1, ao1, k1, c1, rfl⟩ := h'.parts
 obtain ⟨w1, b1, hw1, hb1, hs1, E⟩ := fr_start w (F := Fq.st [.n A, .n B, .n M]) (us := [y0_p0, y0_q0, y0_p1, y0_q1, y0_p2, y0_q2]) 31 rfl (by simp) (hF0.tame) (show (Fq.st [.n A, .n B, .n M]).P _ w from ⟨_, rfl, hF0⟩)
 obtain ⟨w2, b2, hw2, hb2, hs2, E⟩ := fr_more E hs1 (F := Fq.num x) (us := [.bool n1, .slice ao1 k1 c1]) 29 rfl (by simp) (tame_int _ _ _ _) (h'.mono E.below)
 obtain ⟨w3, b3, hw3, hb3, hs3, E⟩ := fr_more E hs2 (F := Fq.num 0) (us := [.bool false, .slice none 0 0]) 29 rfl (by simp) (tame_int _ _ _ _) (Num.zero _)
 go_enter Try.func33, Try.ntmps33
 go_upto_region 1 with (fail)
 rw [← hw1]
 rw [← hw2]
 rw [← hw3]
 rw [← hb3]
 rw [← hb2]
 rw [← hb1]
 clear hw1 hw2 hw3 hb1 hb2 hb3 hs3 hs1 hs2
 have B4 : Hid (ab ((x * x)) < pw 10) := ab_mulM hx.out hx.out (by omega)
 have B5 : Hid (ab ((x * (x * x))) < pw 15) := ab_mulM hx.out B4.out (by omega)
 refine region_fr (C := [Fq.num x, Fq.num x, Fq.num x, Fq.num (x * x), Fq.num (x * (x * x)), Fq.any, Fq.any]) (ks := [none, none, none]) (new := [⟨5, 6, 2, Fq.num 0, Fq.num (x * (x * x)), none⟩]) E rfl (by kernel_rfl) rfl rfl (fun hp => ⟨?_, ?_, ?_, ?_, ?_, ?_, ?_, trivial⟩) ?_
 ·exact q_loadInt (off := 0) hp (free_of rfl) trivial (mq 1 rfl) (.inl rfl) (Nat.le_of_ble_eq_true rfl) (sqo 3) (fun us w hl h => ld_num hl h)
 ·exact q_loadInt (off := 0) hp (free_of rfl) trivial (mq 1 rfl) (.inl rfl) (Nat.le_of_ble_eq_true rfl) (sqo 3) (fun us w hl h => ld_num hl h)
 ·exact q_loadInt (off := 0) hp (free_of rfl) trivial (mq 1 rfl) (.inl rfl) (Nat.le_of_ble_eq_true rfl) (sqo 3) (fun us w hl h => ld_num hl h)
 ·exact q_call2 (F := (Fq.num x).P) (G := (Fq.num x).P) hp (free_of rfl) trivial (enq_R_Mul) (sqi 1) (sqi 2) (fun v v' w h h' => exK (RMulV h h') B4.out (by omega))
 ·exact q_call2 (F := (Fq.num x).P) (G := (Fq.num (x * x)).P) hp (free_of rfl) trivial (enq_R_Mul) (sqi 0) (sqi 3) (fun v v' w h h' => exK (RMulV h h') B5.out (by omega))
 ·exact q_allocInt hp (mq 0 rfl) rfl rfl rfl rfl (Nat.ne_of_beq_eq_false rfl) (fun _ _ => trivial) (old_ne rfl) (newk_ne rfl) (fun w => Num.zero w)
 ·exact q_storeNewInt hp (mq 0 rfl) rfl rfl rfl (own_ptr rfl rfl (by simp) rfl) (sq_in 4 rfl rfl (by simp) rfl (fun v w h => intV_num h)) (fun _ _ => trivial) (old_ne rfl) (newi_ne rfl)
 intro L vs w6 nb hL hC hn E6
 have e5 : vs 5 = .pointer (some ⟨nb 5, 0, none⟩) := hn _ (mq 0 rfl)
 have E : Fr w [(nb 5, 2, Fq.num (x * (x * x))), (b3, 2, Fq.num 0), (b2, 2, Fq.num x), (b1, 6, Fq.st [.n A, .n B, .n M])] w6 := E6
 rw [lay_all hL]
 simp only [putAll, dstOf, List.length_cons, List.length_nil, Nat.zero_add, Nat.reduceAdd, List.getElem?_toArray, List.getElem?_cons_zero, List.getElem?_cons_succ, Option.bind_some, Act.put, List.setIfInBounds_toArray, List.set_cons_succ, List.set_cons_zero]
 rw [e5]
 generalize nb 5 = b6_5 at E ⊢
 generalize vs 0 = u6_0
 generalize vs 1 = u6_1
 generalize vs 2 = u6_2
 generalize vs 3 = u6_3
 generalize vs 4 = u6_4
 clear e5 hC hn E6 hL vs L nb
 go_upto_region 2 with (fail)
 have B7 : Hid (ab ((A * x)) < pw 10) := ab_mulM hA.out hx.out (by omega)
 have B8 : Hid (ab (((x * (x * x)) + (A * x))) < pw 16) := ab_addB B5.out B7.out (by omega) (by omega)
 have B9 : Hid (ab ((((x * (x * x)) + (A * x)) + B)) < pw 17) := ab_addB B8.out hB.out (by omega) (by omega)
 have B10 : Hid (ab (((((x * (x * x)) + (A * x)) + B) % M)) < pw 5) := ab_mod' h0.out hM.out
 refine region_fr (C := [Fq.num (x * (x * x)), Fq.is (.pointer (some ⟨b1, 0, none⟩)), Fq.num A, Fq.num x, Fq.num (A * x), Fq.num ((x * (x * x)) + (A * x)), Fq.is (.pointer (some ⟨b1, 2, none⟩)), Fq.num B, Fq.num (((x * (x * x)) + (A * x)) + B), Fq.is (.pointer (some ⟨b1, 4, none⟩)), Fq.num M, Fq.num ((((x * (x * x)) + (A * x)) + B) % M), Fq.any]) (ks := [none, some (12, Fq.num ((((x * (x * x)) + (A * x)) + B) % M)), none, none]) (new := []) E rfl (by kernel_rfl) rfl rfl (fun hp => ⟨?_, ?_, ?_, ?_, ?_, ?_, ?_, ?_, ?_, ?_, ?_, ?_, ?_, trivial⟩) ?_
 ·exact q_loadInt (off := 0) hp (free_of rfl) trivial (mq 0 rfl) (.inl rfl) (Nat.le_of_ble_eq_true rfl) (sqo 5) (fun us w hl h => ld_num hl h)
 ·exact q_addr (b := b1) (off := 0) (off' := 0) hp (free_of rfl) trivial (sqo 2) (fun ρ w h => by simp [execOp, go_sem, h]) (fun _ => rfl)
 ·exact q_loadSt (off := 0) (l := 2) (fs := [.n A, .n B, .n M]) (gs := [.n A]) hp (free_of rfl) trivial (mq 3 rfl) (.inl rfl) rfl row_api_Int rfl (sqi 1) (fun v w h => st_num h)
 ·exact q_loadInt (off := 0) hp (free_of rfl) trivial (mq 2 rfl) (.inl rfl) (Nat.le_of_ble_eq_true rfl) (sqo 3) (fun us w hl h => ld_num hl h)
 ·exact q_call2 (F := (Fq.num A).P) (G := (Fq.num x).P) hp (free_of rfl) trivial (enq_R_Mul) (sqi 2) (sqi 3) (fun v v' w h h' => exK (RMulV h h') B7.out (by omega))
 ·exact q_call2 (F := (Fq.num (x * (x * x))).P) (G := (Fq.num (A * x)).P) hp (free_of rfl) trivial (enq_R_Add) (sqi 0) (sqi 4) (fun v v' w h h' => exK (RAddV h h') B8.out (by omega))
 ·exact q_addr (b := b1) (off := 0) (off' := 2) hp (free_of rfl) trivial (sqo 2) (fun ρ w h => by simp [execOp, go_sem, h]) (fun _ => rfl)
 ·exact q_loadSt (off := 2) (l := 2) (fs := [.n A, .n B, .n M]) (gs := [.n B]) hp (free_of rfl) trivial (mq 3 rfl) (.inl rfl) rfl row_api_Int rfl (sqi 6) (fun v w h => st_num h)
 ·exact q_call2 (F := (Fq.num ((x * (x * x)) + (A * x))).P) (G := (Fq.num B).P) hp (free_of rfl) trivial (enq_R_Add) (sqi 5) (sqi 7) (fun v v' w h h' => exK (RAddV h h') B9.out (by omega))
 ·exact q_addr (b := b1) (off := 0) (off' := 4) hp (free_of rfl) trivial (sqo 2) (fun ρ w h => by simp [execOp, go_sem, h]) (fun _ => rfl)
 ·exact q_loadSt (off := 4) (l := 2) (fs := [.n A, .n B, .n M]) (gs := [.n M]) hp (free_of rfl) trivial (mq 3 rfl) (.inl rfl) rfl row_api_Int rfl (sqi 9) (fun v w h => st_num h)
 ·exact q_call2 (F := (Fq.num (((x * (x * x)) + (A * x)) + B)).P) (G := (Fq.num M).P) hp (free_of rfl) trivial (enq_R_Mod) (sqi 8) (sqi 10) (fun v v' w h h' => exK (RModV h h' (Int.lt_of_lt_of_le B9.out (pw_le (by omega))) (Int.lt_of_lt_of_le hM.out (pw_le (by omega))) (by have := h0.out; omega)) (k := 5) (ab_mod' h0.out hM.out) (by omega))
 ·exact q_storeOldInt hp (mq 1 rfl) rfl rfl (sqo 4) (sq_in 11 rfl rfl (by simp) rfl (fun v w h => intV_num h)) (fun _ _ => trivial) (newik_ne rfl)
 intro L vs w11 nb hL hC hn E11
 have e1 : vs 1 = .pointer (some ⟨b1, 0, none⟩) := hC 1 (by simp)
 have e6 : vs 6 = .pointer (some ⟨b1, 2, none⟩) := hC 6 (by simp)
 have e9 : vs 9 = .pointer (some ⟨b1, 4, none⟩) := hC 9 (by simp)
 have E : Fr w [(b6_5, 2, Fq.num (x * (x * x))), (b3, 2, Fq.num ((((x * (x * x)) + (A * x)) + B) % M)), (b2, 2, Fq.num x), (b1, 6, Fq.st [.n A, .n B, .n M])] w11 := E11
 rw [lay_all hL]
 simp only [putAll, dstOf, List.length_cons, List.length_nil, Nat.zero_add, Nat.reduceAdd, List.getElem?_toArray, List.getElem?_cons_zero, List.getElem?_cons_succ, Option.bind_some, Act.put, List.setIfInBounds_toArray, List.set_cons_succ, List.set_cons_zero]
 rw [e1, e6, e9]
 generalize vs 0 = u11_0
 generalize vs 2 = u11_2
 generalize vs 3 = u11_3
 generalize vs 4 = u11_4
 generalize vs 5 = u11_5
 generalize vs 7 = u11_7
 generalize vs 8 = u11_8
 generalize vs 10 = u11_10
 generalize vs 11 = u11_11
 clear e1 e6 e9 hC hn E11 hL vs L nb
 clear h0
 obtain ⟨p0_0, p0_1, c0_0, c0_1, hP0⟩ := box_num (E.box 1 rfl)
 clear B4 B5 B7 B8 B9 B10 hM hA hB hx
 go_wp2
 refine bodyPost_ret (v := .agg #[p0_0, p0_1]) ?_ rfl ⟨_, rfl, E.below, hP0⟩
 simp [results, Try.results33, go_sem, c0_0, c0_1]

end Go.Proofs.Ytpkeeacdkkmknaa

namespace Go.Proofs.Ytpkeeacdkkmknaa
open Go Go.RowKit

def Fm.lst (zs : List Int) (e : Int) : Fm := ⟨fun v w => ∃ l, v = .tuple #[l, .int .i64 e] ∧ Nums w l zs, fun ⟨l, h1, h2⟩ hb => ⟨l, h1, h2.mono hb⟩⟩
def Fm.agg (zs : List Int) (e : Int) : Fm := ⟨fun v w => ∃ l, v = .agg #[l, .int .i64 e] ∧ Nums w l zs, fun ⟨l, h1, h2⟩ hb => ⟨l, h1, h2.mono hb⟩⟩
section
variable {os : List Oper} {Q : Exit → Act → World → Prop} {a : Act} {p : Plan} {B B0 : Nat} {w0 : World}
end

section
variable {os : List Oper} {Q : Exit → Act → World → Prop} {a : Act} {p : Plan} {B B0 : Nat} {w0 : World}
variable {i s : Nat} {d : Option Tmp} {ty : TypeId} {ps : String} {af : Array Edge} {gd : Option (Nat × Bool)}
end

set_option maxHeartbeats 1000000 in
theorem made_new (w : World) (neg : Bool) (ax : Option Addr) (n c : Nat) (xs : List Int) (hX : Sl w ax n c xs) (hb : n ≤ 4000000) :
  Calls Try.prog 38 #[.bool neg, .slice ax n c] w (GivesAt w ax (sgn neg (val xs))) := by
 obtain ⟨w0, hw0, hC, hCb⟩ : ∃ w0, w0 = w.alloc (.cells #[.bool false, .slice none 0 0] 29) ∧ IntBox w0 w.heap.size (.bool false) (.slice none 0 0) ∧ Below w.heap.size w w0 := ⟨_, rfl, box1 _ _, alloc_below _ _⟩
 go_enter Try.func38, Try.ntmps38
 go_wp2_with fail
 rw [← hw0]
 clear hw0
 refine (rtrim_any _ _ _ _ _ (hX.mono hCb) (by omega)).mono ?_
 rintro e w' ⟨m, rfl, hm, hsm, hvm, hcm, rfl⟩
 have hml := hsm.len
 have hz := hcm.zero
 rw [hml, hvm] at hz
 have HVM := hidd hvm
 clear hvm hml
 obtain ⟨e0, e1, e2, e3⟩ := hC
 by_cases hm0 : m = 0
 ·have HV : Hid (sgn neg (val xs) = 0) := sgn_zero neg (hz.1 hm0)
  clear hz
  subst hm0
  go_wp2
  refine bodyPost_ret (v := .agg #[.bool false, .slice none 0 0]) ?_ rfl ?_
  ·simp [results, Try.results38, go_sem, e0, e1]
  ·exact ⟨false, none, 0, 0, [], rfl, .inl rfl, Sl.nil _, ⟨fun _ hx => by simp at hx, .inl rfl⟩, by simp, by rw [HV.out]; rfl, (hCb.setCell (Nat.le_refl _) _).setCell (Nat.le_refl _) _⟩
 ·have hm1 : ((m : Int) == 0) = false := by simp; omega
  clear hz
  go_wp2
  refine bodyPost_ret (v := .agg #[.bool neg, .slice ax m c]) ?_ rfl ?_
  ·simp [results, Try.results38, go_sem, e0, e1]
  ·have h1 : (w0.setCell ⟨w.heap.size, 0, none⟩ (.bool neg)).cell? ⟨w.heap.size, 1, none⟩ = some (.slice none 0 0) := by
    rw [World.cell?_setCell_other _ _ _ _ (by intro e; cases e)]; exact e1
   exact ⟨neg, ax, m, c, _, rfl, .inr rfl, (hsm.setOther e0 (by intro q e; cases e) _).setOther h1 (by intro q e; cases e) _, hcm, fun _ => hm0, by rw [HVM.out], (hCb.setCell (Nat.le_refl _) _).setCell (Nat.le_refl _) _⟩

set_option maxHeartbeats 1000000 in
theorem rOfNew (w : World) (z : Int) (h0 : 0 ≤ z) (h1 : z ≤ 9223372036854775807) :
  Calls Try.prog 25 #[.int .i64 z] w fun e w' => ∃ ng ao n c, e = .returned (.agg #[.bool ng, .slice ao n c]) ∧ (∀ a, ao = some a → w.heap.size ≤ a.block) ∧ Num w' (.agg #[.bool ng, .slice ao n c]) z ∧ Below w.heap.size w w' := by
 obtain ⟨w0, hw0, hC, hCb⟩ : ∃ w0, w0 = w.alloc (.cells #[.bool false, .slice none 0 0] 29) ∧ IntBox w0 w.heap.size (.bool false) (.slice none 0 0) ∧ Below w.heap.size w w0 := ⟨_, rfl, box1 _ _, alloc_below _ _⟩
 have hz : ¬ z < 0 := by omega
 have hab := fun o => alloc_below w0 o
 have hq : IntKind.u64.wrap z = z := by rw [u64_wrap]; omega
 obtain ⟨hs, hv⟩ := halves_sl w0 82 rfl z (by omega) (by omega)
 have hsz : Hid (w.heap.size ≤ w0.heap.size) := hCb.size
 go_enter Try.func25, Try.ntmps25
 go_upto_region 1 with (fail)
 rw [← hw0]
 clear hw0
 go_wp2_with fail
 refine (made_new _ _ _ _ _ _ hs (by omega)).mono ?_
 rintro e w3 ⟨ng, ao, nn, cc, rs, rfl, hao, hrs, hrc, hrn, hrz, hb3⟩
 obtain ⟨e0, e1, e2, e3⟩ := (hC.mono (hab _) hC.lt).mono hb3 (Nat.lt_of_lt_of_le hC.lt (hab _).size)
 have HZ : Hid (z = sgn ng (val rs)) := by
  show _ = _
  rw [← hrz, hv.out]; simp [sgn]
 have HA : Hid (∀ a, ao = some a → w.heap.size ≤ a.block) := by
  show ∀ a, _
  rintro a rfl
  rcases hao with h | h
  ·cases h
  ·injection h with h
   rw [h]
   exact hsz.out
 have hb4 : Below w.heap.size w w3 := (hCb.trans ((hab _).mono hCb.size)).trans (hb3.mono (Nat.le_trans hCb.size (hab _).size))
 clear hrz hv hC hq hao
 go_wp2
 refine bodyPost_ret (v := .agg #[.bool ng, .slice ao nn cc]) ?_ rfl ?_
 ·simp [results, Try.results25, go_sem, e0, e1]
 ·obtain ⟨v, he, hI, hB⟩ := gives_store ⟨e0, e1, e2, e3⟩ hrs hrc hrn HZ.out hb4 (Nat.le_refl _)
  injection he with he
  subst he
  exact ⟨ng, ao, nn, cc, rfl, HA.out, num_of hI (k := 2) (by have e : pw 2 = 18446744073709551616 := rfl; rw [e]; unfold ab; omega) (by omega), hB⟩
end Go.Proofs.Ytpkeeacdkkmknaa

namespace Go.Proofs.Ytpkeeacdkkmknaa
open Go Go.RowKit

end Go.Proofs.Ytpkeeacdkkmknaa

namespace Go.Proofs.Ytpkeeacdkkmknaa
open Go Go.RowKit

section
variable {os : List Oper} {Q : Exit → Act → World → Prop} {a : Act} {p : Pq} {B B0 : Nat} {w0 : World}
variable {i s : Nat} {d : Option Tmp} {ty : TypeId} {ps : String} {af : Array Edge} {gd : Option (Nat × Bool)}
end
end Go.Proofs.Ytpkeeacdkkmknaa

namespace Go.Proofs.Ytpkeeacdkkmknaa
open Go Go.RowKit

theorem enq_R_word (args : Array Value) (w : World) : (callFunc 54 args).run Try.prog w = .ok (.enter 54 args) w := enter_of Try.func54 (by kernel_rfl) rfl args w
theorem enq_R_Low (args : Array Value) (w : World) : (callFunc 32 args).run Try.prog w = .ok (.enter 32 args) w := enter_of Try.func32 (by kernel_rfl) rfl args w
theorem ld_rawS {n : Bool} {a : Option Addr} {k c : Nat} {xs : List Int} {us : List Value} {w : World} (hl : us.length = 2) (h : (Fq.raw n a k c xs).P (.agg us.toArray) w) : us.getD 1 undef = .slice a k c := by
 match us, hl with
 | [p, q], _ =>
  obtain ⟨e, h1⟩ := h
  injection e with e
  have e2 := congrArg Array.toList e
  simp at e2
  simp [e2]
theorem box_raw1 {w : World} {b : Nat} {n : Bool} {a : Option Addr} {k c : Nat} {xs : List Int} (h : Bq w b 2 (Fq.raw n a k c xs)) : w.cell? ⟨b, 0, none⟩ = some (.bool n) ∧ w.cell? ⟨b, 1, none⟩ = some (.slice a k c) := by
 obtain ⟨us, hl, _, hat, _, hP⟩ := h
 obtain ⟨e, _⟩ := hP
 injection e with e
 have e2 := congrArg Array.toList e
 simp at e2
 subst e2
 exact ⟨(hat 0 (by simp)).1, (hat 1 (by simp)).1⟩
theorem exRWord0 {w : World} {ax : Option Addr} {n c : Nat} {xs : List Int} (hX : Sl w ax n c xs) (hb : n ≤ 2) : Calls Try.prog 54 #[.slice ax n c, .int .i64 0] w fun e w' => ∃ v', e = .returned v' ∧ Below w.heap.size w w' ∧ v' = .int .u64 (xs.getD 0 0) :=
 (word_any w ax n c xs hX (by omega) 0 (by omega) _ rfl).mono fun e w' ⟨h1, h2⟩ => ⟨_, h1, by rw [← h2]; exact Below.refl _ _, rfl⟩
theorem exRWord1 {w : World} {ax : Option Addr} {n c : Nat} {xs : List Int} (hX : Sl w ax n c xs) (hb : n ≤ 2) : Calls Try.prog 54 #[.slice ax n c, .int .i64 1] w fun e w' => ∃ v', e = .returned v' ∧ Below w.heap.size w w' ∧ v' = .int .u64 (xs.getD 1 0) :=
 (word_any w ax n c xs hX (by omega) 1 (by omega) _ rfl).mono fun e w' ⟨h1, h2⟩ => ⟨_, h1, by rw [← h2]; exact Below.refl _ _, rfl⟩
theorem val_xy {xs : List Int} (h : xs.length ≤ 2) : val xs = xs.getD 0 0 + xs.getD 1 0 * 4294967296 := by
 match xs, h with
 | [], _ => rfl
 | [x], _ => simp [val]
 | [x, y], _ => simp [val]; omega
theorem low_parts {w : World} {v : Value} {z : Int} (h : Num w v z) (h0 : 0 ≤ z) (h1 : z ≤ 9223372036854775807) : ∃ ao n c xs, v = .agg #[.bool false, .slice ao n c] ∧ Sl w ao n c xs ∧ n ≤ 2 ∧ z = xs.getD 0 0 + xs.getD 1 0 * 4294967296 ∧ 0 ≤ xs.getD 0 0 ∧ xs.getD 0 0 < 4294967296 ∧ 0 ≤ xs.getD 1 0 ∧ xs.getD 1 0 < 4294967296 := by
 have hp : pw 2 = 18446744073709551616 := by decide
 obtain ⟨neg, ao, n, c, xs, hv, hs, hn, hz, hc, hnn⟩ := h
 have hz0 := val_nonneg hs.digs
 have hv2 : val xs < pw 2 := by
  rw [hp]
  cases neg <;> simp [sgn] at hz <;> omega
 have hl := hc.length_le hv2
 rw [hs.len] at hl
 have hneg : neg = false := by
  cases neg with
  | false => rfl
  | true =>
   have e0 : val xs = 0 := by simp [sgn] at hz; omega
   have e1 := hc.zero
   rw [hs.len] at e1
   exact absurd (e1.2 e0) (hnn rfl)
 subst hneg
 have g0 := hs.digs.getD 0
 have g1 := hs.digs.getD 1
 refine ⟨ao, n, c, xs, hv, hs, hl, ?_, g0.1, g0.2, g1.1, g1.2⟩
 rw [← val_xy (by rw [hs.len]; exact hl)]
 simpa [sgn] using hz

set_option maxRecDepth 100000 in
set_option maxHeartbeats 4000000 in
theorem exRLow {w : World} {v : Value} {z : Int} (h : Num w v z) (h0 : 0 ≤ z) (h1 : z ≤ 9223372036854775807) :
  Calls Try.prog 32 #[v] w fun e w' => ∃ v', e = .returned v' ∧ Below w.heap.size w w' ∧ (Fq.tup2 (Fq.is (.int .i64 z)) (Fq.is (.bool true))).P v' w' := by
 obtain ⟨ao, n, c, xs, rfl, hs, hn, hz, hx0, hx1, hy0, hy1⟩ := low_parts h h0 h1
 obtain ⟨x, hx⟩ : ∃ x, x = xs.getD 0 0 := ⟨_, rfl⟩
 obtain ⟨y, hy⟩ : ∃ y, y = xs.getD 1 0 := ⟨_, rfl⟩
 rw [← hx, ← hy] at hz
 rw [← hx] at hx0 hx1
 rw [← hy] at hy0 hy1
 have HX := hidd hx
 have HY := hidd hy
 have HS := hidd hs
 have HN := hidd hn
 have HZ := hidd hz
 have SH : Hid (IntKind.u64.wrap (y * 4294967296) = y * 4294967296) := by show _ = _; rw [u64_wrap]; omega
 have OR : Hid (bits .or .u64 x (y * 4294967296) = z) := by show _ = _; rw [(or_halves x y hx0 hx1 hy0 hy1).1]; exact hz.symm
 have H0 := hidd h0
 have H1 := hidd h1
 clear hx hy hn hz hx0 hx1 hy0 hy1 h0 h1 h
 obtain ⟨w1, b1, hw1, hb1, hs1, E⟩ := fr_start w (F := Fq.raw false ao n c xs) (us := [.bool false, .slice ao n c]) 29 rfl (by simp) (tame_int _ _ _ _) (show (Fq.raw false ao n c xs).P _ w from ⟨rfl, hs⟩)
 go_enter Try.func32, Try.ntmps32
 go_upto_region 1 with (fail)
 rw [← hw1]
 rw [← hb1]
 clear hw1 hb1 hs1
 clear hs
 refine region_fr (C := [Fq.is (.pointer (some ⟨b1, 1, none⟩)), Fq.is (.slice ao n c), Fq.is (.int .u64 x), Fq.is (.pointer (some ⟨b1, 1, none⟩)), Fq.is (.slice ao n c), Fq.is (.int .u64 y), Fq.is (.int .u64 (y * 4294967296)), Fq.is (.int .u64 z), Fq.is (.int .u64 z)]) (ks := [none]) (new := []) E rfl (by kernel_rfl) rfl rfl (fun hp => ⟨?_, ?_, ?_, ?_, ?_, ?_, ?_, ?_, ?_, trivial⟩) ?_
 ·exact q_addr (b := b1) (off := 0) (off' := 1) hp (free_of rfl) trivial (sqo 1) (fun ρ w h => by simp [execOp, go_sem, h]) (fun _ => rfl)
 ·exact q_loadSl (off := 1) (v := .slice ao n c) hp (free_of rfl) trivial (mq 0 rfl) (.inl rfl) (Nat.le_of_ble_eq_true rfl) (sqi 0) (fun us w hl h => ⟨ld_rawS hl h, rfl⟩)
 ·exact q_call2W (F := (Fq.is (.slice ao n c)).P) (G := (Fq.is (.int .i64 0)).P) hp (free_of rfl) trivial (enq_R_word) rfl (sqi 1) (sq_const (fun _ => rfl)) (fun v v' w hbw h h' => (by subst h; subst h'; rw [HX.out]; exact exRWord0 (HS.out.mono hbw) HN.out))
 ·exact q_addr (b := b1) (off := 0) (off' := 1) hp (free_of rfl) trivial (sqo 1) (fun ρ w h => by simp [execOp, go_sem, h]) (fun _ => rfl)
 ·exact q_loadSl (off := 1) (v := .slice ao n c) hp (free_of rfl) trivial (mq 0 rfl) (.inl rfl) (Nat.le_of_ble_eq_true rfl) (sqi 3) (fun us w hl h => ⟨ld_rawS hl h, rfl⟩)
 ·exact q_call2W (F := (Fq.is (.slice ao n c)).P) (G := (Fq.is (.int .i64 1)).P) hp (free_of rfl) trivial (enq_R_word) rfl (sqi 4) (sq_const (fun _ => rfl)) (fun v v' w hbw h h' => (by subst h; subst h'; rw [HY.out]; exact exRWord1 (HS.out.mono hbw) HN.out))
 ·exact q_one (F := fun v _ => v = .int .u64 y) hp (free_of rfl) trivial (sqi 5) (fun ρ w hc h => ⟨.int .u64 (y * 4294967296), by simp [execOp, go_sem, h, hc, SH.out], rfl⟩)
 ·exact q_two (F := fun v _ => v = .int .u64 x) (G := fun v _ => v = .int .u64 (y * 4294967296)) hp (free_of rfl) trivial (sqi 2) (sqi 6) (fun ρ w hc h h' => ⟨.int .u64 z, by simp [execOp, go_sem, h, h', OR.out], rfl⟩)
 ·exact q_assign hp (free_of rfl) trivial (sqi 7)
 intro L vs w2 nb hL hC hn E2
 have e0 : vs 0 = .pointer (some ⟨b1, 1, none⟩) := hC 0 (by simp)
 have e1 : vs 1 = .slice ao n c := hC 1 (by simp)
 have e2 : vs 2 = .int .u64 x := hC 2 (by simp)
 have e3 : vs 3 = .pointer (some ⟨b1, 1, none⟩) := hC 3 (by simp)
 have e4 : vs 4 = .slice ao n c := hC 4 (by simp)
 have e5 : vs 5 = .int .u64 y := hC 5 (by simp)
 have e6 : vs 6 = .int .u64 (y * 4294967296) := hC 6 (by simp)
 have e7 : vs 7 = .int .u64 z := hC 7 (by simp)
 have e8 : vs 8 = .int .u64 z := hC 8 (by simp)
 have E : Fr w [(b1, 2, Fq.raw false ao n c xs)] w2 := E2
 rw [lay_all hL]
 simp only [putAll, dstOf, List.length_cons, List.length_nil, Nat.zero_add, Nat.reduceAdd, List.getElem?_toArray, List.getElem?_cons_zero, List.getElem?_cons_succ, Option.bind_some, Act.put, List.setIfInBounds_toArray, List.set_cons_succ, List.set_cons_zero]
 rw [e0, e1, e2, e3, e4, e5, e6, e7, e8]
 clear e0 e1 e2 e3 e4 e5 e6 e7 e8 hC hn E2 hL vs L nb
 obtain ⟨c0, c1⟩ := box_raw1 (E.box 0 rfl)
 have t1 : decide ((n : Int) > 2) = false := by have := HN.out; simp; omega
 have t2 : decide (z > 9223372036854775808) = false := by have := H1.out; simp; omega
 have t3 : (z == 9223372036854775808) = false := by have := H1.out; simp; omega
 have t4 : IntKind.i64.wrap z = z := IntWalk.i64_in _ (by have := H1.out; have := H0.out; omega)
 clear HX HY HS HN HZ SH OR H0 H1
 go_wp2
 refine bodyPost_ret (v := .tuple #[.int .i64 z, .bool true]) ?_ rfl ⟨_, rfl, E.below, _, _, rfl, rfl, rfl⟩
 simp [results, Try.results32, go_sem]

end Go.Proofs.Ytpkeeacdkkmknaa

namespace Go.Proofs.Ytpkeeacdkkmknaa
open Go Go.RowKit

def invC (D M : Int) : Option Nat := (List.range M.toNat).find? fun u => decide ((D * (u : Int)) % M = 1 % M)
def finC (M x1 y1 x2 N D : Int) : Pt × Int := if D = 0 then (⟨0, 0, true⟩, 0) else match invC D M with
 | some u => (⟨((N * u) % M * ((N * u) % M) - (x1 + x2)) % M, ((N * u) % M * (x1 - ((N * u) % M * ((N * u) % M) - (x1 + x2)) % M) - y1) % M, false⟩, 0)
 | none => (⟨0, 0, false⟩, (Int.gcd D M : Int))
theorem finC_eq {M x1 y1 x2 N D : Int} (hM : 0 < M) : finP M x1 y1 x2 N D = finC M x1 y1 x2 N D := by
 unfold finP finC
 by_cases h0 : D = 0
 ·rw [if_pos h0, if_pos h0]
 ·rw [if_neg h0, if_neg h0]
  cases hi : invC D M with
  | some u =>
   have h1 := List.find?_some hi
   have h2 := List.mem_of_find?_eq_some hi
   simp only [decide_eq_true_eq] at h1
   simp only [List.mem_range] at h2
   obtain ⟨h3, h4⟩ := inv_uniq hM (show (0 : Int) ≤ (u : Int) by omega) (show (u : Int) < M by omega) h1
   rw [if_pos h3]
   simp only [finX, finY, ← h4]
  | none =>
   have h1 := List.find?_eq_none.1 hi
   have h3 : ¬ Int.gcd D M = 1 := by
    intro h
    have h4 := bez_inv hM h
    have h5 := bez_spec (a := D) hM
    have h6 := bez_lt (a := D) hM
    refine h1 (bezU D M).toNat (by simp only [List.mem_range]; omega) ?_
    rw [show ((bezU D M).toNat : Int) = bezU D M by omega]
    exact decide_eq_true h4
   rw [if_neg h3]
def sumC (A M : Int) (P Q : Pt) : Pt × Int := if P.i then (Q, 0) else if Q.i then (P, 0) else finC M P.x P.y Q.x (slN A P.x P.y Q.x Q.y) (slD M P.x P.y Q.x Q.y)
theorem sumC_eq {A M : Int} {P Q : Pt} (hM : 0 < M) : sumP A M P Q = sumC A M P Q := by
 unfold sumP sumC
 rw [finC_eq hM]
def stepC (A M : Int) (P : Pt) (R : Pt × Int) (b : Bool) : Pt × Int := if R.2 = 0 then (if (sumC A M R.1 R.1).2 = 0 then (if b then sumC A M (sumC A M R.1 R.1).1 P else sumC A M R.1 R.1) else sumC A M R.1 R.1) else R
def mulC (A M : Int) (P : Pt) : Nat → Nat → Pt × Int
 | 0, _ => (⟨0, 0, true⟩, 0)
 | k + 1, m => stepC A M P (mulC A M P k (m / 2)) (decide (m % 2 = 1))
theorem mulC_eq {A M : Int} {P : Pt} (hM : 0 < M) : ∀ k m, mulP A M P k m = mulC A M P k m
 | 0, _ => rfl
 | k + 1, m => by
  rw [mulP, mulC, mulC_eq hM k, stepP, stepC]
  simp only [sumC_eq hM]
def addC (A B M : Int) (P Q : Pt) : Pt × Int × Int := if onB A B M P.x P.y P.i = true then (if onB A B M Q.x Q.y Q.i = true then (if (sumC A M P Q).2 = 0 then ((sumC A M P Q).1, 0, 0) else (⟨0, 0, false⟩, (sumC A M P Q).2, 6)) else (⟨0, 0, false⟩, 0, 1)) else (⟨0, 0, false⟩, 0, 1)
theorem addC_eq {A B M : Int} {P Q : Pt} (hM : 0 < M) : addS A B M P Q = addC A B M P Q := by
 unfold addS addC
 simp only [sumC_eq hM]
theorem timesC_eq {A B M : Int} {P : Pt} {k m : Nat} {n : Int} (hM : 0 < M) (hn : ¬ n < 0) (hk : nbits n = k) (hm : n.natAbs = m) (h : onB A B M P.x P.y P.i = true) {R : Pt × Int} (hR : mulC A M P k m = R) (h0 : R.2 = 0) : timesS A B M n P = (R.1, 0, 0) := by
 have e : timesP A M P n = R := by
  unfold timesP xjP
  rw [if_neg hn, hk, hm, Nat.sub_zero, Nat.pow_zero, Nat.div_one, mulC_eq hM, hR]
 unfold timesS
 rw [if_pos h, e, if_pos h0]
theorem ex6_two : addS 1 1 5 ⟨0, 1, false⟩ ⟨0, 1, false⟩ = (⟨4, 2, false⟩, 0, 0) := by rw [addC_eq (by decide)]; kernel_rfl
theorem ex6_none : addS 1 1 35 ⟨0, 1, false⟩ ⟨7, 6, false⟩ = (⟨0, 0, false⟩, 7, 6) := by rw [addC_eq (by decide)]; kernel_rfl
theorem ex6_bad : addS 1 1 5 ⟨1, 1, false⟩ ⟨0, 1, false⟩ = (⟨0, 0, false⟩, 0, 1) := by rw [addC_eq (by decide)]; kernel_rfl
theorem nbits_three : nbits 3 = 2 := by kernel_rfl
theorem nbits_nine : nbits 9 = 4 := by kernel_rfl
theorem ex6_three : timesS 1 1 5 3 ⟨0, 1, false⟩ = (⟨2, 1, false⟩, 0, 0) := timesC_eq (R := (⟨2, 1, false⟩, 0)) (by decide) (by decide) nbits_three rfl (by decide) (by kernel_rfl) rfl
theorem ex6_nine : timesS 1 1 5 9 ⟨0, 1, false⟩ = (⟨0, 0, true⟩, 0, 0) := timesC_eq (R := (⟨0, 0, true⟩, 0)) (by decide) (by decide) nbits_nine rfl (by decide) (by kernel_rfl) rfl
theorem lit5 {z : Int} (h : ab z < 4294967296 * 4294967296 * 4294967296) : ab z < pw 5 := Int.lt_of_lt_of_le (ab_lit h) (pw_le (by omega))
set_option maxRecDepth 100000 in
set_option maxHeartbeats 4000000 in
theorem exSixExamples (w : World) :
  Calls Try.prog 7 #[] w fun e w' => ∃ v', e = .returned v' ∧ Below w.heap.size w w' ∧ v' = .bool true := by
 have E := Fr.start w
 go_enter Try.func7, Try.ntmps7
 go_upto_region 1 with (fail)
 have B1 : Hid (ab ((1)) < pw 3) := ab_lit (by decide)
 have B2 : Hid (ab ((5)) < pw 3) := ab_lit (by decide)
 refine region_fr (C := [Fq.num (1), Fq.num (1), Fq.num (5), Fq.st [.n (1), .n (1), .n (5)], Fq.any, Fq.any]) (ks := []) (new := [⟨4, 5, 6, Fq.st [.n 0, .n 0, .n 0], Fq.st [.n (1), .n (1), .n (5)], none⟩]) E rfl (by kernel_rfl) rfl rfl (fun hp => ⟨?_, ?_, ?_, ?_, ?_, ?_, trivial⟩) ?_
 ·exact q_call1 (F := (Fq.is (.int .i64 1)).P) hp (free_of rfl) trivial (enq_R_Of) (sq_const (fun _ => rfl)) (fun v w h => (by subst h; exact rOfK w (1) (by omega) (by omega)))
 ·exact q_call1 (F := (Fq.is (.int .i64 1)).P) hp (free_of rfl) trivial (enq_R_Of) (sq_const (fun _ => rfl)) (fun v w h => (by subst h; exact rOfK w (1) (by omega) (by omega)))
 ·exact q_call1 (F := (Fq.is (.int .i64 5)).P) hp (free_of rfl) trivial (enq_R_Of) (sq_const (fun _ => rfl)) (fun v w h => (by subst h; exact rOfK w (5) (by omega) (by omega)))
 ·exact q_build_api_Mod_012 (z0 := (1)) (z1 := (1)) (z2 := (5)) hp (free_of rfl) trivial (sqi 0) (sqi 1) (sqi 2) (fun v w h => h)
 ·exact q_allocSt (us := [.bool false, .slice none 0 0, .bool false, .slice none 0 0, .bool false, .slice none 0 0]) (fs := [.n 0, .n 0, .n 0]) hp (mq 0 rfl) rfl rfl rfl (Nat.lt_of_sub_eq_succ rfl) rfl fits0_api_Mod (fun ρ w => ralloc_api_Mod ρ w) rfl (Nat.ne_of_beq_eq_false rfl) (fun _ _ => trivial) (old_ne rfl) (newk_ne rfl)
 ·exact q_storeNewSt (fs := [.n 0, .n 0, .n 0]) (gs := [.n (1), .n (1), .n (5)]) hp (mq 0 rfl) rfl rfl rfl rfl size_api_Mod rfl (own_ptr rfl rfl (by simp) rfl) (sq_in 3 rfl rfl (by simp) rfl (fun v w h => fitv_st h)) (fun _ _ => trivial) (old_ne rfl) (newi_ne rfl)
 intro L vs w3 nb hL hC hn E3
 have e4 : vs 4 = .pointer (some ⟨nb 4, 0, none⟩) := hn _ (mq 0 rfl)
 have E : Fr w [(nb 4, 6, Fq.st [.n (1), .n (1), .n (5)])] w3 := E3
 rw [lay_all hL]
 simp only [putAll, dstOf, List.length_cons, List.length_nil, Nat.zero_add, Nat.reduceAdd, List.getElem?_toArray, List.getElem?_cons_zero, List.getElem?_cons_succ, Option.bind_some, Act.put, List.setIfInBounds_toArray, List.set_cons_succ, List.set_cons_zero]
 rw [e4]
 generalize nb 4 = b3_4 at E ⊢
 generalize vs 0 = u3_0
 generalize vs 1 = u3_1
 generalize vs 2 = u3_2
 generalize vs 3 = u3_3
 clear e4 hC hn E3 hL vs L nb
 go_upto_region 2 with (fail)
 have B4 : Hid (ab ((35)) < pw 3) := ab_lit (by decide)
 refine region_fr (C := [Fq.num (1), Fq.num (1), Fq.num (35), Fq.st [.n (1), .n (1), .n (35)], Fq.any, Fq.any]) (ks := [none]) (new := [⟨4, 5, 6, Fq.st [.n 0, .n 0, .n 0], Fq.st [.n (1), .n (1), .n (35)], none⟩]) E rfl (by kernel_rfl) rfl rfl (fun hp => ⟨?_, ?_, ?_, ?_, ?_, ?_, trivial⟩) ?_
 ·exact q_call1 (F := (Fq.is (.int .i64 1)).P) hp (free_of rfl) trivial (enq_R_Of) (sq_const (fun _ => rfl)) (fun v w h => (by subst h; exact rOfK w (1) (by omega) (by omega)))
 ·exact q_call1 (F := (Fq.is (.int .i64 1)).P) hp (free_of rfl) trivial (enq_R_Of) (sq_const (fun _ => rfl)) (fun v w h => (by subst h; exact rOfK w (1) (by omega) (by omega)))
 ·exact q_call1 (F := (Fq.is (.int .i64 35)).P) hp (free_of rfl) trivial (enq_R_Of) (sq_const (fun _ => rfl)) (fun v w h => (by subst h; exact rOfK w (35) (by omega) (by omega)))
 ·exact q_build_api_Mod_012 (z0 := (1)) (z1 := (1)) (z2 := (35)) hp (free_of rfl) trivial (sqi 0) (sqi 1) (sqi 2) (fun v w h => h)
 ·exact q_allocSt (us := [.bool false, .slice none 0 0, .bool false, .slice none 0 0, .bool false, .slice none 0 0]) (fs := [.n 0, .n 0, .n 0]) hp (mq 0 rfl) rfl rfl rfl (Nat.lt_of_sub_eq_succ rfl) rfl fits0_api_Mod (fun ρ w => ralloc_api_Mod ρ w) rfl (Nat.ne_of_beq_eq_false rfl) (fun _ _ => trivial) (old_ne rfl) (newk_ne rfl)
 ·exact q_storeNewSt (fs := [.n 0, .n 0, .n 0]) (gs := [.n (1), .n (1), .n (35)]) hp (mq 0 rfl) rfl rfl rfl rfl size_api_Mod rfl (own_ptr rfl rfl (by simp) rfl) (sq_in 3 rfl rfl (by simp) rfl (fun v w h => fitv_st h)) (fun _ _ => trivial) (old_ne rfl) (newi_ne rfl)
 intro L vs w5 nb hL hC hn E5
 have e4 : vs 4 = .pointer (some ⟨nb 4, 0, none⟩) := hn _ (mq 0 rfl)
 have E : Fr w [(nb 4, 6, Fq.st [.n (1), .n (1), .n (35)]), (b3_4, 6, Fq.st [.n (1), .n (1), .n (5)])] w5 := E5
 rw [lay_all hL]
 simp only [putAll, dstOf, List.length_cons, List.length_nil, Nat.zero_add, Nat.reduceAdd, List.getElem?_toArray, List.getElem?_cons_zero, List.getElem?_cons_succ, Option.bind_some, Act.put, List.setIfInBounds_toArray, List.set_cons_succ, List.set_cons_zero]
 rw [e4]
 generalize nb 4 = b5_4 at E ⊢
 generalize vs 0 = u5_0
 generalize vs 1 = u5_1
 generalize vs 2 = u5_2
 generalize vs 3 = u5_3
 clear e4 hC hn E5 hL vs L nb
 go_upto_region 3 with (fail)
 refine region_fr (C := [Fq.st [.n (0), .n (1), .v (.bool false)], Fq.any, Fq.any]) (ks := [none, none]) (new := [⟨1, 2, 5, Fq.st [.n 0, .n 0, .v (.bool false)], Fq.st [.n (0), .n (1), .v (.bool false)], none⟩]) E rfl (by kernel_rfl) rfl rfl (fun hp => ⟨?_, ?_, ?_, trivial⟩) ?_
 ·exact q_call2 (F := (Fq.is (.int .i64 0)).P) (G := (Fq.is (.int .i64 1)).P) hp (free_of rfl) trivial (enq_f_algorist_algoristlaw06_at) (sq_const (fun _ => rfl)) (sq_const (fun _ => rfl)) (fun v v' w h h' => (by subst h h'; exact exAt (x := 0) (y := 1) (by omega) (by omega)))
 ·exact q_allocSt (us := [.bool false, .slice none 0 0, .bool false, .slice none 0 0, .bool false]) (fs := [.n 0, .n 0, .v (.bool false)]) hp (mq 0 rfl) rfl rfl rfl (Nat.lt_of_sub_eq_succ rfl) rfl fits0_api_Point (fun ρ w => ralloc_api_Point ρ w) rfl (Nat.ne_of_beq_eq_false rfl) (fun _ _ => trivial) (old_ne rfl) (newk_ne rfl)
 ·exact q_storeNewSt (fs := [.n 0, .n 0, .v (.bool false)]) (gs := [.n (0), .n (1), .v (.bool false)]) hp (mq 0 rfl) rfl rfl rfl rfl size_api_Point rfl (own_ptr rfl rfl (by simp) rfl) (sq_in 0 rfl rfl (by simp) rfl (fun v w h => fitv_st h)) (fun _ _ => trivial) (old_ne rfl) (newi_ne rfl)
 intro L vs w6 nb hL hC hn E6
 have e1 : vs 1 = .pointer (some ⟨nb 1, 0, none⟩) := hn _ (mq 0 rfl)
 have E : Fr w [(nb 1, 5, Fq.st [.n (0), .n (1), .v (.bool false)]), (b5_4, 6, Fq.st [.n (1), .n (1), .n (35)]), (b3_4, 6, Fq.st [.n (1), .n (1), .n (5)])] w6 := E6
 rw [lay_all hL]
 simp only [putAll, dstOf, List.length_cons, List.length_nil, Nat.zero_add, Nat.reduceAdd, List.getElem?_toArray, List.getElem?_cons_zero, List.getElem?_cons_succ, Option.bind_some, Act.put, List.setIfInBounds_toArray, List.set_cons_succ, List.set_cons_zero]
 rw [e1]
 generalize nb 1 = b6_1 at E ⊢
 generalize vs 0 = u6_0
 clear e1 hC hn E6 hL vs L nb
 go_upto_region 4 with (fail)
 have B7 : Hid (ab ((3)) < pw 3) := ab_lit (by decide)
 have B8 : Hid (ab ((9)) < pw 3) := ab_lit (by decide)
 refine region_fr (C := [Fq.st [.n (1), .n (1), .n (5)], Fq.st [.n (0), .n (1), .v (.bool false)], Fq.st [.n (0), .n (1), .v (.bool false)], Fq.st [.n (4), .n (2), .v (.bool false), .n (0), .v (.int .i64 0)], Fq.st [.n (1), .n (1), .n (5)], Fq.num (3), Fq.st [.n (0), .n (1), .v (.bool false)], Fq.st [.n (2), .n (1), .v (.bool false), .n (0), .v (.int .i64 0)], Fq.st [.n (1), .n (1), .n (5)], Fq.num (9), Fq.st [.n (0), .n (1), .v (.bool false)], Fq.st [.n (0), .n (0), .v (.bool true), .n (0), .v (.int .i64 0)], Fq.any, Fq.any, Fq.any, Fq.any, Fq.any, Fq.any]) (ks := [none, none, none]) (new := [⟨12, 15, 8, Fq.st [.n 0, .n 0, .v (.bool false), .n 0, .v (.int .i64 0)], Fq.st [.n (4), .n (2), .v (.bool false), .n (0), .v (.int .i64 0)], none⟩, ⟨13, 16, 8, Fq.st [.n 0, .n 0, .v (.bool false), .n 0, .v (.int .i64 0)], Fq.st [.n (2), .n (1), .v (.bool false), .n (0), .v (.int .i64 0)], none⟩, ⟨14, 17, 8, Fq.st [.n 0, .n 0, .v (.bool false), .n 0, .v (.int .i64 0)], Fq.st [.n (0), .n (0), .v (.bool true), .n (0), .v (.int .i64 0)], none⟩]) E rfl (by kernel_rfl) rfl rfl (fun hp => ⟨?_, ?_, ?_, ?_, ?_, ?_, ?_, ?_, ?_, ?_, ?_, ?_, ?_, ?_, ?_, ?_, ?_, ?_, trivial⟩) ?_
 ·exact q_loadSt (off := 0) (l := 6) (fs := [.n (1), .n (1), .n (5)]) (gs := [.n (1), .n (1), .n (5)]) hp (free_of rfl) trivial (mq 2 rfl) (.inl rfl) rfl row_api_Mod rfl (sqo 1) (fun v w h => h)
 ·exact q_loadSt (off := 0) (l := 5) (fs := [.n (0), .n (1), .v (.bool false)]) (gs := [.n (0), .n (1), .v (.bool false)]) hp (free_of rfl) trivial (mq 0 rfl) (.inl rfl) rfl row_api_Point rfl (sqo 3) (fun v w h => h)
 ·exact q_loadSt (off := 0) (l := 5) (fs := [.n (0), .n (1), .v (.bool false)]) (gs := [.n (0), .n (1), .v (.bool false)]) hp (free_of rfl) trivial (mq 0 rfl) (.inl rfl) rfl row_api_Point rfl (sqo 3) (fun v w h => h)
 ·exact q_call3 (F := (Fq.st [.n (1), .n (1), .n (5)]).P) (G := (Fq.st [.n (0), .n (1), .v (.bool false)]).P) (F3 := (Fq.st [.n (0), .n (1), .v (.bool false)]).P) hp (free_of rfl) trivial (enq_f_algorist_algoristlaw06_add) (sqi 0) (sqi 1) (sqi 2) (fun v v' u w h h' g => exLAdd (P := ⟨(0), (1), false⟩) (Q := ⟨(0), (1), false⟩) (R := (⟨4, 2, false⟩, 0, 0)) h h' g (lit5 (by decide)) (lit5 (by decide)) (lit5 (by decide)) ⟨(lit5 (by decide)), (lit5 (by decide))⟩ ⟨(lit5 (by decide)), (lit5 (by decide))⟩ ex6_two)
 ·exact q_loadSt (off := 0) (l := 6) (fs := [.n (1), .n (1), .n (5)]) (gs := [.n (1), .n (1), .n (5)]) hp (free_of rfl) trivial (mq 2 rfl) (.inl rfl) rfl row_api_Mod rfl (sqo 1) (fun v w h => h)
 ·exact q_call1 (F := (Fq.is (.int .i64 3)).P) hp (free_of rfl) trivial (enq_R_Of) (sq_const (fun _ => rfl)) (fun v w h => (by subst h; exact rOfK w (3) (by omega) (by omega)))
 ·exact q_loadSt (off := 0) (l := 5) (fs := [.n (0), .n (1), .v (.bool false)]) (gs := [.n (0), .n (1), .v (.bool false)]) hp (free_of rfl) trivial (mq 0 rfl) (.inl rfl) rfl row_api_Point rfl (sqo 3) (fun v w h => h)
 ·exact q_call3 (F := (Fq.st [.n (1), .n (1), .n (5)]).P) (G := (Fq.num (3)).P) (F3 := (Fq.st [.n (0), .n (1), .v (.bool false)]).P) hp (free_of rfl) trivial (enq_f_algorist_algoristlaw06_times) (sqi 4) (sqi 5) (sqi 6) (fun v v' u w h h' g => exLTimes (P := ⟨(0), (1), false⟩) (R := (⟨2, 1, false⟩, 0, 0)) h h' g (lit5 (by decide)) (lit5 (by decide)) (lit5 (by decide)) (Int.lt_of_lt_of_le (lit5 (by decide)) (pw_le (by omega))) ⟨(lit5 (by decide)), (lit5 (by decide))⟩ ex6_three)
 ·exact q_loadSt (off := 0) (l := 6) (fs := [.n (1), .n (1), .n (5)]) (gs := [.n (1), .n (1), .n (5)]) hp (free_of rfl) trivial (mq 2 rfl) (.inl rfl) rfl row_api_Mod rfl (sqo 1) (fun v w h => h)
 ·exact q_call1 (F := (Fq.is (.int .i64 9)).P) hp (free_of rfl) trivial (enq_R_Of) (sq_const (fun _ => rfl)) (fun v w h => (by subst h; exact rOfK w (9) (by omega) (by omega)))
 ·exact q_loadSt (off := 0) (l := 5) (fs := [.n (0), .n (1), .v (.bool false)]) (gs := [.n (0), .n (1), .v (.bool false)]) hp (free_of rfl) trivial (mq 0 rfl) (.inl rfl) rfl row_api_Point rfl (sqo 3) (fun v w h => h)
 ·exact q_call3 (F := (Fq.st [.n (1), .n (1), .n (5)]).P) (G := (Fq.num (9)).P) (F3 := (Fq.st [.n (0), .n (1), .v (.bool false)]).P) hp (free_of rfl) trivial (enq_f_algorist_algoristlaw06_times) (sqi 8) (sqi 9) (sqi 10) (fun v v' u w h h' g => exLTimes (P := ⟨(0), (1), false⟩) (R := (⟨0, 0, true⟩, 0, 0)) h h' g (lit5 (by decide)) (lit5 (by decide)) (lit5 (by decide)) (Int.lt_of_lt_of_le (lit5 (by decide)) (pw_le (by omega))) ⟨(lit5 (by decide)), (lit5 (by decide))⟩ ex6_nine)
 ·exact q_allocSt (us := [.bool false, .slice none 0 0, .bool false, .slice none 0 0, .bool false, .bool false, .slice none 0 0, .int .i64 0]) (fs := [.n 0, .n 0, .v (.bool false), .n 0, .v (.int .i64 0)]) hp (mq 0 rfl) rfl rfl rfl (Nat.lt_of_sub_eq_succ rfl) rfl fits0_algoristref06_Sum (fun ρ w => ralloc_algoristref06_Sum ρ w) rfl (Nat.ne_of_beq_eq_false rfl) (fun _ _ => trivial) (old_ne rfl) (newk_ne rfl)
 ·exact q_allocSt (us := [.bool false, .slice none 0 0, .bool false, .slice none 0 0, .bool false, .bool false, .slice none 0 0, .int .i64 0]) (fs := [.n 0, .n 0, .v (.bool false), .n 0, .v (.int .i64 0)]) hp (mq 1 rfl) rfl rfl rfl (Nat.lt_of_sub_eq_succ rfl) rfl fits0_algoristref06_Sum (fun ρ w => ralloc_algoristref06_Sum ρ w) rfl (Nat.ne_of_beq_eq_false rfl) (fun _ _ => trivial) (old_ne rfl) (newk_ne rfl)
 ·exact q_allocSt (us := [.bool false, .slice none 0 0, .bool false, .slice none 0 0, .bool false, .bool false, .slice none 0 0, .int .i64 0]) (fs := [.n 0, .n 0, .v (.bool false), .n 0, .v (.int .i64 0)]) hp (mq 2 rfl) rfl rfl rfl (Nat.lt_of_sub_eq_succ rfl) rfl fits0_algoristref06_Sum (fun ρ w => ralloc_algoristref06_Sum ρ w) rfl (Nat.ne_of_beq_eq_false rfl) (fun _ _ => trivial) (old_ne rfl) (newk_ne rfl)
 ·exact q_storeNewSt (fs := [.n 0, .n 0, .v (.bool false), .n 0, .v (.int .i64 0)]) (gs := [.n (4), .n (2), .v (.bool false), .n (0), .v (.int .i64 0)]) hp (mq 0 rfl) rfl rfl rfl rfl size_algoristref06_Sum rfl (own_ptr rfl rfl (by simp) rfl) (sq_in 3 rfl rfl (by simp) rfl (fun v w h => fitv_st h)) (fun _ _ => trivial) (old_ne rfl) (newi_ne rfl)
 ·exact q_storeNewSt (fs := [.n 0, .n 0, .v (.bool false), .n 0, .v (.int .i64 0)]) (gs := [.n (2), .n (1), .v (.bool false), .n (0), .v (.int .i64 0)]) hp (mq 1 rfl) rfl rfl rfl rfl size_algoristref06_Sum rfl (own_ptr rfl rfl (by simp) rfl) (sq_in 7 rfl rfl (by simp) rfl (fun v w h => fitv_st h)) (fun _ _ => trivial) (old_ne rfl) (newi_ne rfl)
 ·exact q_storeNewSt (fs := [.n 0, .n 0, .v (.bool false), .n 0, .v (.int .i64 0)]) (gs := [.n (0), .n (0), .v (.bool true), .n (0), .v (.int .i64 0)]) hp (mq 2 rfl) rfl rfl rfl rfl size_algoristref06_Sum rfl (own_ptr rfl rfl (by simp) rfl) (sq_in 11 rfl rfl (by simp) rfl (fun v w h => fitv_st h)) (fun _ _ => trivial) (old_ne rfl) (newi_ne rfl)
 intro L vs w9 nb hL hC hn E9
 have e12 : vs 12 = .pointer (some ⟨nb 12, 0, none⟩) := hn _ (mq 0 rfl)
 have e13 : vs 13 = .pointer (some ⟨nb 13, 0, none⟩) := hn _ (mq 1 rfl)
 have e14 : vs 14 = .pointer (some ⟨nb 14, 0, none⟩) := hn _ (mq 2 rfl)
 have E : Fr w [(nb 12, 8, Fq.st [.n (4), .n (2), .v (.bool false), .n (0), .v (.int .i64 0)]), (nb 13, 8, Fq.st [.n (2), .n (1), .v (.bool false), .n (0), .v (.int .i64 0)]), (nb 14, 8, Fq.st [.n (0), .n (0), .v (.bool true), .n (0), .v (.int .i64 0)]), (b6_1, 5, Fq.st [.n (0), .n (1), .v (.bool false)]), (b5_4, 6, Fq.st [.n (1), .n (1), .n (35)]), (b3_4, 6, Fq.st [.n (1), .n (1), .n (5)])] w9 := E9
 rw [lay_all hL]
 simp only [putAll, dstOf, List.length_cons, List.length_nil, Nat.zero_add, Nat.reduceAdd, List.getElem?_toArray, List.getElem?_cons_zero, List.getElem?_cons_succ, Option.bind_some, Act.put, List.setIfInBounds_toArray, List.set_cons_succ, List.set_cons_zero]
 rw [e12, e13, e14]
 generalize nb 12 = b9_12 at E ⊢
 generalize nb 13 = b9_13 at E ⊢
 generalize nb 14 = b9_14 at E ⊢
 generalize vs 0 = u9_0
 generalize vs 1 = u9_1
 generalize vs 2 = u9_2
 generalize vs 3 = u9_3
 generalize vs 4 = u9_4
 generalize vs 5 = u9_5
 generalize vs 6 = u9_6
 generalize vs 7 = u9_7
 generalize vs 8 = u9_8
 generalize vs 9 = u9_9
 generalize vs 10 = u9_10
 generalize vs 11 = u9_11
 clear e12 e13 e14 hC hn E9 hL vs L nb
 go_upto_region 5 with (fail)
 refine region_fr (C := [Fq.st [.n (1), .n (1), .n (35)], Fq.st [.n (0), .n (1), .v (.bool false)], Fq.st [.n (7), .n (6), .v (.bool false)], Fq.st [.n (0), .n (0), .v (.bool false), .n (7), .v (.int .i64 6)], Fq.any, Fq.any]) (ks := [none, none, none, none, none, none]) (new := [⟨4, 5, 8, Fq.st [.n 0, .n 0, .v (.bool false), .n 0, .v (.int .i64 0)], Fq.st [.n (0), .n (0), .v (.bool false), .n (7), .v (.int .i64 6)], none⟩]) E rfl (by kernel_rfl) rfl rfl (fun hp => ⟨?_, ?_, ?_, ?_, ?_, ?_, trivial⟩) ?_
 ·exact q_loadSt (off := 0) (l := 6) (fs := [.n (1), .n (1), .n (35)]) (gs := [.n (1), .n (1), .n (35)]) hp (free_of rfl) trivial (mq 4 rfl) (.inl rfl) rfl row_api_Mod rfl (sqo 2) (fun v w h => h)
 ·exact q_loadSt (off := 0) (l := 5) (fs := [.n (0), .n (1), .v (.bool false)]) (gs := [.n (0), .n (1), .v (.bool false)]) hp (free_of rfl) trivial (mq 3 rfl) (.inl rfl) rfl row_api_Point rfl (sqo 3) (fun v w h => h)
 ·exact q_call2 (F := (Fq.is (.int .i64 7)).P) (G := (Fq.is (.int .i64 6)).P) hp (free_of rfl) trivial (enq_f_algorist_algoristlaw06_at) (sq_const (fun _ => rfl)) (sq_const (fun _ => rfl)) (fun v v' w h h' => (by subst h h'; exact exAt (x := 7) (y := 6) (by omega) (by omega)))
 ·exact q_call3 (F := (Fq.st [.n (1), .n (1), .n (35)]).P) (G := (Fq.st [.n (0), .n (1), .v (.bool false)]).P) (F3 := (Fq.st [.n (7), .n (6), .v (.bool false)]).P) hp (free_of rfl) trivial (enq_f_algorist_algoristlaw06_add) (sqi 0) (sqi 1) (sqi 2) (fun v v' u w h h' g => exLAdd (P := ⟨(0), (1), false⟩) (Q := ⟨(7), (6), false⟩) (R := (⟨0, 0, false⟩, 7, 6)) h h' g (lit5 (by decide)) (lit5 (by decide)) (lit5 (by decide)) ⟨(lit5 (by decide)), (lit5 (by decide))⟩ ⟨(lit5 (by decide)), (lit5 (by decide))⟩ ex6_none)
 ·exact q_allocSt (us := [.bool false, .slice none 0 0, .bool false, .slice none 0 0, .bool false, .bool false, .slice none 0 0, .int .i64 0]) (fs := [.n 0, .n 0, .v (.bool false), .n 0, .v (.int .i64 0)]) hp (mq 0 rfl) rfl rfl rfl (Nat.lt_of_sub_eq_succ rfl) rfl fits0_algoristref06_Sum (fun ρ w => ralloc_algoristref06_Sum ρ w) rfl (Nat.ne_of_beq_eq_false rfl) (fun _ _ => trivial) (old_ne rfl) (newk_ne rfl)
 ·exact q_storeNewSt (fs := [.n 0, .n 0, .v (.bool false), .n 0, .v (.int .i64 0)]) (gs := [.n (0), .n (0), .v (.bool false), .n (7), .v (.int .i64 6)]) hp (mq 0 rfl) rfl rfl rfl rfl size_algoristref06_Sum rfl (own_ptr rfl rfl (by simp) rfl) (sq_in 3 rfl rfl (by simp) rfl (fun v w h => fitv_st h)) (fun _ _ => trivial) (old_ne rfl) (newi_ne rfl)
 intro L vs w10 nb hL hC hn E10
 have e4 : vs 4 = .pointer (some ⟨nb 4, 0, none⟩) := hn _ (mq 0 rfl)
 have E : Fr w [(nb 4, 8, Fq.st [.n (0), .n (0), .v (.bool false), .n (7), .v (.int .i64 6)]), (b9_12, 8, Fq.st [.n (4), .n (2), .v (.bool false), .n (0), .v (.int .i64 0)]), (b9_13, 8, Fq.st [.n (2), .n (1), .v (.bool false), .n (0), .v (.int .i64 0)]), (b9_14, 8, Fq.st [.n (0), .n (0), .v (.bool true), .n (0), .v (.int .i64 0)]), (b6_1, 5, Fq.st [.n (0), .n (1), .v (.bool false)]), (b5_4, 6, Fq.st [.n (1), .n (1), .n (35)]), (b3_4, 6, Fq.st [.n (1), .n (1), .n (5)])] w10 := E10
 rw [lay_all hL]
 simp only [putAll, dstOf, List.length_cons, List.length_nil, Nat.zero_add, Nat.reduceAdd, List.getElem?_toArray, List.getElem?_cons_zero, List.getElem?_cons_succ, Option.bind_some, Act.put, List.setIfInBounds_toArray, List.set_cons_succ, List.set_cons_zero]
 rw [e4]
 generalize nb 4 = b10_4 at E ⊢
 generalize vs 0 = u10_0
 generalize vs 1 = u10_1
 generalize vs 2 = u10_2
 generalize vs 3 = u10_3
 clear e4 hC hn E10 hL vs L nb
 go_upto_region 6 with (fail)
 refine region_fr (C := [Fq.st [.n (1), .n (1), .n (5)], Fq.st [.n (1), .n (1), .v (.bool false)], Fq.st [.n (0), .n (1), .v (.bool false)], Fq.st [.n (0), .n (0), .v (.bool false), .n (0), .v (.int .i64 1)], Fq.any, Fq.any]) (ks := [none, none, none, none, none, none, none]) (new := [⟨4, 5, 8, Fq.st [.n 0, .n 0, .v (.bool false), .n 0, .v (.int .i64 0)], Fq.st [.n (0), .n (0), .v (.bool false), .n (0), .v (.int .i64 1)], none⟩]) E rfl (by kernel_rfl) rfl rfl (fun hp => ⟨?_, ?_, ?_, ?_, ?_, ?_, trivial⟩) ?_
 ·exact q_loadSt (off := 0) (l := 6) (fs := [.n (1), .n (1), .n (5)]) (gs := [.n (1), .n (1), .n (5)]) hp (free_of rfl) trivial (mq 6 rfl) (.inl rfl) rfl row_api_Mod rfl (sqo 1) (fun v w h => h)
 ·exact q_call2 (F := (Fq.is (.int .i64 1)).P) (G := (Fq.is (.int .i64 1)).P) hp (free_of rfl) trivial (enq_f_algorist_algoristlaw06_at) (sq_const (fun _ => rfl)) (sq_const (fun _ => rfl)) (fun v v' w h h' => (by subst h h'; exact exAt (x := 1) (y := 1) (by omega) (by omega)))
 ·exact q_loadSt (off := 0) (l := 5) (fs := [.n (0), .n (1), .v (.bool false)]) (gs := [.n (0), .n (1), .v (.bool false)]) hp (free_of rfl) trivial (mq 4 rfl) (.inl rfl) rfl row_api_Point rfl (sqo 3) (fun v w h => h)
 ·exact q_call3 (F := (Fq.st [.n (1), .n (1), .n (5)]).P) (G := (Fq.st [.n (1), .n (1), .v (.bool false)]).P) (F3 := (Fq.st [.n (0), .n (1), .v (.bool false)]).P) hp (free_of rfl) trivial (enq_f_algorist_algoristlaw06_add) (sqi 0) (sqi 1) (sqi 2) (fun v v' u w h h' g => exLAdd (P := ⟨(1), (1), false⟩) (Q := ⟨(0), (1), false⟩) (R := (⟨0, 0, false⟩, 0, 1)) h h' g (lit5 (by decide)) (lit5 (by decide)) (lit5 (by decide)) ⟨(lit5 (by decide)), (lit5 (by decide))⟩ ⟨(lit5 (by decide)), (lit5 (by decide))⟩ ex6_bad)
 ·exact q_allocSt (us := [.bool false, .slice none 0 0, .bool false, .slice none 0 0, .bool false, .bool false, .slice none 0 0, .int .i64 0]) (fs := [.n 0, .n 0, .v (.bool false), .n 0, .v (.int .i64 0)]) hp (mq 0 rfl) rfl rfl rfl (Nat.lt_of_sub_eq_succ rfl) rfl fits0_algoristref06_Sum (fun ρ w => ralloc_algoristref06_Sum ρ w) rfl (Nat.ne_of_beq_eq_false rfl) (fun _ _ => trivial) (old_ne rfl) (newk_ne rfl)
 ·exact q_storeNewSt (fs := [.n 0, .n 0, .v (.bool false), .n 0, .v (.int .i64 0)]) (gs := [.n (0), .n (0), .v (.bool false), .n (0), .v (.int .i64 1)]) hp (mq 0 rfl) rfl rfl rfl rfl size_algoristref06_Sum rfl (own_ptr rfl rfl (by simp) rfl) (sq_in 3 rfl rfl (by simp) rfl (fun v w h => fitv_st h)) (fun _ _ => trivial) (old_ne rfl) (newi_ne rfl)
 intro L vs w11 nb hL hC hn E11
 have e4 : vs 4 = .pointer (some ⟨nb 4, 0, none⟩) := hn _ (mq 0 rfl)
 have E : Fr w [(nb 4, 8, Fq.st [.n (0), .n (0), .v (.bool false), .n (0), .v (.int .i64 1)]), (b10_4, 8, Fq.st [.n (0), .n (0), .v (.bool false), .n (7), .v (.int .i64 6)]), (b9_12, 8, Fq.st [.n (4), .n (2), .v (.bool false), .n (0), .v (.int .i64 0)]), (b9_13, 8, Fq.st [.n (2), .n (1), .v (.bool false), .n (0), .v (.int .i64 0)]), (b9_14, 8, Fq.st [.n (0), .n (0), .v (.bool true), .n (0), .v (.int .i64 0)]), (b6_1, 5, Fq.st [.n (0), .n (1), .v (.bool false)]), (b5_4, 6, Fq.st [.n (1), .n (1), .n (35)]), (b3_4, 6, Fq.st [.n (1), .n (1), .n (5)])] w11 := E11
 rw [lay_all hL]
 simp only [putAll, dstOf, List.length_cons, List.length_nil, Nat.zero_add, Nat.reduceAdd, List.getElem?_toArray, List.getElem?_cons_zero, List.getElem?_cons_succ, Option.bind_some, Act.put, List.setIfInBounds_toArray, List.set_cons_succ, List.set_cons_zero]
 rw [e4]
 generalize nb 4 = b11_4 at E ⊢
 generalize vs 0 = u11_0
 generalize vs 1 = u11_1
 generalize vs 2 = u11_2
 generalize vs 3 = u11_3
 clear e4 hC hn E11 hL vs L nb
 go_upto_region 7 with (fail)
 refine region_fr (C := [Fq.st [.n (1), .n (1), .n (5)], Fq.st [.n (0), .n (1), .v (.bool false)], Fq.tup2 (Fq.st [.n (0), .n (4), .v (.bool false)]) (Fq.is (.int .i64 0)), Fq.tup2 (Fq.st [.n (0), .n (4), .v (.bool false)]) (Fq.is (.int .i64 0)), Fq.st [.n (0), .n (4), .v (.bool false)], Fq.is (.int .i64 0), Fq.any, Fq.any, Fq.is (.int .i64 0)]) (ks := [none, none, none, none, none, none, none, none]) (new := [⟨6, 7, 5, Fq.st [.n 0, .n 0, .v (.bool false)], Fq.st [.n (0), .n (4), .v (.bool false)], none⟩]) E rfl (by kernel_rfl) rfl rfl (fun hp => ⟨?_, ?_, ?_, ?_, ?_, ?_, ?_, ?_, ?_, trivial⟩) ?_
 ·exact q_loadSt (off := 0) (l := 6) (fs := [.n (1), .n (1), .n (5)]) (gs := [.n (1), .n (1), .n (5)]) hp (free_of rfl) trivial (mq 7 rfl) (.inl rfl) rfl row_api_Mod rfl (sqo 1) (fun v w h => h)
 ·exact q_loadSt (off := 0) (l := 5) (fs := [.n (0), .n (1), .v (.bool false)]) (gs := [.n (0), .n (1), .v (.bool false)]) hp (free_of rfl) trivial (mq 5 rfl) (.inl rfl) rfl row_api_Point rfl (sqo 3) (fun v w h => h)
 ·exact q_call2 (F := (Fq.st [.n (1), .n (1), .n (5)]).P) (G := (Fq.st [.n (0), .n (1), .v (.bool false)]).P) hp (free_of rfl) trivial (enq_f_algorist_point_Neg) (sqi 0) (sqi 1) (fun v v' w h h' => exNegN (P := ⟨0, 1, false⟩) h h' (lit5 (by decide)) (lit5 (by decide)) (lit5 (by decide)) ⟨(lit5 (by decide)), (lit5 (by decide))⟩ (by decide))
 ·exact q_move hp (free_of rfl) trivial (sqi 2)
 ·exact q_extract2 hp (free_of rfl) trivial (sqi 3) (fun v1 v2 w h1 h2 => ⟨_, rfl, h1⟩)
 ·exact q_extract2 hp (free_of rfl) trivial (sqi 3) (fun v1 v2 w h1 h2 => ⟨_, rfl, h2⟩)
 ·exact q_allocSt (us := [.bool false, .slice none 0 0, .bool false, .slice none 0 0, .bool false]) (fs := [.n 0, .n 0, .v (.bool false)]) hp (mq 0 rfl) rfl rfl rfl (Nat.lt_of_sub_eq_succ rfl) rfl fits0_api_Point (fun ρ w => ralloc_api_Point ρ w) rfl (Nat.ne_of_beq_eq_false rfl) (fun _ _ => trivial) (old_ne rfl) (newk_ne rfl)
 ·exact q_storeNewSt (fs := [.n 0, .n 0, .v (.bool false)]) (gs := [.n (0), .n (4), .v (.bool false)]) hp (mq 0 rfl) rfl rfl rfl rfl size_api_Point rfl (own_ptr rfl rfl (by simp) rfl) (sq_in 4 rfl rfl (by simp) rfl (fun v w h => fitv_st h)) (fun _ _ => trivial) (old_ne rfl) (newi_ne rfl)
 ·exact q_assign hp (free_of rfl) trivial (sqi 5)
 intro L vs w12 nb hL hC hn E12
 have e5 : vs 5 = .int .i64 0 := hC 5 (by simp)
 have e8 : vs 8 = .int .i64 0 := hC 8 (by simp)
 have e6 : vs 6 = .pointer (some ⟨nb 6, 0, none⟩) := hn _ (mq 0 rfl)
 have E : Fr w [(nb 6, 5, Fq.st [.n (0), .n (4), .v (.bool false)]), (b11_4, 8, Fq.st [.n (0), .n (0), .v (.bool false), .n (0), .v (.int .i64 1)]), (b10_4, 8, Fq.st [.n (0), .n (0), .v (.bool false), .n (7), .v (.int .i64 6)]), (b9_12, 8, Fq.st [.n (4), .n (2), .v (.bool false), .n (0), .v (.int .i64 0)]), (b9_13, 8, Fq.st [.n (2), .n (1), .v (.bool false), .n (0), .v (.int .i64 0)]), (b9_14, 8, Fq.st [.n (0), .n (0), .v (.bool true), .n (0), .v (.int .i64 0)]), (b6_1, 5, Fq.st [.n (0), .n (1), .v (.bool false)]), (b5_4, 6, Fq.st [.n (1), .n (1), .n (35)]), (b3_4, 6, Fq.st [.n (1), .n (1), .n (5)])] w12 := E12
 rw [lay_all hL]
 simp only [putAll, dstOf, List.length_cons, List.length_nil, Nat.zero_add, Nat.reduceAdd, List.getElem?_toArray, List.getElem?_cons_zero, List.getElem?_cons_succ, Option.bind_some, Act.put, List.setIfInBounds_toArray, List.set_cons_succ, List.set_cons_zero]
 rw [e5, e8, e6]
 generalize nb 6 = b12_6 at E ⊢
 generalize vs 0 = u12_0
 generalize vs 1 = u12_1
 generalize vs 2 = u12_2
 generalize vs 3 = u12_3
 generalize vs 4 = u12_4
 clear e5 e8 e6 hC hn E12 hL vs L nb
 go_upto_region 8 with (fail)
 refine region_fr (C := [Fq.is (.pointer (some ⟨b9_12, 7, none⟩)), Fq.is (.int .i64 0), Fq.is (.bool false), Fq.is (.bool false), Fq.is (.pointer (some ⟨b9_13, 7, none⟩)), Fq.is (.int .i64 0), Fq.is (.bool false), Fq.is (.bool false), Fq.is (.bool false), Fq.is (.pointer (some ⟨b9_14, 7, none⟩)), Fq.is (.int .i64 0), Fq.is (.bool false), Fq.is (.bool false), Fq.is (.bool false), Fq.is (.pointer (some ⟨b10_4, 7, none⟩)), Fq.is (.int .i64 6), Fq.is (.bool false), Fq.is (.bool false), Fq.is (.bool false), Fq.is (.pointer (some ⟨b11_4, 7, none⟩)), Fq.is (.int .i64 1), Fq.is (.bool false), Fq.is (.bool false), Fq.is (.bool false), Fq.is (.int .i64 0), Fq.is (.bool false), Fq.is (.bool false)]) (ks := [none, none, none, none, none, none, none, none, none]) (new := []) E rfl (by kernel_rfl) rfl rfl (fun hp => ⟨?_, ?_, ?_, ?_, ?_, ?_, ?_, ?_, ?_, ?_, ?_, ?_, ?_, ?_, ?_, ?_, ?_, ?_, ?_, ?_, ?_, ?_, ?_, ?_, ?_, ?_, ?_, trivial⟩) ?_
 ·exact q_addr (b := b9_12) (off := 0) (off' := 7) hp (free_of rfl) trivial (sqo 4) (fun ρ w h => by simp [execOp, go_sem, h]) (fun _ => rfl)
 ·exact q_load1 (off := 7) (fs := [.n (4), .n (2), .v (.bool false), .n (0), .v (.int .i64 0)]) (u := .int .i64 0) hp (free_of rfl) trivial (mq 3 rfl) (.inl rfl) rfl rfl (fun ρ w b h1 h2 => by simp [execOp, go_sem, h1, h2]) (sqi 0) (fun _ => rfl)
 ·exact q_one (F := fun v _ => v = .int .i64 0) hp (free_of rfl) trivial (sqi 1) (fun ρ w hc h => ⟨.bool false, by simp [execOp, go_sem, h, hc], rfl⟩)
 ·exact q_move hp (free_of rfl) trivial (sqi 2)
 ·exact q_addr (b := b9_13) (off := 0) (off' := 7) hp (free_of rfl) gqi (sqo 5) (fun ρ w h => by simp [execOp, go_sem, h]) (fun _ => rfl)
 ·exact q_load1 (off := 7) (fs := [.n (2), .n (1), .v (.bool false), .n (0), .v (.int .i64 0)]) (u := .int .i64 0) hp (free_of rfl) gqi (mq 4 rfl) (.inl rfl) rfl rfl (fun ρ w b h1 h2 => by simp [execOp, go_sem, h1, h2]) (sqi 4) (fun _ => rfl)
 ·exact q_one (F := fun v _ => v = .int .i64 0) hp (free_of rfl) gqi (sqi 5) (fun ρ w hc h => ⟨.bool false, by simp [execOp, go_sem, h, hc], rfl⟩)
 ·exact q_two (F := fun v _ => v = .bool false) (G := fun v _ => v = .bool false) hp (free_of rfl) trivial (sqi 3) (sqi 6) (fun ρ w hc h h' => ⟨_, by simp [execOp, go_sem, h, h'], rfl⟩)
 ·exact q_move hp (free_of rfl) trivial (sqi 7)
 ·exact q_addr (b := b9_14) (off := 0) (off' := 7) hp (free_of rfl) gqi (sqo 6) (fun ρ w h => by simp [execOp, go_sem, h]) (fun _ => rfl)
 ·exact q_load1 (off := 7) (fs := [.n (0), .n (0), .v (.bool true), .n (0), .v (.int .i64 0)]) (u := .int .i64 0) hp (free_of rfl) gqi (mq 5 rfl) (.inl rfl) rfl rfl (fun ρ w b h1 h2 => by simp [execOp, go_sem, h1, h2]) (sqi 9) (fun _ => rfl)
 ·exact q_one (F := fun v _ => v = .int .i64 0) hp (free_of rfl) gqi (sqi 10) (fun ρ w hc h => ⟨.bool false, by simp [execOp, go_sem, h, hc], rfl⟩)
 ·exact q_two (F := fun v _ => v = .bool false) (G := fun v _ => v = .bool false) hp (free_of rfl) trivial (sqi 8) (sqi 11) (fun ρ w hc h h' => ⟨_, by simp [execOp, go_sem, h, h'], rfl⟩)
 ·exact q_move hp (free_of rfl) trivial (sqi 12)
 ·exact q_addr (b := b10_4) (off := 0) (off' := 7) hp (free_of rfl) gqi (sqo 7) (fun ρ w h => by simp [execOp, go_sem, h]) (fun _ => rfl)
 ·exact q_load1 (off := 7) (fs := [.n (0), .n (0), .v (.bool false), .n (7), .v (.int .i64 6)]) (u := .int .i64 6) hp (free_of rfl) gqi (mq 2 rfl) (.inl rfl) rfl rfl (fun ρ w b h1 h2 => by simp [execOp, go_sem, h1, h2]) (sqi 14) (fun _ => rfl)
 ·exact q_one (F := fun v _ => v = .int .i64 6) hp (free_of rfl) gqi (sqi 15) (fun ρ w hc h => ⟨.bool false, by simp [execOp, go_sem, h, hc], rfl⟩)
 ·exact q_two (F := fun v _ => v = .bool false) (G := fun v _ => v = .bool false) hp (free_of rfl) trivial (sqi 13) (sqi 16) (fun ρ w hc h h' => ⟨_, by simp [execOp, go_sem, h, h'], rfl⟩)
 ·exact q_move hp (free_of rfl) trivial (sqi 17)
 ·exact q_addr (b := b11_4) (off := 0) (off' := 7) hp (free_of rfl) gqi (sqo 8) (fun ρ w h => by simp [execOp, go_sem, h]) (fun _ => rfl)
 ·exact q_load1 (off := 7) (fs := [.n (0), .n (0), .v (.bool false), .n (0), .v (.int .i64 1)]) (u := .int .i64 1) hp (free_of rfl) gqi (mq 1 rfl) (.inl rfl) rfl rfl (fun ρ w b h1 h2 => by simp [execOp, go_sem, h1, h2]) (sqi 19) (fun _ => rfl)
 ·exact q_one (F := fun v _ => v = .int .i64 1) hp (free_of rfl) gqi (sqi 20) (fun ρ w hc h => ⟨.bool false, by simp [execOp, go_sem, h, hc], rfl⟩)
 ·exact q_two (F := fun v _ => v = .bool false) (G := fun v _ => v = .bool false) hp (free_of rfl) trivial (sqi 18) (sqi 21) (fun ρ w hc h h' => ⟨_, by simp [execOp, go_sem, h, h'], rfl⟩)
 ·exact q_move hp (free_of rfl) trivial (sqi 22)
 ·exact q_move hp (free_of rfl) gqi (sqo 10)
 ·exact q_one (F := fun v _ => v = .int .i64 0) hp (free_of rfl) gqi (sqi 24) (fun ρ w hc h => ⟨.bool false, by simp [execOp, go_sem, h, hc], rfl⟩)
 ·exact q_two (F := fun v _ => v = .bool false) (G := fun v _ => v = .bool false) hp (free_of rfl) trivial (sqi 23) (sqi 25) (fun ρ w hc h h' => ⟨_, by simp [execOp, go_sem, h, h'], rfl⟩)
 intro L vs w13 nb hL hC hn E13
 have e0 : vs 0 = .pointer (some ⟨b9_12, 7, none⟩) := hC 0 (by simp)
 have e1 : vs 1 = .int .i64 0 := hC 1 (by simp)
 have e2 : vs 2 = .bool false := hC 2 (by simp)
 have e3 : vs 3 = .bool false := hC 3 (by simp)
 have e4 : vs 4 = .pointer (some ⟨b9_13, 7, none⟩) := hC 4 (by simp)
 have e5 : vs 5 = .int .i64 0 := hC 5 (by simp)
 have e6 : vs 6 = .bool false := hC 6 (by simp)
 have e7 : vs 7 = .bool false := hC 7 (by simp)
 have e8 : vs 8 = .bool false := hC 8 (by simp)
 have e9 : vs 9 = .pointer (some ⟨b9_14, 7, none⟩) := hC 9 (by simp)
 have e10 : vs 10 = .int .i64 0 := hC 10 (by simp)
 have e11 : vs 11 = .bool false := hC 11 (by simp)
 have e12 : vs 12 = .bool false := hC 12 (by simp)
 have e13 : vs 13 = .bool false := hC 13 (by simp)
 have e14 : vs 14 = .pointer (some ⟨b10_4, 7, none⟩) := hC 14 (by simp)
 have e15 : vs 15 = .int .i64 6 := hC 15 (by simp)
 have e16 : vs 16 = .bool false := hC 16 (by simp)
 have e17 : vs 17 = .bool false := hC 17 (by simp)
 have e18 : vs 18 = .bool false := hC 18 (by simp)
 have e19 : vs 19 = .pointer (some ⟨b11_4, 7, none⟩) := hC 19 (by simp)
 have e20 : vs 20 = .int .i64 1 := hC 20 (by simp)
 have e21 : vs 21 = .bool false := hC 21 (by simp)
 have e22 : vs 22 = .bool false := hC 22 (by simp)
 have e23 : vs 23 = .bool false := hC 23 (by simp)
 have e24 : vs 24 = .int .i64 0 := hC 24 (by simp)
 have e25 : vs 25 = .bool false := hC 25 (by simp)
 have e26 : vs 26 = .bool false := hC 26 (by simp)
 have E : Fr w [(b12_6, 5, Fq.st [.n (0), .n (4), .v (.bool false)]), (b11_4, 8, Fq.st [.n (0), .n (0), .v (.bool false), .n (0), .v (.int .i64 1)]), (b10_4, 8, Fq.st [.n (0), .n (0), .v (.bool false), .n (7), .v (.int .i64 6)]), (b9_12, 8, Fq.st [.n (4), .n (2), .v (.bool false), .n (0), .v (.int .i64 0)]), (b9_13, 8, Fq.st [.n (2), .n (1), .v (.bool false), .n (0), .v (.int .i64 0)]), (b9_14, 8, Fq.st [.n (0), .n (0), .v (.bool true), .n (0), .v (.int .i64 0)]), (b6_1, 5, Fq.st [.n (0), .n (1), .v (.bool false)]), (b5_4, 6, Fq.st [.n (1), .n (1), .n (35)]), (b3_4, 6, Fq.st [.n (1), .n (1), .n (5)])] w13 := E13
 rw [lay_all hL]
 simp only [putAll, dstOf, List.length_cons, List.length_nil, Nat.zero_add, Nat.reduceAdd, List.getElem?_toArray, List.getElem?_cons_zero, List.getElem?_cons_succ, Option.bind_some, Act.put, List.setIfInBounds_toArray, List.set_cons_succ, List.set_cons_zero]
 rw [e0, e1, e2, e3, e4, e5, e6, e7, e8, e9, e10, e11, e12, e13, e14, e15, e16, e17, e18, e19, e20, e21, e22, e23, e24, e25, e26]
 clear e0 e1 e2 e3 e4 e5 e6 e7 e8 e9 e10 e11 e12 e13 e14 e15 e16 e17 e18 e19 e20 e21 e22 e23 e24 e25 e26 hC hn E13 hL vs L nb
 go_upto_region 10 with (fail)
 have B14 : Hid (ab ((7)) < pw 3) := ab_lit (by decide)
 refine region_fr (C := [Fq.is (.pointer (some ⟨b9_12, 0, none⟩)), Fq.st [.n (4), .n (2), .v (.bool false)], Fq.st [.n (4), .n (2), .v (.bool false)], Fq.is (.bool true), Fq.is (.bool true), Fq.is (.pointer (some ⟨b9_13, 0, none⟩)), Fq.st [.n (2), .n (1), .v (.bool false)], Fq.st [.n (2), .n (1), .v (.bool false)], Fq.is (.bool true), Fq.is (.bool true), Fq.is (.bool true), Fq.is (.pointer (some ⟨b9_14, 0, none⟩)), Fq.is (.pointer (some ⟨b9_14, 4, none⟩)), Fq.is (.bool true), Fq.is (.bool true), Fq.is (.bool true), Fq.is (.pointer (some ⟨b10_4, 5, none⟩)), Fq.num (7), Fq.num (7), Fq.is (.bool true), Fq.is (.bool true), Fq.is (.bool true), Fq.st [.n (0), .n (4), .v (.bool false)], Fq.st [.n (0), .n (4), .v (.bool false)], Fq.is (.bool true), Fq.is (.bool true), Fq.is (.bool true), Fq.st [.n (1), .n (1), .n (5)], Fq.st [.n (0), .n (1), .v (.bool false)], Fq.is (.bool true), Fq.is (.bool true), Fq.is (.bool true), Fq.st [.n (1), .n (1), .n (5)], Fq.st [.n (1), .n (1), .v (.bool false)], Fq.is (.bool false), Fq.is (.bool true), Fq.is (.bool true), Fq.is (.bool true)]) (ks := [none, none, none, none, none, none, none, none, none]) (new := []) E rfl (by kernel_rfl) rfl rfl (fun hp => ⟨?_, ?_, ?_, ?_, ?_, ?_, ?_, ?_, ?_, ?_, ?_, ?_, ?_, ?_, ?_, ?_, ?_, ?_, ?_, ?_, ?_, ?_, ?_, ?_, ?_, ?_, ?_, ?_, ?_, ?_, ?_, ?_, ?_, ?_, ?_, ?_, ?_, ?_, trivial⟩) ?_
 ·exact q_addr (b := b9_12) (off := 0) (off' := 0) hp (free_of rfl) trivial (sqo 4) (fun ρ w h => by simp [execOp, go_sem, h]) (fun _ => rfl)
 ·exact q_loadSt (off := 0) (l := 5) (fs := [.n (4), .n (2), .v (.bool false), .n (0), .v (.int .i64 0)]) (gs := [.n (4), .n (2), .v (.bool false)]) hp (free_of rfl) trivial (mq 3 rfl) (.inl rfl) rfl row_api_Point rfl (sqi 0) (fun v w h => h)
 ·exact q_call2 (F := (Fq.is (.int .i64 4)).P) (G := (Fq.is (.int .i64 2)).P) hp (free_of rfl) trivial (enq_f_algorist_algoristlaw06_at) (sq_const (fun _ => rfl)) (sq_const (fun _ => rfl)) (fun v v' w h h' => (by subst h h'; exact exAt (x := 4) (y := 2) (by omega) (by omega)))
 ·exact q_call2 (F := (Fq.st [.n (4), .n (2), .v (.bool false)]).P) (G := (Fq.st [.n (4), .n (2), .v (.bool false)]).P) hp (free_of rfl) trivial (enq_f_algorist_algoristref06_Same) (sqi 1) (sqi 2) (fun v v' w h h' => exPtSame (P := ⟨(4), (2), false⟩) (Q := ⟨(4), (2), false⟩) h h' rfl)
 ·exact q_move hp (free_of rfl) trivial (sqi 3)
 ·exact q_addr (b := b9_13) (off := 0) (off' := 0) hp (free_of rfl) gqi (sqo 5) (fun ρ w h => by simp [execOp, go_sem, h]) (fun _ => rfl)
 ·exact q_loadSt (off := 0) (l := 5) (fs := [.n (2), .n (1), .v (.bool false), .n (0), .v (.int .i64 0)]) (gs := [.n (2), .n (1), .v (.bool false)]) hp (free_of rfl) gqi (mq 4 rfl) (.inl rfl) rfl row_api_Point rfl (sqi 5) (fun v w h => h)
 ·exact q_call2 (F := (Fq.is (.int .i64 2)).P) (G := (Fq.is (.int .i64 1)).P) hp (free_of rfl) gqi (enq_f_algorist_algoristlaw06_at) (sq_const (fun _ => rfl)) (sq_const (fun _ => rfl)) (fun v v' w h h' => (by subst h h'; exact exAt (x := 2) (y := 1) (by omega) (by omega)))
 ·exact q_call2 (F := (Fq.st [.n (2), .n (1), .v (.bool false)]).P) (G := (Fq.st [.n (2), .n (1), .v (.bool false)]).P) hp (free_of rfl) gqi (enq_f_algorist_algoristref06_Same) (sqi 6) (sqi 7) (fun v v' w h h' => exPtSame (P := ⟨(2), (1), false⟩) (Q := ⟨(2), (1), false⟩) h h' rfl)
 ·exact q_two (F := fun v _ => v = .bool true) (G := fun v _ => v = .bool true) hp (free_of rfl) trivial (sqi 4) (sqi 8) (fun ρ w hc h h' => ⟨_, by simp [execOp, go_sem, h, h'], rfl⟩)
 ·exact q_move hp (free_of rfl) trivial (sqi 9)
 ·exact q_addr (b := b9_14) (off := 0) (off' := 0) hp (free_of rfl) gqi (sqo 6) (fun ρ w h => by simp [execOp, go_sem, h]) (fun _ => rfl)
 ·exact q_addr (b := b9_14) (off := 0) (off' := 4) hp (free_of rfl) gqi (sqi 11) (fun ρ w h => by simp [execOp, go_sem, h]) (fun _ => rfl)
 ·exact q_load1 (off := 4) (fs := [.n (0), .n (0), .v (.bool true), .n (0), .v (.int .i64 0)]) (u := .bool true) hp (free_of rfl) gqi (mq 5 rfl) (.inl rfl) rfl rfl (fun ρ w b h1 h2 => by simp [execOp, go_sem, h1, h2]) (sqi 12) (fun _ => rfl)
 ·exact q_two (F := fun v _ => v = .bool true) (G := fun v _ => v = .bool true) hp (free_of rfl) trivial (sqi 10) (sqi 13) (fun ρ w hc h h' => ⟨_, by simp [execOp, go_sem, h, h'], rfl⟩)
 ·exact q_move hp (free_of rfl) trivial (sqi 14)
 ·exact q_addr (b := b10_4) (off := 0) (off' := 5) hp (free_of rfl) gqi (sqo 7) (fun ρ w h => by simp [execOp, go_sem, h]) (fun _ => rfl)
 ·exact q_loadSt (off := 5) (l := 2) (fs := [.n (0), .n (0), .v (.bool false), .n (7), .v (.int .i64 6)]) (gs := [.n (7)]) hp (free_of rfl) gqi (mq 2 rfl) (.inl rfl) rfl row_api_Int rfl (sqi 16) (fun v w h => st_num h)
 ·exact q_call1 (F := (Fq.is (.int .i64 7)).P) hp (free_of rfl) gqi (enq_R_Of) (sq_const (fun _ => rfl)) (fun v w h => (by subst h; exact rOfK w (7) (by omega) (by omega)))
 ·exact q_call2 (F := (Fq.num (7)).P) (G := (Fq.num (7)).P) hp (free_of rfl) gqi (enq_R_Same) (sqi 17) (sqi 18) (fun v v' w h h' => exRSameB h h' rfl)
 ·exact q_two (F := fun v _ => v = .bool true) (G := fun v _ => v = .bool true) hp (free_of rfl) trivial (sqi 15) (sqi 19) (fun ρ w hc h h' => ⟨_, by simp [execOp, go_sem, h, h'], rfl⟩)
 ·exact q_move hp (free_of rfl) trivial (sqi 20)
 ·exact q_loadSt (off := 0) (l := 5) (fs := [.n (0), .n (4), .v (.bool false)]) (gs := [.n (0), .n (4), .v (.bool false)]) hp (free_of rfl) gqi (mq 0 rfl) (.inl rfl) rfl row_api_Point rfl (sqo 9) (fun v w h => h)
 ·exact q_call2 (F := (Fq.is (.int .i64 0)).P) (G := (Fq.is (.int .i64 4)).P) hp (free_of rfl) gqi (enq_f_algorist_algoristlaw06_at) (sq_const (fun _ => rfl)) (sq_const (fun _ => rfl)) (fun v v' w h h' => (by subst h h'; exact exAt (x := 0) (y := 4) (by omega) (by omega)))
 ·exact q_call2 (F := (Fq.st [.n (0), .n (4), .v (.bool false)]).P) (G := (Fq.st [.n (0), .n (4), .v (.bool false)]).P) hp (free_of rfl) gqi (enq_f_algorist_algoristref06_Same) (sqi 22) (sqi 23) (fun v v' w h h' => exPtSame (P := ⟨(0), (4), false⟩) (Q := ⟨(0), (4), false⟩) h h' rfl)
 ·exact q_two (F := fun v _ => v = .bool true) (G := fun v _ => v = .bool true) hp (free_of rfl) trivial (sqi 21) (sqi 24) (fun ρ w hc h h' => ⟨_, by simp [execOp, go_sem, h, h'], rfl⟩)
 ·exact q_move hp (free_of rfl) trivial (sqi 25)
 ·exact q_loadSt (off := 0) (l := 6) (fs := [.n (1), .n (1), .n (5)]) (gs := [.n (1), .n (1), .n (5)]) hp (free_of rfl) gqi (mq 8 rfl) (.inl rfl) rfl row_api_Mod rfl (sqo 1) (fun v w h => h)
 ·exact q_loadSt (off := 0) (l := 5) (fs := [.n (0), .n (1), .v (.bool false)]) (gs := [.n (0), .n (1), .v (.bool false)]) hp (free_of rfl) gqi (mq 6 rfl) (.inl rfl) rfl row_api_Point rfl (sqo 3) (fun v w h => h)
 ·exact q_call2 (F := (Fq.st [.n (1), .n (1), .n (5)]).P) (G := (Fq.st [.n (0), .n (1), .v (.bool false)]).P) hp (free_of rfl) gqi (enq_f_algorist_point_On) (sqi 27) (sqi 28) (fun v v' w h h' => exOn (x := 0) (y := 1) (i := false) h h' (lit5 (by decide)) (lit5 (by decide)) (lit5 (by decide)) (lit5 (by decide)) (lit5 (by decide)) (by decide))
 ·exact q_two (F := fun v _ => v = .bool true) (G := fun v _ => v = .bool true) hp (free_of rfl) trivial (sqi 26) (sqi 29) (fun ρ w hc h h' => ⟨_, by simp [execOp, go_sem, h, h'], rfl⟩)
 ·exact q_move hp (free_of rfl) trivial (sqi 30)
 ·exact q_loadSt (off := 0) (l := 6) (fs := [.n (1), .n (1), .n (5)]) (gs := [.n (1), .n (1), .n (5)]) hp (free_of rfl) gqi (mq 8 rfl) (.inl rfl) rfl row_api_Mod rfl (sqo 1) (fun v w h => h)
 ·exact q_call2 (F := (Fq.is (.int .i64 1)).P) (G := (Fq.is (.int .i64 1)).P) hp (free_of rfl) gqi (enq_f_algorist_algoristlaw06_at) (sq_const (fun _ => rfl)) (sq_const (fun _ => rfl)) (fun v v' w h h' => (by subst h h'; exact exAt (x := 1) (y := 1) (by omega) (by omega)))
 ·exact q_call2 (F := (Fq.st [.n (1), .n (1), .n (5)]).P) (G := (Fq.st [.n (1), .n (1), .v (.bool false)]).P) hp (free_of rfl) gqi (enq_f_algorist_point_On) (sqi 32) (sqi 33) (fun v v' w h h' => exOn (x := 1) (y := 1) (i := false) h h' (lit5 (by decide)) (lit5 (by decide)) (lit5 (by decide)) (lit5 (by decide)) (lit5 (by decide)) (by decide))
 ·exact q_one (F := fun v _ => v = .bool false) hp (free_of rfl) gqi (sqi 34) (fun ρ w _ h => ⟨.bool true, by simp [execOp, go_sem, h], rfl⟩)
 ·exact q_two (F := fun v _ => v = .bool true) (G := fun v _ => v = .bool true) hp (free_of rfl) trivial (sqi 31) (sqi 35) (fun ρ w hc h h' => ⟨_, by simp [execOp, go_sem, h, h'], rfl⟩)
 ·exact q_assign hp (free_of rfl) trivial (sqi 36)
 intro L vs w15 nb hL hC hn E15
 have e0 : vs 0 = .pointer (some ⟨b9_12, 0, none⟩) := hC 0 (by simp)
 have e3 : vs 3 = .bool true := hC 3 (by simp)
 have e4 : vs 4 = .bool true := hC 4 (by simp)
 have e5 : vs 5 = .pointer (some ⟨b9_13, 0, none⟩) := hC 5 (by simp)
 have e8 : vs 8 = .bool true := hC 8 (by simp)
 have e9 : vs 9 = .bool true := hC 9 (by simp)
 have e10 : vs 10 = .bool true := hC 10 (by simp)
 have e11 : vs 11 = .pointer (some ⟨b9_14, 0, none⟩) := hC 11 (by simp)
 have e12 : vs 12 = .pointer (some ⟨b9_14, 4, none⟩) := hC 12 (by simp)
 have e13 : vs 13 = .bool true := hC 13 (by simp)
 have e14 : vs 14 = .bool true := hC 14 (by simp)
 have e15 : vs 15 = .bool true := hC 15 (by simp)
 have e16 : vs 16 = .pointer (some ⟨b10_4, 5, none⟩) := hC 16 (by simp)
 have e19 : vs 19 = .bool true := hC 19 (by simp)
 have e20 : vs 20 = .bool true := hC 20 (by simp)
 have e21 : vs 21 = .bool true := hC 21 (by simp)
 have e24 : vs 24 = .bool true := hC 24 (by simp)
 have e25 : vs 25 = .bool true := hC 25 (by simp)
 have e26 : vs 26 = .bool true := hC 26 (by simp)
 have e29 : vs 29 = .bool true := hC 29 (by simp)
 have e30 : vs 30 = .bool true := hC 30 (by simp)
 have e31 : vs 31 = .bool true := hC 31 (by simp)
 have e34 : vs 34 = .bool false := hC 34 (by simp)
 have e35 : vs 35 = .bool true := hC 35 (by simp)
 have e36 : vs 36 = .bool true := hC 36 (by simp)
 have e37 : vs 37 = .bool true := hC 37 (by simp)
 have E : Fr w [(b12_6, 5, Fq.st [.n (0), .n (4), .v (.bool false)]), (b11_4, 8, Fq.st [.n (0), .n (0), .v (.bool false), .n (0), .v (.int .i64 1)]), (b10_4, 8, Fq.st [.n (0), .n (0), .v (.bool false), .n (7), .v (.int .i64 6)]), (b9_12, 8, Fq.st [.n (4), .n (2), .v (.bool false), .n (0), .v (.int .i64 0)]), (b9_13, 8, Fq.st [.n (2), .n (1), .v (.bool false), .n (0), .v (.int .i64 0)]), (b9_14, 8, Fq.st [.n (0), .n (0), .v (.bool true), .n (0), .v (.int .i64 0)]), (b6_1, 5, Fq.st [.n (0), .n (1), .v (.bool false)]), (b5_4, 6, Fq.st [.n (1), .n (1), .n (35)]), (b3_4, 6, Fq.st [.n (1), .n (1), .n (5)])] w15 := E15
 rw [lay_all hL]
 simp only [putAll, dstOf, List.length_cons, List.length_nil, Nat.zero_add, Nat.reduceAdd, List.getElem?_toArray, List.getElem?_cons_zero, List.getElem?_cons_succ, Option.bind_some, Act.put, List.setIfInBounds_toArray, List.set_cons_succ, List.set_cons_zero]
 rw [e0, e3, e4, e5, e8, e9, e10, e11, e12, e13, e14, e15, e16, e19, e20, e21, e24, e25, e26, e29, e30, e31, e34, e35, e36, e37]
 generalize vs 1 = u15_1
 generalize vs 2 = u15_2
 generalize vs 6 = u15_6
 generalize vs 7 = u15_7
 generalize vs 17 = u15_17
 generalize vs 18 = u15_18
 generalize vs 22 = u15_22
 generalize vs 23 = u15_23
 generalize vs 27 = u15_27
 generalize vs 28 = u15_28
 generalize vs 32 = u15_32
 generalize vs 33 = u15_33
 clear e0 e3 e4 e5 e8 e9 e10 e11 e12 e13 e14 e15 e16 e19 e20 e21 e24 e25 e26 e29 e30 e31 e34 e35 e36 e37 hC hn E15 hL vs L nb
 clear B1 B2 B4 B7 B8 B14
 go_wp2
 refine bodyPost_ret (v := .bool true) ?_ rfl ⟨_, rfl, E.below, rfl⟩
 simp [results, Try.results7, go_sem]

end Go.Proofs.Ytpkeeacdkkmknaa

namespace Go.Proofs.Ytpkeeacdkkmknaa
open Go Go.RowKit

theorem curve_on {m A X Y : Int} (h3 : 3 < m) (ho : m % 2 = 1) (hA : 0 ≤ A ∧ A < m) (hX : 0 ≤ X ∧ X < m) (hY : 0 ≤ Y ∧ Y < m) : onB A ((Y * Y - ((X * X) + A) * X) % m) m X Y false = true := by
 have h1 := Int.emod_nonneg (Y * Y - ((X * X) + A) * X) (show m ≠ 0 by omega)
 have h2 := Int.emod_lt_of_pos (Y * Y - ((X * X) + A) * X) (show 0 < m by omega)
 refine on_of ?_ (fun e => by cases e) fun _ => ⟨⟨hX.1, hX.2, hY.1, hY.2⟩, ?_⟩
 ·simp only [curveB, resB, Bool.and_eq_true, decide_eq_true_eq]; omega
 ·have h4 := cg_mod m (Y * Y - ((X * X) + A) * X)
  obtain ⟨k, hk⟩ := h4
  exact ⟨-k, by rw [Int.mul_neg]; omega⟩
theorem times_cases {A B M n : Int} {P : Pt} (h : onB A B M P.x P.y P.i = true) : (∃ d, timesS A B M n P = (⟨0, 0, false⟩, d, 6) ∧ PDiv M d) ∨ ∃ T, timesS A B M n P = (T, 0, 0) ∧ onB A B M T.x T.y T.i = true := by
 unfold timesS
 rw [if_pos h]
 by_cases h0 : (timesP A M P n).2 = 0
 ·rw [if_pos h0]; exact .inr ⟨_, rfl, times_on h h0⟩
 ·rw [if_neg h0]; exact .inl ⟨_, rfl, times_div (onB_ok h).1 h0⟩
theorem add_cases {A B M : Int} {P Q : Pt} (h : onB A B M P.x P.y P.i = true) (h' : onB A B M Q.x Q.y Q.i = true) : (∃ d, addS A B M P Q = (⟨0, 0, false⟩, d, 6) ∧ PDiv M d) ∨ ∃ T, addS A B M P Q = (T, 0, 0) ∧ onB A B M T.x T.y T.i = true ∧ sumP A M P Q = (T, 0) := by
 unfold addS
 rw [if_pos h, if_pos h']
 by_cases h0 : (sumP A M P Q).2 = 0
 ·rw [if_pos h0]; exact .inr ⟨_, rfl, sum_on h h' h0, by rw [← h0]⟩
 ·rw [if_neg h0]; exact .inl ⟨_, rfl, sum_div (onB_ok h).1 (onB_ok h').1 h0⟩
theorem ab5 {z : Int} (h : -4294967296 ≤ z ∧ z ≤ 4294967296) : ab z < pw 5 := Int.lt_of_lt_of_le (ab_i64 (by omega) (by omega)) (pw_le (by omega))
end Go.Proofs.Ytpkeeacdkkmknaa

namespace Go.Proofs.Ytpkeeacdkkmknaa
open Go Go.RowKit

theorem info_point : (Try.prog.info? 37).map (fun i => (i.zero, i.size, i.bytes)) = some (some (.agg #[.bool false, .slice none 0 0, .bool false, .slice none 0 0, .bool false]), 5, 72) := by kernel_rfl
def ptF (P : Pt) : List Fd := [.n P.x, .n P.y, .v (.bool P.i)]
def ptsY (A B M : Int) (x : Nat) : Nat → List Pt
 | 0 => []
 | y + 1 => ptsY A B M x y ++ if (y : Int) * y % M = (((x : Int) * (x * x)) + (A * x) + B) % M then [⟨x, y, false⟩] else []
def ptsX (A B M : Int) : Nat → List Pt
 | 0 => [⟨0, 0, true⟩]
 | x + 1 => ptsX A B M x ++ ptsY A B M x M.toNat
def AllOn (A B M : Int) (Ps : List Pt) : Prop := ∀ P ∈ Ps, onB A B M P.x P.y P.i = true
theorem StAt.of_box {w : World} {b m : Nat} {fs : List Fd} (h : Bq w b m (Fq.st fs)) : StAt w b 0 fs := by
 obtain ⟨us, _, h2, h3⟩ := box_st h
 exact ⟨us, h3, fun j hj => by rw [Nat.zero_add]; exact h2 j hj⟩
def RowC (B : Nat) (w : World) (v : Value) (fss : List (List Fd)) : Prop := ∃ g cap, v = .slice (some ⟨g, 0, none⟩) fss.length cap ∧ B ≤ g ∧ ∀ i fs, fss[i]? = some fs → ∃ pre es, pre.length = i * 5 ∧ es.length = 5 ∧ Fits w fs es ∧ At w g (pre ++ es) ∧ ∀ u ∈ pre, tameB u = true
theorem Ls.rowC {T : Nat} {w : World} {B B' : Nat} {v : Value} {fss : List (List Fd)} (h : Ls T 5 w B v fss) (ht : TameRow w v) (h0 : 0 < fss.length) (hB : B' ≤ B) : RowC B' w v fss := by
 obtain ⟨us, h, hE⟩ := h
 have h5 := h
 rcases h.2 with ⟨rfl, h1⟩ | ⟨g, cap, cur, rfl, h1, h2, h3, h4, h6, h7⟩
 ·omega
 ·obtain ⟨g', n', cap', cur', e', hv, h8, h9⟩ := ht
  simp only [Value.slice.injEq, Option.some.injEq, Addr.mk.injEq, and_true] at hv
  obtain ⟨rfl, rfl, rfl⟩ := hv
  rw [h2] at h8
  simp only [Option.some.injEq, Obj.cells.injEq, and_true] at h8
  obtain ⟨rfl, rfl⟩ := h8
  refine ⟨g, cap, rfl, Nat.le_trans hB h1, fun i fs hi => ?_⟩
  obtain ⟨es, g1, g2, g3, g4, g5⟩ := hE i fs hi
  have hl : i < fss.length := (List.getElem?_eq_some_iff.1 hi).1
  have hul := h5.1
  have hm1 : (i + 1) * 5 ≤ fss.length * 5 := Nat.mul_le_mul_right 5 (by omega)
  rw [Nat.add_mul, Nat.one_mul] at hm1
  have hpl : (us.take (i * 5)).length = i * 5 := by rw [List.length_take]; omega
  refine ⟨us.take (i * 5), es, hpl, g1, g4, fun j hj => ?_, fun u hu => h9 u ?_⟩
  ·rw [List.length_append, hpl, g1] at hj
   refine ⟨?_, by simp [World.frozen?, h2]⟩
   rw [World.ownsRow.cellAt h5 j (by omega)]
   by_cases hji : j < i * 5
   ·rw [List.getD, List.getElem?_append_left (by omega), List.getElem?_take_of_lt hji, List.getElem?_eq_getElem (by omega)]
    rfl
   ·obtain ⟨k, rfl⟩ : ∃ k, j = i * 5 + k := ⟨j - i * 5, by omega⟩
    rw [g2 k (by omega), List.getD, List.getElem?_append_right (by omega), hpl, Nat.add_sub_cancel_left, List.getElem?_eq_getElem (show k < es.length by omega)]
    rfl
  ·have := List.mem_of_mem_take hu
   rw [← h7] at this
   exact List.mem_of_mem_take this
theorem RBox.of {w V W : World} {v : Value} {br : Nat} {z : Int} (h : Bq W br 2 (Fq.num z)) (hb : V.heap.size ≤ br) (ht : TameRow V v) : RBox W v.ownBlock br z := by
 obtain ⟨p, q, h1, h2, h3⟩ := box_num h
 have hl := h.lt
 obtain ⟨n, ao, k, c, e⟩ := h3.parts
 have h4 := h3
 rw [e] at h4
 injection e with e
 have e2 := congrArg Array.toList e
 simp at e2
 obtain ⟨rfl, rfl⟩ := e2
 refine ⟨hl, ?_, n, ao, k, c, h1, h2, h4⟩
 obtain ⟨g, n', cap, cur, et, rfl, h5, _⟩ := ht
 intro e
 simp [Value.ownBlock] at e
 have := (Array.getElem?_eq_some_iff.1 h5).1
 omega
theorem on_pt {A B M x y : Int} (hc : curveB A B M = true) (hx : 0 ≤ x ∧ x < M) (hy : 0 ≤ y ∧ y < M) (h : y * y % M = (((x * (x * x)) + (A * x) + B) % M)) : onB A B M x y false = true := by
 refine on_of hc (fun e => by cases e) fun _ => ⟨⟨hx.1, hx.2, hy.1, hy.2⟩, ?_⟩
 have h1 := cg_iff.2 h
 have e : y * y - ((x * x + A) * x + B) = y * y - ((x * (x * x)) + (A * x) + B) := by rw [Int.add_mul, Int.mul_assoc]
 rw [e]
 exact h1
theorem AllOn.snoc {A B M : Int} {Ps : List Pt} {P : Pt} (h : AllOn A B M Ps) (h' : onB A B M P.x P.y P.i = true) : AllOn A B M (Ps ++ [P]) := by
 intro Q hQ
 rcases List.mem_append.1 hQ with hQ | hQ
 ·exact h Q hQ
 ·simp at hQ; subst hQ; exact h'
theorem ptF_snoc (Ps : List Pt) (P : Pt) : (Ps ++ [P]).map ptF = Ps.map ptF ++ [ptF P] := by simp
set_option maxRecDepth 100000 in
set_option maxHeartbeats 4000000 in
theorem exPoints {w : World} {v : Value} {A B M : Int} (h : (Fq.st [.n A, .n B, .n M]).P v w) (hm : 3 < M ∧ M ≤ 5000 ∧ M % 2 = 1) (hA : 0 ≤ A ∧ A < M) (hB : 0 ≤ B ∧ B < M) :
  Calls Try.prog 11 #[v] w fun e w' => ∃ v', e = .returned v' ∧ Below w.heap.size w w' ∧ 0 < (ptsX A B M M.toNat).length ∧ (ptsX A B M M.toNat).length ≤ 30000000 ∧ AllOn A B M (ptsX A B M M.toNat) ∧ RowC w.heap.size w' v' ((ptsX A B M M.toNat).map ptF) := by
 have HM := hidd hm
 have HA := hidd hA
 have HB := hidd hB
 have HCV : Hid (curveB A B M = true) := by show _ = _; simp only [curveB, resB, Bool.and_eq_true, decide_eq_true_eq]; omega
 have BM : Hid (ab M < pw 5) := ab5 (by omega)
 have BA : Hid (ab A < pw 5) := ab5 (by omega)
 have BB : Hid (ab B < pw 5) := ab5 (by omega)
 clear hm hA hB
 obtain ⟨_, rfl, hf0⟩ := h
 have hF0 := hf0
 obtain ⟨y0_p0, y0_q0, _, rfl, _y0_n0, y0_p1, y0_q1, _, rfl, _y0_n1, y0_p2, y0_q2, _, rfl, _y0_n2, rfl⟩ := hf0
 obtain ⟨w1, b1, hw1, hb1, hs1, E⟩ := fr_start w (F := Fq.st [.n A, .n B, .n M]) (us := [y0_p0, y0_q0, y0_p1, y0_q1, y0_p2, y0_q2]) 31 rfl (by simp) (hF0.tame) (show (Fq.st [.n A, .n B, .n M]).P _ w from ⟨_, rfl, hF0⟩)
 go_enter Try.func11, Try.ntmps11
 go_upto_region 1 with (fail)
 rw [← hw1]
 rw [← hb1]
 clear hw1 hb1 hs1
 refine region_fr (C := [Fq.is (.pointer (some ⟨b1, 4, none⟩)), Fq.num M, Fq.tup2 (Fq.is (.int .i64 M)) (Fq.is (.bool true)), Fq.tup2 (Fq.is (.int .i64 M)) (Fq.is (.bool true)), Fq.is (.int .i64 M), Fq.is (.bool true), Fq.is (.int .i64 M), Fq.is (.bool true)]) (ks := [none]) (new := []) E rfl (by kernel_rfl) rfl rfl (fun hp => ⟨?_, ?_, ?_, ?_, ?_, ?_, ?_, ?_, trivial⟩) ?_
 ·exact q_addr (b := b1) (off := 0) (off' := 4) hp (free_of rfl) trivial (sqo 1) (fun ρ w h => by simp [execOp, go_sem, h]) (fun _ => rfl)
 ·exact q_loadSt (off := 4) (l := 2) (fs := [.n A, .n B, .n M]) (gs := [.n M]) hp (free_of rfl) trivial (mq 0 rfl) (.inl rfl) rfl row_api_Int rfl (sqi 0) (fun v w h => st_num h)
 ·exact q_call1 (F := (Fq.num M).P) hp (free_of rfl) trivial (enq_R_Low) (sqi 1) (fun v w h => exRLow h (by have := HM.out; omega) (by have := HM.out; omega))
 ·exact q_move hp (free_of rfl) trivial (sqi 2)
 ·exact q_extract2 hp (free_of rfl) trivial (sqi 3) (fun v1 v2 w h1 h2 => ⟨_, rfl, h1⟩)
 ·exact q_extract2 hp (free_of rfl) trivial (sqi 3) (fun v1 v2 w h1 h2 => ⟨_, rfl, h2⟩)
 ·exact q_assign hp (free_of rfl) trivial (sqi 4)
 ·exact q_assign hp (free_of rfl) trivial (sqi 5)
 intro L vs w2 nb hL hC hn E2
 have e0 : vs 0 = .pointer (some ⟨b1, 4, none⟩) := hC 0 (by simp)
 have e4 : vs 4 = .int .i64 M := hC 4 (by simp)
 have e5 : vs 5 = .bool true := hC 5 (by simp)
 have e6 : vs 6 = .int .i64 M := hC 6 (by simp)
 have e7 : vs 7 = .bool true := hC 7 (by simp)
 have E : Fr w [(b1, 6, Fq.st [.n A, .n B, .n M])] w2 := E2
 rw [lay_all hL]
 simp only [putAll, dstOf, List.length_cons, List.length_nil, Nat.zero_add, Nat.reduceAdd, List.getElem?_toArray, List.getElem?_cons_zero, List.getElem?_cons_succ, Option.bind_some, Act.put, List.setIfInBounds_toArray, List.set_cons_succ, List.set_cons_zero]
 rw [e0, e4, e5, e6, e7]
 generalize vs 1 = u2_1
 generalize vs 2 = u2_2
 generalize vs 3 = u2_3
 clear e0 e4 e5 e6 e7 hC hn E2 hL vs L nb
 have HC0 := hidd (StAt.of_box (E.box 0 rfl))
 have HCL := hidd (E.box 0 rfl).lt
 have HE0 := hidd E.below
 clear E
 obtain ⟨i0, hi, hz0, hz1, hz2⟩ := info_parts info_point
 obtain ⟨W0, rfl⟩ : ∃ W0, W0 = w2 := ⟨_, rfl⟩
 go_wp2
 go_loopw [5, 6] (fun vl vx W => ∃ (x : Nat) (Ps : List Pt), vx = .int .i64 (x : Int) ∧ (x : Int) ≤ M ∧ 0 < Ps.length ∧ Ps.length ≤ x * 5000 + 1 ∧ AllOn A B M Ps ∧ Ls 37 5 W W0.heap.size vl (Ps.map ptF) ∧ TameRow W vl ∧ Below W0.heap.size W0 W ∧ Ps = ptsX A B M x) (fun _ vx _ => (M - intOf vx).toNat)
 case atStart => exact ⟨0, [⟨0, 0, true⟩], rfl, by have := HM.out; omega, by simp, by simp, fun P hP => by simp at hP; subst hP; exact on_of HCV.out (fun _ => ⟨rfl, rfl⟩) (fun e => by cases e), Ls.one W0 (es := [.bool false, .slice none 0 0, .bool false, .slice none 0 0, .bool true]) (Nat.le_refl _) rfl ⟨_, _, _, rfl, Num.zero _, _, _, _, rfl, Num.zero _, _, rfl, rfl, rfl⟩ rfl, TameRow.made (es := [.bool false, .slice none 0 0, .bool false, .slice none 0 0, .bool true]) (by intro u hu; simp at hu; rcases hu with rfl | rfl | rfl | rfl | rfl <;> rfl), alloc_below _ _, rfl⟩
 case round =>
  obtain ⟨V2, rfl⟩ : ∃ V2, V2 = wr := ⟨_, rfl⟩
  obtain ⟨x, Ps, rfl, hxM, hP0, hPl, hon, HL, HT, HBW, hPE⟩ := hrel
  have HPE := hidd hPE
  clear hPE
  have hml : (Ps.map ptF).length = Ps.length := List.length_map ..
  obtain ⟨ao2, cap2, rfl⟩ := id HL.shape
  rw [hml] at HL HT ⊢
  by_cases hx : (x : Int) < M
  ·have HXI := hidd hx
   have HP := hidd (And.intro hP0 hPl)
   have HON := hidd hon
   have HLH := hidd HL
   have HTH := hidd HT
   have HBH := hidd HBW
   have BX : Hid (ab (x : Int) < pw 3) := ab_i64 (by omega) (by have := HM.out; omega)
   have HXR : Hid (-9223372036854775808 ≤ (x : Int) ∧ (x : Int) ≤ 9223372036854775807) := by have := HM.out; show _ ∧ _; omega
   obtain ⟨R, hR⟩ : ∃ R, R = ((((x : Int) * (x * x)) + (A * x) + B) % M) := ⟨_, rfl⟩
   have HR := hidd hR
   have BR : Hid (ab R < pw 5) := by show _ < _; rw [hR]; exact ab_mod' (by have := HM.out; omega) BM.out
   have hV := HBW.size
   have HCC : ∀ w, Below V2.heap.size V2 w → StAt w b1 0 [.n A, .n B, .n M] := fun w hb => (HC0.out.mono HCL.out HBW).mono (Nat.lt_of_lt_of_le HCL.out hV) hb
   clear hxM hP0 hPl hon HL HT HBW hR hx hV hml
   have E := Fr.start V2
   go_upto_region 4 with (fail)
   refine region_fr (C := [Fq.is (.int .i64 (x : Int)), Fq.is (.int .i64 M), Fq.is (.bool true)]) (ks := []) (new := []) E rfl (by kernel_rfl) rfl rfl (fun hp => ⟨?_, ?_, ?_, trivial⟩) ?_
   ·exact q_move hp (free_of rfl) trivial (sqo 6)
   ·exact q_move hp (free_of rfl) trivial (sqo 3)
   ·exact q_two (F := fun v _ => v = .int .i64 (x : Int)) (G := fun v _ => v = .int .i64 M) hp (free_of rfl) trivial (sqi 0) (sqi 1) (fun ρ w hc h h' => ⟨.bool true, by simp [execOp, go_sem, h, h', HXI.out], rfl⟩)
   intro L vs w3 nb hL hC hn E3
   have e0 : vs 0 = .int .i64 (x : Int) := hC 0 (by simp)
   have e1 : vs 1 = .int .i64 M := hC 1 (by simp)
   have e2 : vs 2 = .bool true := hC 2 (by simp)
   have E : Fr V2 [] w3 := E3
   rw [lay_all hL]
   simp only [putAll, dstOf, List.length_cons, List.length_nil, Nat.zero_add, Nat.reduceAdd, List.getElem?_toArray, List.getElem?_cons_zero, List.getElem?_cons_succ, Option.bind_some, Act.put, List.setIfInBounds_toArray, List.set_cons_succ, List.set_cons_zero]
   rw [e0, e1, e2]
   clear e0 e1 e2 hC hn E3 hL vs L nb
   go_upto_region 6 with (fail)
   refine region_fr (C := [Fq.st [.n A, .n B, .n M], Fq.is (.int .i64 (x : Int)), Fq.num (x : Int), Fq.num R, Fq.any, Fq.any]) (ks := []) (new := [⟨4, 5, 2, Fq.num 0, Fq.num R, none⟩]) E rfl (by kernel_rfl) rfl rfl (fun hp => ⟨?_, ?_, ?_, ?_, ?_, ?_, trivial⟩) ?_
   ·exact q_loadStOut (off := 0) (l := 6) (fs := [.n A, .n B, .n M]) hp (free_of rfl) trivial HCC row_api_Mod rfl (sqo 1) (fun v w h => h)
   ·exact q_move hp (free_of rfl) trivial (sqo 6)
   ·exact q_call1 (F := (Fq.is (.int .i64 (x : Int))).P) hp (free_of rfl) trivial (enq_R_Of) (sqi 1) (fun v w h => (by subst h; exact rOfK w (x : Int) HXR.out.1 HXR.out.2))
   ·exact q_call2 (F := (Fq.st [.n A, .n B, .n M]).P) (G := (Fq.num (x : Int)).P) hp (free_of rfl) trivial (enq_f_algorist_algoristref06_Right) (sqi 0) (sqi 2) (fun v v' w h h' => (by rw [HR.out]; exact exRight h h' BM.out BA.out BB.out (Int.lt_of_lt_of_le BX.out (pw_le (by omega))) (by have := HM.out; omega)))
   ·exact q_allocInt hp (mq 0 rfl) rfl rfl rfl rfl (Nat.ne_of_beq_eq_false rfl) (fun _ _ => trivial) (old_ne rfl) (newk_ne rfl) (fun w => Num.zero w)
   ·exact q_storeNewInt hp (mq 0 rfl) rfl rfl rfl (own_ptr rfl rfl (by simp) rfl) (sq_in 3 rfl rfl (by simp) rfl (fun v w h => intV_num h)) (fun _ _ => trivial) (old_ne rfl) (newi_ne rfl)
   intro L vs w4 nb hL hC hn E4
   have e1 : vs 1 = .int .i64 (x : Int) := hC 1 (by simp)
   have e4 : vs 4 = .pointer (some ⟨nb 4, 0, none⟩) := hn _ (mq 0 rfl)
   have E : Fr V2 [(nb 4, 2, Fq.num R)] w4 := E4
   rw [lay_all hL]
   simp only [putAll, dstOf, List.length_cons, List.length_nil, Nat.zero_add, Nat.reduceAdd, List.getElem?_toArray, List.getElem?_cons_zero, List.getElem?_cons_succ, Option.bind_some, Act.put, List.setIfInBounds_toArray, List.set_cons_succ, List.set_cons_zero]
   rw [e1, e4]
   generalize nb 4 = b4_4 at E ⊢
   generalize vs 0 = u4_0
   generalize vs 2 = u4_2
   generalize vs 3 = u4_3
   clear e1 e4 hC hn E4 hL vs L nb
   have HRB := hidd (RBox.of (w := V2) (E.box 0 rfl) (E.boxes _ (List.mem_cons_self ..)).1 HTH.out)
   have HL3 := hidd (HLH.out.mono E.below)
   have HT3 := hidd (HTH.out.mono E.below)
   have HB3 := hidd (HBH.out.trans (E.below.mono HBH.out.size))
   clear E HCC HLH HTH HBH
   obtain ⟨V3, rfl⟩ : ∃ V3, V3 = w4 := ⟨_, rfl⟩
   go_wp2
   go_loopw [5, 8] (fun vl vy W => ∃ (y : Nat) (Qs : List Pt), vy = .int .i64 (y : Int) ∧ (y : Int) ≤ M ∧ 0 < Qs.length ∧ Qs.length ≤ x * 5000 + y + 1 ∧ AllOn A B M Qs ∧ Ls 37 5 W W0.heap.size vl (Qs.map ptF) ∧ TameRow W vl ∧ RBox W vl.ownBlock b4_4 R ∧ Below W0.heap.size W0 W ∧ Qs = ptsX A B M x ++ ptsY A B M x y) (fun _ vy _ => (M - intOf vy).toNat)
   case atStart => exact ⟨0, Ps, rfl, by have := HM.out; omega, HP.out.1, by have := HP.out.2; omega, HON.out, HL3.out, HT3.out, HRB.out, HB3.out, by rw [HPE.out]; exact (List.append_nil _).symm⟩
   case round =>
    clear HRB HL3 HT3 HB3 HP HON
    obtain ⟨V4, rfl⟩ : ∃ V4, V4 = wr := ⟨_, rfl⟩
    obtain ⟨y, Qs, rfl, hyM, hQ0, hQl, hon, HL, HT, HRB, HBW, hQE⟩ := hrel
    have HQE2 := hidd hQE
    clear hQE
    have hml : (Qs.map ptF).length = Qs.length := List.length_map ..
    obtain ⟨ao4, cap4, rfl⟩ := id HL.shape
    rw [hml] at HL HT HRB ⊢
    by_cases hy : (y : Int) < M
    ·have HYI := hidd hy
     have HQ := hidd (And.intro hQ0 hQl)
     have HON := hidd hon
     have HLH := hidd HL
     have HTH := hidd HT
     have HBH := hidd HBW
     have HRH := hidd HRB
     have HYR : Hid (-9223372036854775808 ≤ (y : Int) ∧ (y : Int) ≤ 9223372036854775807) := by have := HM.out; show _ ∧ _; omega
     obtain ⟨q, hq⟩ : ∃ q, q = (y : Int) * y % M := ⟨_, rfl⟩
     have hq0 : 0 ≤ q ∧ q < M := by rw [hq]; exact ⟨Int.emod_nonneg _ (by have := HM.out; omega), Int.emod_lt_of_pos _ (by have := HM.out; omega)⟩
     have hyy := prod_bd (K := 5000) (a := (y : Int)) (b := (y : Int)) (by have := HM.out; omega) (by have := HM.out; omega) (by omega)
     have HMUL : Hid (IntKind.i64.wrap ((y : Int) * y) = (y : Int) * y) := IntWalk.i64_in _ (by omega)
     have HTM : Hid (Int.tmod ((y : Int) * y) M = q) := by show _ = _; rw [Int.tmod_eq_emod_of_nonneg hyy.1, hq]
     have HQW : Hid (IntKind.i64.wrap q = q) := IntWalk.i64_in _ (by have := HM.out; omega)
     have HM0 : Hid (¬ M = 0) := by have := HM.out; show ¬ _; omega
     have HQR : Hid (-9223372036854775808 ≤ q ∧ q ≤ 9223372036854775807) := by have := HM.out; show _ ∧ _; omega
     have BQ : Hid (ab q < pw 3) := ab_i64 HQR.out.1 HQR.out.2
     have HQE := hidd hq
     have HRO : ∀ w, Below V4.heap.size V4 w → StAt w b4_4 0 [.n R] := fun w hb => (HRB.mono hb).st
     clear hyM hQ0 hQl hon HL HT HRB HBW hq hq0 hyy hy hml
     have E := Fr.start V4
     by_cases hqr : q = R
     ·have TK := hidd (decide_eq_true hqr)
      have HCD : Hid ((y : Int) * y % M = (((x : Int) * (x * x)) + (A * x) + B) % M) := by show _ = _; rw [← HQE.out, ← HR.out]; exact hqr
      go_upto_region 8 with (fail)
      refine region_fr (C := [Fq.is (.int .i64 (y : Int)), Fq.is (.int .i64 M), Fq.is (.bool true)]) (ks := []) (new := []) E rfl (by kernel_rfl) rfl rfl (fun hp => ⟨?_, ?_, ?_, trivial⟩) ?_
      ·exact q_move hp (free_of rfl) trivial (sqo 8)
      ·exact q_move hp (free_of rfl) trivial (sqo 3)
      ·exact q_two (F := fun v _ => v = .int .i64 (y : Int)) (G := fun v _ => v = .int .i64 M) hp (free_of rfl) trivial (sqi 0) (sqi 1) (fun ρ w hc h h' => ⟨.bool true, by simp [execOp, go_sem, h, h', HYI.out], rfl⟩)
      intro L vs w5 nb hL hC hn E5
      have e0 : vs 0 = .int .i64 (y : Int) := hC 0 (by simp)
      have e1 : vs 1 = .int .i64 M := hC 1 (by simp)
      have e2 : vs 2 = .bool true := hC 2 (by simp)
      have E : Fr V4 [] w5 := E5
      rw [lay_all hL]
      simp only [putAll, dstOf, List.length_cons, List.length_nil, Nat.zero_add, Nat.reduceAdd, List.getElem?_toArray, List.getElem?_cons_zero, List.getElem?_cons_succ, Option.bind_some, Act.put, List.setIfInBounds_toArray, List.set_cons_succ, List.set_cons_zero]
      rw [e0, e1, e2]
      clear e0 e1 e2 hC hn E5 hL vs L nb
      go_upto_region 10 with (fail)
      refine region_fr (C := [Fq.is (.int .i64 (y : Int)), Fq.is (.int .i64 (y : Int)), Fq.is (.int .i64 ((y : Int) * y)), Fq.is (.int .i64 M), Fq.is (.int .i64 q), Fq.num q, Fq.num R, Fq.is (.bool true)]) (ks := []) (new := []) E rfl (by kernel_rfl) rfl rfl (fun hp => ⟨?_, ?_, ?_, ?_, ?_, ?_, ?_, ?_, trivial⟩) ?_
      ·exact q_move hp (free_of rfl) trivial (sqo 8)
      ·exact q_move hp (free_of rfl) trivial (sqo 8)
      ·exact q_two (F := fun v _ => v = .int .i64 (y : Int)) (G := fun v _ => v = .int .i64 (y : Int)) hp (free_of rfl) trivial (sqi 0) (sqi 1) (fun ρ w hc h h' => ⟨.int .i64 ((y : Int) * y), by simp [execOp, go_sem, h, h', HMUL.out], rfl⟩)
      ·exact q_move hp (free_of rfl) trivial (sqo 3)
      ·exact q_two (F := fun v _ => v = .int .i64 ((y : Int) * y)) (G := fun v _ => v = .int .i64 M) hp (free_of rfl) trivial (sqi 2) (sqi 3) (fun ρ w hc h h' => ⟨.int .i64 q, by simp [execOp, go_sem, h, h', HM0.out, HTM.out], rfl⟩)
      ·exact q_call1 (F := (Fq.is (.int .i64 q)).P) hp (free_of rfl) trivial (enq_R_Of) (sqi 4) (fun v w h => (by subst h; exact rOfK w q HQR.out.1 HQR.out.2))
      ·exact q_loadStOut (off := 0) (l := 2) (fs := [.n R]) hp (free_of rfl) trivial HRO row_api_Int rfl (sqo 7) (fun v w h => st_num h)
      ·exact q_call2 (F := (Fq.num q).P) (G := (Fq.num R).P) hp (free_of rfl) trivial (enq_R_Same) (sqi 5) (sqi 6) (fun v v' w h h' => exRSameB h h' TK.out)
      intro L vs w6 nb hL hC hn E6
      have e0 : vs 0 = .int .i64 (y : Int) := hC 0 (by simp)
      have e1 : vs 1 = .int .i64 (y : Int) := hC 1 (by simp)
      have e2 : vs 2 = .int .i64 ((y : Int) * y) := hC 2 (by simp)
      have e3 : vs 3 = .int .i64 M := hC 3 (by simp)
      have e4 : vs 4 = .int .i64 q := hC 4 (by simp)
      have e7 : vs 7 = .bool true := hC 7 (by simp)
      have E : Fr V4 [] w6 := E6
      rw [lay_all hL]
      simp only [putAll, dstOf, List.length_cons, List.length_nil, Nat.zero_add, Nat.reduceAdd, List.getElem?_toArray, List.getElem?_cons_zero, List.getElem?_cons_succ, Option.bind_some, Act.put, List.setIfInBounds_toArray, List.set_cons_succ, List.set_cons_zero]
      rw [e0, e1, e2, e3, e4, e7]
      generalize vs 5 = u6_5
      generalize vs 6 = u6_6
      clear e0 e1 e2 e3 e4 e7 hC hn E6 hL vs L nb
      clear HMUL HTM HQW HM0 TK HRO
      have HL5 := HLH.out.mono E.below
      have HT5 := HTH.out.mono E.below
      have HR5 := HRH.out.mono E.below
      have HB5 := hidd (HBH.out.trans (E.below.mono HBH.out.size))
      clear HLH HTH HRH HBH
      have HPT : Hid (onB A B M (x : Int) (y : Int) false = true) := on_pt HCV.out ⟨by omega, HXI.out⟩ ⟨by omega, HYI.out⟩ (by rw [← HQE.out, ← HR.out]; exact hqr)
      obtain ⟨us, hO, hE⟩ := HL5
      have HO := hidd hO
      have HE2 := hidd hE
      have HT6 := hidd HT5
      have HR6 := hidd HR5
      obtain ⟨V5, rfl⟩ : ∃ V5, V5 = w6 := ⟨_, rfl⟩
      have hsz3 := HB5.out.size
      have hlen : Qs.length ≤ 30000000 := by have := HQ.out.2; have := HM.out; have := HXI.out; have := HYI.out; omega
      have HX2 : Hid (0 ≤ (x : Int) ∧ (x : Int) ≤ 9223372036854775807) := by have := HXR.out; show _ ∧ _; omega
      have HY2 : Hid (0 ≤ (y : Int) ∧ (y : Int) ≤ 9223372036854775807) := by have := HYR.out; show _ ∧ _; omega
      clear hO hE HT5 HR5 E hqr
      clear BX BR BQ BM BA BB
      go_wp2_with (first | (go_at_call 25; (with_reducible refine (rOfNew _ (x : Int) HX2.out.1 HX2.out.2).mono ?_); rintro e w5 ⟨ng, ao5, n5, c5, rfl, hnew, hN, hB5⟩) | (go_at_call 25; (with_reducible refine (rOfNew _ (y : Int) HY2.out.1 HY2.out.2).mono ?_); rintro e w6 ⟨ng6, ao6, n6, c6, rfl, hnew6, hN6, hB6⟩) | (at_builtin; (refine wpList_append_tame (n := Qs.length) (xs := us) rfl _ _ 34 rfl W0.heap.size 37 i0 (.agg #[.bool false, .slice none 0 0, .bool false, .slice none 0 0, .bool false]) 5 72 Try.underlying34 hi hz0 hz1 hz2 rfl (by decide) _ rfl (World.ownsRow.alloc (owns_below (owns_below (by have h9 := HO.out; rwa [List.length_map] at h9) hB5) hB6) _) ((HT6.out.mono (hB5.trans (hB6.mono hB5.size))).mono (alloc_below _ _)) (List.all_eq_true.1 rfl) ⟨_, 0, none⟩ 1 1 [.bool ng, .slice ao5 n5 c5, .bool ng6, .slice ao6 n6 c6, .bool false] rfl rfl (World.news_of_block (heap_alloc_new _ _)) (List.all_eq_true.1 rfl) (by decide) (by unfold maxLen; omega) (by omega) (Nat.le_trans hsz3 (Nat.le_trans hB5.size (Nat.le_trans hB6.size (by simp)))) _ rfl ?_; intro g cap w8 hown' hgrow hat hlt htm)) | fail)
      have hB56 := hB5.trans (hB6.mono hB5.size)
      have hN5 := hN.mono hB6
      have hS := Ls.step (fs := ptF ⟨x, y, false⟩) (es := [.bool ng, .slice ao5 n5 c5, .bool ng6, .slice ao6 n6 c6, .bool false]) HO.out HE2.out hsz3 HB5.out hB56 (by
       intro a k c hm hk
       simp at hm
       rcases hm with ⟨rfl, _, _⟩ | ⟨rfl, _, _⟩
       ·exact hnew _ rfl
       ·exact Nat.le_trans hB5.size (hnew6 _ rfl)) ⟨_, _, _, rfl, hN5, _, _, _, rfl, hN6, _, rfl, rfl, rfl⟩ rfl rfl (by simpa using hown') hgrow hat rfl
      have hS4 := hidd hS.1
      have hS5 := hidd hS.2
      have hS6 := hidd htm
      have hS7 := hidd (HR6.out.step (n := Qs.length + 1) (cap := cap) hB56 ((HT6.out.mono hB56).mono (alloc_below _ _)) hgrow hat rfl)
      clear hown' hgrow hat hlt htm hS hnew hnew6 hN hN5 hN6 hB5 hB6 hB56 HO HE2 HT6 HR6
      have g9 : IntKind.i64.wrap ((y : Int) + 1) = (y : Int) + 1 := IntWalk.i64_in _ (by have := HYI.out; have := HM.out; omega)
      have hw : wrap64 ((y : Int) + 1) = (y : Int) + 1 := by have := HYI.out; have := HM.out; simp only [wrap64]; omega
      go_wp2
      go_roundw
      case rel => exact ⟨y + 1, Qs ++ [⟨x, y, false⟩], by first | go_num | (rw [hw]; go_num), by have := HYI.out; omega, by simp, by have := HQ.out.2; simp; omega, HON.out.snoc HPT.out, by rw [ptF_snoc]; simpa using hS4.out, hS6.out, hS7.out, hS5.out, by rw [HQE2.out, ptsY, if_pos HCD.out, List.append_assoc]⟩
      case measure => have := HYI.out; first | (rw [hw]; simp [intOf]; omega) | (simp [intOf]; omega)
     ·have TK := hidd (decide_eq_false hqr)
      have HCD : Hid (¬ (y : Int) * y % M = (((x : Int) * (x * x)) + (A * x) + B) % M) := by show ¬ _ = _; rw [← HQE.out, ← HR.out]; exact hqr
      go_upto_region 8 with (fail)
      refine region_fr (C := [Fq.is (.int .i64 (y : Int)), Fq.is (.int .i64 M), Fq.is (.bool true)]) (ks := []) (new := []) E rfl (by kernel_rfl) rfl rfl (fun hp => ⟨?_, ?_, ?_, trivial⟩) ?_
      ·exact q_move hp (free_of rfl) trivial (sqo 8)
      ·exact q_move hp (free_of rfl) trivial (sqo 3)
      ·exact q_two (F := fun v _ => v = .int .i64 (y : Int)) (G := fun v _ => v = .int .i64 M) hp (free_of rfl) trivial (sqi 0) (sqi 1) (fun ρ w hc h h' => ⟨.bool true, by simp [execOp, go_sem, h, h', HYI.out], rfl⟩)
      intro L vs w7 nb hL hC hn E7
      have e0 : vs 0 = .int .i64 (y : Int) := hC 0 (by simp)
      have e1 : vs 1 = .int .i64 M := hC 1 (by simp)
      have e2 : vs 2 = .bool true := hC 2 (by simp)
      have E : Fr V4 [] w7 := E7
      rw [lay_all hL]
      simp only [putAll, dstOf, List.length_cons, List.length_nil, Nat.zero_add, Nat.reduceAdd, List.getElem?_toArray, List.getElem?_cons_zero, List.getElem?_cons_succ, Option.bind_some, Act.put, List.setIfInBounds_toArray, List.set_cons_succ, List.set_cons_zero]
      rw [e0, e1, e2]
      clear e0 e1 e2 hC hn E7 hL vs L nb
      go_upto_region 10 with (fail)
      refine region_fr (C := [Fq.is (.int .i64 (y : Int)), Fq.is (.int .i64 (y : Int)), Fq.is (.int .i64 ((y : Int) * y)), Fq.is (.int .i64 M), Fq.is (.int .i64 q), Fq.num q, Fq.num R, Fq.is (.bool false)]) (ks := []) (new := []) E rfl (by kernel_rfl) rfl rfl (fun hp => ⟨?_, ?_, ?_, ?_, ?_, ?_, ?_, ?_, trivial⟩) ?_
      ·exact q_move hp (free_of rfl) trivial (sqo 8)
      ·exact q_move hp (free_of rfl) trivial (sqo 8)
      ·exact q_two (F := fun v _ => v = .int .i64 (y : Int)) (G := fun v _ => v = .int .i64 (y : Int)) hp (free_of rfl) trivial (sqi 0) (sqi 1) (fun ρ w hc h h' => ⟨.int .i64 ((y : Int) * y), by simp [execOp, go_sem, h, h', HMUL.out], rfl⟩)
      ·exact q_move hp (free_of rfl) trivial (sqo 3)
      ·exact q_two (F := fun v _ => v = .int .i64 ((y : Int) * y)) (G := fun v _ => v = .int .i64 M) hp (free_of rfl) trivial (sqi 2) (sqi 3) (fun ρ w hc h h' => ⟨.int .i64 q, by simp [execOp, go_sem, h, h', HM0.out, HTM.out], rfl⟩)
      ·exact q_call1 (F := (Fq.is (.int .i64 q)).P) hp (free_of rfl) trivial (enq_R_Of) (sqi 4) (fun v w h => (by subst h; exact rOfK w q HQR.out.1 HQR.out.2))
      ·exact q_loadStOut (off := 0) (l := 2) (fs := [.n R]) hp (free_of rfl) trivial HRO row_api_Int rfl (sqo 7) (fun v w h => st_num h)
      ·exact q_call2 (F := (Fq.num q).P) (G := (Fq.num R).P) hp (free_of rfl) trivial (enq_R_Same) (sqi 5) (sqi 6) (fun v v' w h h' => exRSameB h h' TK.out)
      intro L vs w8 nb hL hC hn E8
      have e0 : vs 0 = .int .i64 (y : Int) := hC 0 (by simp)
      have e1 : vs 1 = .int .i64 (y : Int) := hC 1 (by simp)
      have e2 : vs 2 = .int .i64 ((y : Int) * y) := hC 2 (by simp)
      have e3 : vs 3 = .int .i64 M := hC 3 (by simp)
      have e4 : vs 4 = .int .i64 q := hC 4 (by simp)
      have e7 : vs 7 = .bool false := hC 7 (by simp)
      have E : Fr V4 [] w8 := E8
      rw [lay_all hL]
      simp only [putAll, dstOf, List.length_cons, List.length_nil, Nat.zero_add, Nat.reduceAdd, List.getElem?_toArray, List.getElem?_cons_zero, List.getElem?_cons_succ, Option.bind_some, Act.put, List.setIfInBounds_toArray, List.set_cons_succ, List.set_cons_zero]
      rw [e0, e1, e2, e3, e4, e7]
      generalize vs 5 = u8_5
      generalize vs 6 = u8_6
      clear e0 e1 e2 e3 e4 e7 hC hn E8 hL vs L nb
      clear HMUL HTM HQW HM0 TK HRO
      have HL5 := HLH.out.mono E.below
      have HT5 := HTH.out.mono E.below
      have HR5 := HRH.out.mono E.below
      have HB5 := hidd (HBH.out.trans (E.below.mono HBH.out.size))
      clear HLH HTH HRH HBH
      have HL6 := hidd HL5
      have HT6 := hidd HT5
      have HR6 := hidd HR5
      clear HL5 HT5 HR5 E hqr
      have g9 : IntKind.i64.wrap ((y : Int) + 1) = (y : Int) + 1 := IntWalk.i64_in _ (by have := HYI.out; have := HM.out; omega)
      have hw : wrap64 ((y : Int) + 1) = (y : Int) + 1 := by have := HYI.out; have := HM.out; simp only [wrap64]; omega
      go_wp2
      go_roundw
      case rel => exact ⟨y + 1, Qs, by first | go_num | (rw [hw]; go_num), by have := HYI.out; omega, HQ.out.1, by have := HQ.out.2; omega, HON.out, HL6.out, HT6.out, HR6.out, HB5.out, by rw [HQE2.out, ptsY, if_neg HCD.out, List.append_nil]⟩
      case measure => have := HYI.out; first | (rw [hw]; simp [intOf]; omega) | (simp [intOf]; omega)
    ·have t0 : decide ((y : Int) < M) = false := by simp; omega
     have hli : ¬ (y : Int) < M := hy
     have HQ := hidd (And.intro hQ0 hQl)
     have HON := hidd hon
     have HLH := hidd HL
     have HTH := hidd HT
     have HBH := hidd HBW
     have HYM := hidd (show (y : Int) ≤ 5000 by have := HM.out; omega)
     have HYE := hidd (show y = M.toNat by omega)
     have hw : wrap64 ((x : Int) + 1) = (x : Int) + 1 := by have := HXI.out; have := HM.out; simp only [wrap64]; omega
     clear HRB HL HT HBW hon hQ0 hQl hyM hy
     go_wp2
     go_roundw
     case rel => exact ⟨x + 1, Qs, by first | go_num | (rw [hw]; go_num), by have := HXI.out; omega, HQ.out.1, by have := HQ.out.2; have := HYM.out; omega, HON.out, HLH.out, HTH.out, HBH.out, by rw [HQE2.out, ptsX, ← HYE.out]⟩
     case measure => have := HXI.out; first | (rw [hw]; simp [intOf]; omega) | (simp [intOf]; omega)
  ·have t0 : decide ((x : Int) < M) = false := by simp; omega
   have hli : ¬ (x : Int) < M := hx
   have HXE := hidd (show x = M.toNat by omega)
   have HST := hidd (HL.rowC HT (by rw [hml]; exact hP0) HE0.out.size)
   have HBT := hidd (HE0.out.trans (HBW.mono HE0.out.size))
   have HP := hidd (And.intro hP0 (show Ps.length ≤ 30000000 by have := HM.out; omega))
   have HON := hidd hon
   clear HL HT HBW hon hP0 hPl hxM hx
   go_wp2
   refine bodyPost_ret (v := .slice ao2 Ps.length cap2) ?_ rfl ⟨_, rfl, HBT.out, by rw [← HXE.out, ← HPE.out]; exact ⟨HP.out.1, HP.out.2, HON.out, HST.out⟩⟩
   simp [results, Try.results11, go_sem]

end Go.Proofs.Ytpkeeacdkkmknaa
