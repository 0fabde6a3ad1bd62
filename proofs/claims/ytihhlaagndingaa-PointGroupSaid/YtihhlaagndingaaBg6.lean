/- Ow, Ox, Om, Ta, Tb, Oy, Oz, Oj, Ok, Od, Ni, Nj, Oe. -/
import Derived.Test.YtihhlaagndingaaBg5
namespace Go.Proofs.Ytihhlaagndingaa
open Go Go.RowKit

theorem enq_f_algorist_algoristlaw06_at (args : Array Value) (w : World) : (callFunc 12 args).run Try.prog w = .ok (.enter 12 args) w := enter_of Try.func12 (by kernel_rfl) rfl args w
theorem enq_f_algorist_algoristlaw06_add (args : Array Value) (w : World) : (callFunc 13 args).run Try.prog w = .ok (.enter 13 args) w := enter_of Try.func13 (by kernel_rfl) rfl args w
theorem enq_f_algorist_algoristlaw06_times (args : Array Value) (w : World) : (callFunc 18 args).run Try.prog w = .ok (.enter 18 args) w := enter_of Try.func18 (by kernel_rfl) rfl args w
theorem enq_f_algorist_algoristlaw06_examples (args : Array Value) (w : World) : (callFunc 7 args).run Try.prog w = .ok (.enter 7 args) w := enter_of Try.func7 (by kernel_rfl) rfl args w
theorem enq_f_algorist_algoristref06_Same (args : Array Value) (w : World) : (callFunc 14 args).run Try.prog w = .ok (.enter 14 args) w := enter_of Try.func14 (by kernel_rfl) rfl args w
theorem enq_f_algorist_algoristref06_Curve (args : Array Value) (w : World) : (callFunc 9 args).run Try.prog w = .ok (.enter 9 args) w := enter_of Try.func9 (by kernel_rfl) rfl args w
theorem enq_f_algorist_algoristref06_Nonsingular (args : Array Value) (w : World) : (callFunc 10 args).run Try.prog w = .ok (.enter 10 args) w := enter_of Try.func10 (by kernel_rfl) rfl args w
theorem enq_f_algorist_algoristref06_Right (args : Array Value) (w : World) : (callFunc 33 args).run Try.prog w = .ok (.enter 33 args) w := enter_of Try.func33 (by kernel_rfl) rfl args w
theorem size_algoristref06_Sum : sizeB 41 8 = true := by kernel_rfl
theorem fits0_algoristref06_Sum (w : World) : Fits w [.n 0, .n 0, .v (.bool false), .n 0, .v (.int .i64 0)] [.bool false, .slice none 0 0, .bool false, .slice none 0 0, .bool false, .bool false, .slice none 0 0, .int .i64 0] := ⟨_, _, _, rfl, Num.zero w, _, _, _, rfl, Num.zero w, _, rfl, rfl, _, _, _, rfl, Num.zero w, _, rfl, rfl, rfl⟩
theorem fits0P_algoristref06_Sum (w : World) : (Fq.st [.n 0, .n 0, .v (.bool false), .n 0, .v (.int .i64 0)]).P (.agg ([.bool false, .slice none 0 0, .bool false, .slice none 0 0, .bool false, .bool false, .slice none 0 0, .int .i64 0] : List Value).toArray) w := ⟨_, rfl, fits0_algoristref06_Sum w⟩
theorem ralloc_algoristref06_Sum {d : Option Tmp} {ty : TypeId} {ps : String} {af : Array Edge} (ρ : Operand → Value) (w : World) : (execOp ρ { dst := d, op := .alloc 41, type := ty, pos := ps, after := af, guard := none }).run Try.prog w = .ok (.value (.pointer (some ⟨w.heap.size, 0, none⟩))) (w.alloc (.cells [.bool false, .slice none 0 0, .bool false, .slice none 0 0, .bool false, .bool false, .slice none 0 0, .int .i64 0].toArray 41)) := by
 simp [execOp, go_sem]

noncomputable def addS (A B M : Int) (P Q : Pt) : Pt × Int × Int := if onB A B M P.x P.y P.i = true then (if onB A B M Q.x Q.y Q.i = true then (if (sumP A M P Q).2 = 0 then ((sumP A M P Q).1, 0, 0) else (⟨0, 0, false⟩, (sumP A M P Q).2, 6)) else (⟨0, 0, false⟩, 0, 1)) else (⟨0, 0, false⟩, 0, 1)
noncomputable def timesS (A B M : Int) (n : Int) (P : Pt) : Pt × Int × Int := if onB A B M P.x P.y P.i = true then (if (timesP A M P n).2 = 0 then ((timesP A M P n).1, 0, 0) else (⟨0, 0, false⟩, (timesP A M P n).2, 6)) else (⟨0, 0, false⟩, 0, 1)
def Fq.sm (R : Pt × Int × Int) : Fq := Fq.st [.n R.1.x, .n R.1.y, .v (.bool R.1.i), .n R.2.1, .v (.int .i64 R.2.2)]
theorem exAddS {w : World} {v v' u : Value} {A B M : Int} {P Q : Pt} (h : (Fq.st [.n A, .n B, .n M]).P v w) (h' : (Fq.pt P).P v' w) (h2 : (Fq.pt Q).P u w) (hM : ab M < pw 5) (hA : ab A < pw 5) (hB : ab B < pw 5) (hP : ab P.x < pw 5 ∧ ab P.y < pw 5) (hQ : ab Q.x < pw 5 ∧ ab Q.y < pw 5) {R : Pt × Int × Int} (hR : addS A B M P Q = R) :
  Calls Try.prog 34 #[v, v', u] w fun e w' => ∃ v', e = .returned v' ∧ Below w.heap.size w w' ∧ (Fq.tup3 (Fq.pt R.1) (Fq.num R.2.1) (Fq.is (.int .i64 R.2.2))).P v' w' := by
 subst hR
 unfold addS
 by_cases h3 : onB A B M P.x P.y P.i = true
 ·rw [if_pos h3]
  by_cases h4 : onB A B M Q.x Q.y Q.i = true
  ·rw [if_pos h4]
   by_cases h5 : (sumP A M P Q).2 = 0
   ·rw [if_pos h5]; exact exAddP h h' h2 hM hA hB hP hQ h3 h4 rfl h5
   ·rw [if_neg h5]; exact exAddN h h' h2 hM hA hB hP hQ h3 h4 rfl h5
  ·rw [if_neg h4]; exact exAddE2 h h' h2 hM hA hB hP hQ h3 (bfalse h4)
 ·rw [if_neg h3]; exact exAddE1 h h' h2 hM hA hB hP hQ (bfalse h3)
theorem exTimesS {w : World} {v v' u : Value} {A B M n : Int} {P : Pt} (h : (Fq.st [.n A, .n B, .n M]).P v w) (h' : Num w v' n) (g : (Fq.pt P).P u w) (hM : ab M < pw 5) (hA : ab A < pw 5) (hB : ab B < pw 5) (hn : ab n < pw 20) (hP : ab P.x < pw 5 ∧ ab P.y < pw 5) {R : Pt × Int × Int} (hR : timesS A B M n P = R) :
  Calls Try.prog 39 #[v, v', u] w fun e w' => ∃ v', e = .returned v' ∧ Below w.heap.size w w' ∧ (Fq.tup3 (Fq.pt R.1) (Fq.num R.2.1) (Fq.is (.int .i64 R.2.2))).P v' w' := by
 subst hR
 unfold timesS
 by_cases h3 : onB A B M P.x P.y P.i = true
 ·rw [if_pos h3]
  by_cases h5 : (timesP A M P n).2 = 0
  ·rw [if_pos h5]
   by_cases h6 : n < 0
   ·exact exTimes10 h h' g hM hA hB hn hP h3 rfl h6 h5
   ·exact exTimes00 h h' g hM hA hB hn hP h3 rfl h6 h5
  ·rw [if_neg h5]
   by_cases h6 : n < 0
   ·exact exTimes11 h h' g hM hA hB hn hP h3 rfl h6 h5
   ·exact exTimes01 h h' g hM hA hB hn hP h3 rfl h6 h5
 ·rw [if_neg h3]; exact exTimesE h h' g hM hA hB hn hP (bfalse h3)
theorem ab_i64 {x : Int} (h0 : -9223372036854775808 ≤ x) (h1 : x ≤ 9223372036854775807) : ab x < pw 3 := by
 have hp : pw 3 = 79228162514264337593543950336 := by decide
 rw [hp]
 unfold ab
 omega
def sameP (P Q : Pt) : Bool := decide (P.i = Q.i) && (decide (P.x = Q.x) && decide (P.y = Q.y))
section
variable {os : List Oper} {Q : Exit → Act → World → Prop} {a : Act} {p : Pq} {B B0 : Nat} {w0 : World}
variable {i s : Nat} {d : Option Tmp} {ty : TypeId} {ps : String} {af : Array Edge} {gd : Option (Nat × Bool)}
theorem q_build_algoristref06_Sum_012 {x0 : Operand} {z0_0 : Int} {z0_1 : Int} {u0_2 : Bool} {x1 : Operand} {z1 : Int} {x2 : Operand} {u2 : Int} (hp : p.Ok B B0) (hF : p.Free i) (hg : GdQ os a p B B0 w0 af gd) (h0 : SrcQ os a p B B0 w0 af x0 (Fq.st [.n z0_0, .n z0_1, .v (.bool u0_2)]).P) (h1 : SrcQ os a p B B0 w0 af x1 fun v w => Num w v z1) (h2 : SrcQ os a p B B0 w0 af x2 fun v _ => v = .int .i64 u2) (hC : ∀ v w, (Fq.st [.n z0_0, .n z0_1, .v (.bool u0_2), .n z1, .v (.int .i64 u2)]).P v w → (p.c i).P v w) :
  StepQ os Q a p B B0 w0 i { dst := d, op := .build 41 #[(0, x0), (1, x1), (2, x2)], type := ty, pos := ps, after := af, guard := gd } := by
 refine stq_val hp hF hg fun L vs w hG hL hc hd => ?_
 have g0 := h0 L vs w hG hd
 obtain ⟨_, e0, _, _, _, rfl, a0_n0, _, _, _, rfl, a0_n1, _, rfl, _, rfl⟩ := g0
 obtain ⟨n0_0, ao0_0, k0_0, c0_0, e0_0⟩ := a0_n0.parts
 have m0_0 := a0_n0
 rw [e0_0] at m0_0
 obtain ⟨n0_1, ao0_1, k0_1, c0_1, e0_1⟩ := a0_n1.parts
 have m0_1 := a0_n1
 rw [e0_1] at m0_1
 injection e0_0 with f0_0
 have f0_0 := congrArg Array.toList f0_0
 simp at f0_0
 obtain ⟨rfl, rfl⟩ := f0_0
 injection e0_1 with f0_1
 have f0_1 := congrArg Array.toList f0_1
 simp at f0_1
 obtain ⟨rfl, rfl⟩ := f0_1
 have g1 := h1 L vs w hG hd
 obtain ⟨n1, ao1, k1, c1, e1⟩ := g1.parts
 have m1 : Num w (.agg #[.bool n1, .slice ao1 k1 c1]) z1 := by rw [← e1]; exact g1
 have g2 := h2 L vs w hG hd
 refine ⟨.agg #[.bool n0_0, .slice ao0_0 k0_0 c0_0, .bool n0_1, .slice ao0_1 k0_1 c0_1, .bool u0_2, .bool n1, .slice ao1 k1 c1, .int .i64 u2], ?_, hC _ _ ⟨_, rfl, _, _, _, rfl, m0_0, _, _, _, rfl, m0_1, _, rfl, rfl, _, _, _, rfl, m1, _, rfl, rfl, rfl⟩⟩
 generalize (lay os.toArray L vs os.toArray.size a).eval = ρ at e0 e1 g2
 simp [execOp, go_sem, e0, e1, g2]
end
set_option maxRecDepth 100000 in
set_option maxHeartbeats 4000000 in
theorem exAt {w : World} {x y : Int} (hx : -9223372036854775808 ≤ x ∧ x ≤ 9223372036854775807) (hy : -9223372036854775808 ≤ y ∧ y ≤ 9223372036854775807) :
  Calls Try.prog 12 #[.int .i64 x, .int .i64 y] w fun e w' => ∃ v', e = .returned v' ∧ Below w.heap.size w w' ∧ (Fq.st [.n x, .n y, .v (.bool false)]).P v' w' := by
 have HX := hidd hx
 have HY := hidd hy
 have Bx : Hid (ab x < pw 3) := ab_i64 hx.1 hx.2
 have By : Hid (ab y < pw 3) := ab_i64 hy.1 hy.2
 clear hx hy
 obtain ⟨w1, b1, hw1, hb1, hs1, E⟩ := fr_start w (F := Fq.st [.n 0, .n 0, .v (.bool false)]) (us := [.bool false, .slice none 0 0, .bool false, .slice none 0 0, .bool false]) 37 rfl (by simp) ((Fits.tame (fits0_api_Point w))) (fits0P_api_Point _)
 go_enter Try.func12, Try.ntmps12
 go_upto_region 1 with (fail)
 rw [← hw1]
 rw [← hb1]
 clear hw1 hb1 hs1
 refine region_fr (C := [Fq.is (.int .i64 x), Fq.num x, Fq.is (.int .i64 y), Fq.num y, Fq.st [.n x, .n y, .v (.bool false)], Fq.any]) (ks := [some (5, Fq.st [.n x, .n y, .v (.bool false)])]) (new := []) E rfl (by kernel_rfl) rfl rfl (fun hp => ⟨?_, ?_, ?_, ?_, ?_, ?_, trivial⟩) ?_
 ·exact q_move hp (free_of rfl) trivial (sqo 0)
 ·exact q_call1 (F := (Fq.is (.int .i64 x)).P) hp (free_of rfl) trivial (enq_R_Of) (sqi 0) (fun v w h => (by subst h; exact rOfK w x HX.out.1 HX.out.2))
 ·exact q_move hp (free_of rfl) trivial (sqo 1)
 ·exact q_call1 (F := (Fq.is (.int .i64 y)).P) hp (free_of rfl) trivial (enq_R_Of) (sqi 2) (fun v w h => (by subst h; exact rOfK w y HY.out.1 HY.out.2))
 ·exact q_build_api_Point_01 (z0 := x) (z1 := y) hp (free_of rfl) trivial (sqi 1) (sqi 3) (fun v w h => h)
 ·exact q_storeOldSt (off := 0) (fs := [.n 0, .n 0, .v (.bool false)]) (gs := [.n x, .n y, .v (.bool false)]) (fs' := [.n x, .n y, .v (.bool false)]) hp (mq 0 rfl) rfl rfl rfl size_api_Point rfl (sqo 4) (sq_in 4 rfl rfl (by simp) rfl (fun v w h => fitv_st h)) (fun _ _ => trivial) (newik_ne rfl)
 intro L vs w2 nb hL hC hn E2
 have e0 : vs 0 = .int .i64 x := hC 0 (by simp)
 have e2 : vs 2 = .int .i64 y := hC 2 (by simp)
 have E : Fr w [(b1, 5, Fq.st [.n x, .n y, .v (.bool false)])] w2 := E2
 rw [lay_all hL]
 simp only [putAll, dstOf, List.length_cons, List.length_nil, Nat.zero_add, Nat.reduceAdd, List.getElem?_toArray, List.getElem?_cons_zero, List.getElem?_cons_succ, Option.bind_some, Act.put, List.setIfInBounds_toArray, List.set_cons_succ, List.set_cons_zero]
 rw [e0, e2]
 generalize vs 1 = u2_1
 generalize vs 3 = u2_3
 generalize vs 4 = u2_4
 clear e0 e2 hC hn E2 hL vs L nb
 clear HX HY
 obtain ⟨_, _, hc0, hf0⟩ := box_st (E.box 0 rfl)
 have hP0 := hf0
 obtain ⟨r0_p0, r0_q0, _, rfl, _r0_n0, r0_p1, r0_q1, _, rfl, _r0_n1, _, rfl, _, rfl⟩ := hf0
 have c0_0 := hc0 0 (by simp)
 have c0_1 := hc0 1 (by simp)
 have c0_2 := hc0 2 (by simp)
 have c0_3 := hc0 3 (by simp)
 have c0_4 := hc0 4 (by simp)
 simp only [List.getD_cons_zero, List.getD_cons_succ] at c0_0 c0_1 c0_2 c0_3 c0_4
 clear hc0
 clear Bx By
 go_wp2
 refine bodyPost_ret (v := .agg #[r0_p0, r0_q0, r0_p1, r0_q1, .bool false]) ?_ rfl ⟨_, rfl, E.below, ⟨_, rfl, hP0⟩⟩
 simp [results, Try.results12, go_sem, c0_0, c0_1, c0_2, c0_3, c0_4]

set_option maxRecDepth 100000 in
set_option maxHeartbeats 4000000 in
theorem exLAdd {w : World} {v v' u : Value} {A B M : Int} {P Q : Pt} (h : (Fq.st [.n A, .n B, .n M]).P v w) (h' : (Fq.pt P).P v' w) (h2 : (Fq.pt Q).P u w) (hM : ab M < pw 5) (hA : ab A < pw 5) (hB : ab B < pw 5) (hP : ab P.x < pw 5 ∧ ab P.y < pw 5) (hQ : ab Q.x < pw 5 ∧ ab Q.y < pw 5) {R : Pt × Int × Int} (hR : addS A B M P Q = R) :
  Calls Try.prog 13 #[v, v', u] w fun e w' => ∃ v', e = .returned v' ∧ Below w.heap.size w w' ∧ (Fq.sm R).P v' w' := by
 replace hM := hidd hM
 replace hA := hidd hA
 replace hB := hidd hB
 replace hP := hidd hP
 replace hQ := hidd hQ
 replace hR := hidd hR
 obtain ⟨_, rfl, hf0⟩ := h
 have hF0 := hf0
 obtain ⟨y0_p0, y0_q0, _, rfl, _y0_n0, y0_p1, y0_q1, _, rfl, _y0_n1, y0_p2, y0_q2, _, rfl, _y0_n2, rfl⟩ := hf0
 obtain ⟨_, rfl, hf1⟩ := h'
 have hF1 := hf1
 obtain ⟨y1_p0, y1_q0, _, rfl, _y1_n0, y1_p1, y1_q1, _, rfl, _y1_n1, _, rfl, _, rfl⟩ := hf1
 obtain ⟨_, rfl, hf2⟩ := h2
 have hF2 := hf2
 obtain ⟨y2_p0, y2_q0, _, rfl, _y2_n0, y2_p1, y2_q1, _, rfl, _y2_n1, _, rfl, _, rfl⟩ := hf2
 obtain ⟨w1, b1, hw1, hb1, hs1, E⟩ := fr_start w (F := Fq.st [.n A, .n B, .n M]) (us := [y0_p0, y0_q0, y0_p1, y0_q1, y0_p2, y0_q2]) 31 rfl (by simp) (hF0.tame) (show (Fq.st [.n A, .n B, .n M]).P _ w from ⟨_, rfl, hF0⟩)
 obtain ⟨w2, b2, hw2, hb2, hs2, E⟩ := fr_more E hs1 (F := Fq.st [.n P.x, .n P.y, .v (.bool P.i)]) (us := [y1_p0, y1_q0, y1_p1, y1_q1, .bool P.i]) 37 rfl (by simp) (hF1.tame) ((Fq.st [.n P.x, .n P.y, .v (.bool P.i)]).mono (show (Fq.st [.n P.x, .n P.y, .v (.bool P.i)]).P _ w from ⟨_, rfl, hF1⟩) E.below)
 obtain ⟨w3, b3, hw3, hb3, hs3, E⟩ := fr_more E hs2 (F := Fq.st [.n Q.x, .n Q.y, .v (.bool Q.i)]) (us := [y2_p0, y2_q0, y2_p1, y2_q1, .bool Q.i]) 37 rfl (by simp) (hF2.tame) ((Fq.st [.n Q.x, .n Q.y, .v (.bool Q.i)]).mono (show (Fq.st [.n Q.x, .n Q.y, .v (.bool Q.i)]).P _ w from ⟨_, rfl, hF2⟩) E.below)
 obtain ⟨w4, b4, hw4, hb4, hs4, E⟩ := fr_more E hs3 (F := Fq.st [.n 0, .n 0, .v (.bool false), .n 0, .v (.int .i64 0)]) (us := [.bool false, .slice none 0 0, .bool false, .slice none 0 0, .bool false, .bool false, .slice none 0 0, .int .i64 0]) 41 rfl (by simp) ((Fits.tame (fits0_algoristref06_Sum w))) (fits0P_algoristref06_Sum _)
 go_enter Try.func13, Try.ntmps13
 go_upto_region 1 with (fail)
 rw [← hw1]
 rw [← hw2]
 rw [← hw3]
 rw [← hw4]
 rw [← hb4]
 rw [← hb3]
 rw [← hb2]
 rw [← hb1]
 clear hw1 hw2 hw3 hw4 hb1 hb2 hb3 hb4 hs4 hs1 hs2 hs3
 refine region_fr (C := [Fq.st [.n A, .n B, .n M], Fq.st [.n P.x, .n P.y, .v (.bool P.i)], Fq.st [.n Q.x, .n Q.y, .v (.bool Q.i)], Fq.tup3 (Fq.st [.n R.1.x, .n R.1.y, .v (.bool R.1.i)]) (Fq.num R.2.1) (Fq.is (.int .i64 R.2.2)), Fq.tup3 (Fq.st [.n R.1.x, .n R.1.y, .v (.bool R.1.i)]) (Fq.num R.2.1) (Fq.is (.int .i64 R.2.2)), Fq.st [.n R.1.x, .n R.1.y, .v (.bool R.1.i)], Fq.num R.2.1, Fq.is (.int .i64 R.2.2), Fq.any, Fq.any, Fq.any, Fq.any, Fq.is (.int .i64 R.2.2)]) (ks := [none, none, none, none]) (new := [⟨8, 10, 5, Fq.st [.n 0, .n 0, .v (.bool false)], Fq.st [.n R.1.x, .n R.1.y, .v (.bool R.1.i)], none⟩, ⟨9, 11, 2, Fq.num 0, Fq.num R.2.1, none⟩]) E rfl (by kernel_rfl) rfl rfl (fun hp => ⟨?_, ?_, ?_, ?_, ?_, ?_, ?_, ?_, ?_, ?_, ?_, ?_, ?_, trivial⟩) ?_
 ·exact q_loadSt (off := 0) (l := 6) (fs := [.n A, .n B, .n M]) (gs := [.n A, .n B, .n M]) hp (free_of rfl) trivial (mq 3 rfl) (.inl rfl) rfl row_api_Mod rfl (sqo 3) (fun v w h => h)
 ·exact q_loadSt (off := 0) (l := 5) (fs := [.n P.x, .n P.y, .v (.bool P.i)]) (gs := [.n P.x, .n P.y, .v (.bool P.i)]) hp (free_of rfl) trivial (mq 2 rfl) (.inl rfl) rfl row_api_Point rfl (sqo 4) (fun v w h => h)
 ·exact q_loadSt (off := 0) (l := 5) (fs := [.n Q.x, .n Q.y, .v (.bool Q.i)]) (gs := [.n Q.x, .n Q.y, .v (.bool Q.i)]) hp (free_of rfl) trivial (mq 1 rfl) (.inl rfl) rfl row_api_Point rfl (sqo 5) (fun v w h => h)
 ·exact q_call3 (F := (Fq.st [.n A, .n B, .n M]).P) (G := (Fq.st [.n P.x, .n P.y, .v (.bool P.i)]).P) (F3 := (Fq.st [.n Q.x, .n Q.y, .v (.bool Q.i)]).P) hp (free_of rfl) trivial (enq_f_algorist_point_Add) (sqi 0) (sqi 1) (sqi 2) (fun v v' u w h h' g => exAddS h h' g hM.out hA.out hB.out hP.out hQ.out hR.out)
 ·exact q_move hp (free_of rfl) trivial (sqi 3)
 ·exact q_extract3 hp (free_of rfl) trivial (sqi 4) (fun v1 v2 v3 w h1 h2 h3 => ⟨_, rfl, h1⟩)
 ·exact q_extract3 hp (free_of rfl) trivial (sqi 4) (fun v1 v2 v3 w h1 h2 h3 => ⟨_, rfl, h2⟩)
 ·exact q_extract3 hp (free_of rfl) trivial (sqi 4) (fun v1 v2 v3 w h1 h2 h3 => ⟨_, rfl, h3⟩)
 ·exact q_allocSt (us := [.bool false, .slice none 0 0, .bool false, .slice none 0 0, .bool false]) (fs := [.n 0, .n 0, .v (.bool false)]) hp (mq 0 rfl) rfl rfl rfl (Nat.lt_of_sub_eq_succ rfl) rfl fits0_api_Point (fun ρ w => ralloc_api_Point ρ w) rfl (Nat.ne_of_beq_eq_false rfl) (fun _ _ => trivial) (old_ne rfl) (newk_ne rfl)
 ·exact q_allocInt hp (mq 1 rfl) rfl rfl rfl rfl (Nat.ne_of_beq_eq_false rfl) (fun _ _ => trivial) (old_ne rfl) (newk_ne rfl) (fun w => Num.zero w)
 ·exact q_storeNewSt (fs := [.n 0, .n 0, .v (.bool false)]) (gs := [.n R.1.x, .n R.1.y, .v (.bool R.1.i)]) hp (mq 0 rfl) rfl rfl rfl rfl size_api_Point rfl (own_ptr rfl rfl (by simp) rfl) (sq_in 5 rfl rfl (by simp) rfl (fun v w h => fitv_st h)) (fun _ _ => trivial) (old_ne rfl) (newi_ne rfl)
 ·exact q_storeNewInt hp (mq 1 rfl) rfl rfl rfl (own_ptr rfl rfl (by simp) rfl) (sq_in 6 rfl rfl (by simp) rfl (fun v w h => intV_num h)) (fun _ _ => trivial) (old_ne rfl) (newi_ne rfl)
 ·exact q_assign hp (free_of rfl) trivial (sqi 7)
 intro L vs w5 nb hL hC hn E5
 have e7 : vs 7 = .int .i64 R.2.2 := hC 7 (by simp)
 have e12 : vs 12 = .int .i64 R.2.2 := hC 12 (by simp)
 have e8 : vs 8 = .pointer (some ⟨nb 8, 0, none⟩) := hn _ (mq 0 rfl)
 have e9 : vs 9 = .pointer (some ⟨nb 9, 0, none⟩) := hn _ (mq 1 rfl)
 have E : Fr w [(nb 8, 5, Fq.st [.n R.1.x, .n R.1.y, .v (.bool R.1.i)]), (nb 9, 2, Fq.num R.2.1), (b4, 8, Fq.st [.n 0, .n 0, .v (.bool false), .n 0, .v (.int .i64 0)]), (b3, 5, Fq.st [.n Q.x, .n Q.y, .v (.bool Q.i)]), (b2, 5, Fq.st [.n P.x, .n P.y, .v (.bool P.i)]), (b1, 6, Fq.st [.n A, .n B, .n M])] w5 := E5
 rw [lay_all hL]
 simp only [putAll, dstOf, List.length_cons, List.length_nil, Nat.zero_add, Nat.reduceAdd, List.getElem?_toArray, List.getElem?_cons_zero, List.getElem?_cons_succ, Option.bind_some, Act.put, List.setIfInBounds_toArray, List.set_cons_succ, List.set_cons_zero]
 rw [e7, e12, e8, e9]
 generalize nb 8 = b5_8 at E ⊢
 generalize nb 9 = b5_9 at E ⊢
 generalize vs 0 = u5_0
 generalize vs 1 = u5_1
 generalize vs 2 = u5_2
 generalize vs 3 = u5_3
 generalize vs 4 = u5_4
 generalize vs 5 = u5_5
 generalize vs 6 = u5_6
 clear e7 e12 e8 e9 hC hn E5 hL vs L nb
 go_upto_region 2 with (fail)
 refine region_fr (C := [Fq.st [.n R.1.x, .n R.1.y, .v (.bool R.1.i)], Fq.num R.2.1, Fq.is (.int .i64 R.2.2), Fq.st [.n R.1.x, .n R.1.y, .v (.bool R.1.i), .n R.2.1, .v (.int .i64 R.2.2)], Fq.any]) (ks := [none, none, some (4, Fq.st [.n R.1.x, .n R.1.y, .v (.bool R.1.i), .n R.2.1, .v (.int .i64 R.2.2)]), none, none, none]) (new := []) E rfl (by kernel_rfl) rfl rfl (fun hp => ⟨?_, ?_, ?_, ?_, ?_, trivial⟩) ?_
 ·exact q_loadSt (off := 0) (l := 5) (fs := [.n R.1.x, .n R.1.y, .v (.bool R.1.i)]) (gs := [.n R.1.x, .n R.1.y, .v (.bool R.1.i)]) hp (free_of rfl) trivial (mq 0 rfl) (.inl rfl) rfl row_api_Point rfl (sqo 7) (fun v w h => h)
 ·exact q_loadInt (off := 0) hp (free_of rfl) trivial (mq 1 rfl) (.inl rfl) (Nat.le_of_ble_eq_true rfl) (sqo 8) (fun us w hl h => ld_num hl h)
 ·exact q_move hp (free_of rfl) trivial (sqo 9)
 ·exact q_build_algoristref06_Sum_012 (z1 := R.2.1) (u2 := R.2.2) (z0_0 := R.1.x) (z0_1 := R.1.y) (u0_2 := R.1.i) hp (free_of rfl) trivial (sqi 0) (sqi 1) (sqi 2) (fun v w h => h)
 ·exact q_storeOldSt (off := 0) (fs := [.n 0, .n 0, .v (.bool false), .n 0, .v (.int .i64 0)]) (gs := [.n R.1.x, .n R.1.y, .v (.bool R.1.i), .n R.2.1, .v (.int .i64 R.2.2)]) (fs' := [.n R.1.x, .n R.1.y, .v (.bool R.1.i), .n R.2.1, .v (.int .i64 R.2.2)]) hp (mq 2 rfl) rfl rfl rfl size_algoristref06_Sum rfl (sqo 6) (sq_in 3 rfl rfl (by simp) rfl (fun v w h => fitv_st h)) (fun _ _ => trivial) (newik_ne rfl)
 intro L vs w6 nb hL hC hn E6
 have e2 : vs 2 = .int .i64 R.2.2 := hC 2 (by simp)
 have E : Fr w [(b5_8, 5, Fq.st [.n R.1.x, .n R.1.y, .v (.bool R.1.i)]), (b5_9, 2, Fq.num R.2.1), (b4, 8, Fq.st [.n R.1.x, .n R.1.y, .v (.bool R.1.i), .n R.2.1, .v (.int .i64 R.2.2)]), (b3, 5, Fq.st [.n Q.x, .n Q.y, .v (.bool Q.i)]), (b2, 5, Fq.st [.n P.x, .n P.y, .v (.bool P.i)]), (b1, 6, Fq.st [.n A, .n B, .n M])] w6 := E6
 rw [lay_all hL]
 simp only [putAll, dstOf, List.length_cons, List.length_nil, Nat.zero_add, Nat.reduceAdd, List.getElem?_toArray, List.getElem?_cons_zero, List.getElem?_cons_succ, Option.bind_some, Act.put, List.setIfInBounds_toArray, List.set_cons_succ, List.set_cons_zero]
 rw [e2]
 generalize vs 0 = u6_0
 generalize vs 1 = u6_1
 generalize vs 3 = u6_3
 clear e2 hC hn E6 hL vs L nb
 clear hR
 obtain ⟨_, _, hc0, hf0⟩ := box_st (E.box 2 rfl)
 have hP0 := hf0
 obtain ⟨r0_p0, r0_q0, _, rfl, _r0_n0, r0_p1, r0_q1, _, rfl, _r0_n1, _, rfl, _, r0_p3, r0_q3, _, rfl, _r0_n3, _, rfl, _, rfl⟩ := hf0
 have c0_0 := hc0 0 (by simp)
 have c0_1 := hc0 1 (by simp)
 have c0_2 := hc0 2 (by simp)
 have c0_3 := hc0 3 (by simp)
 have c0_4 := hc0 4 (by simp)
 have c0_5 := hc0 5 (by simp)
 have c0_6 := hc0 6 (by simp)
 have c0_7 := hc0 7 (by simp)
 simp only [List.getD_cons_zero, List.getD_cons_succ] at c0_0 c0_1 c0_2 c0_3 c0_4 c0_5 c0_6 c0_7
 clear hc0
 clear hM hA hB hP hQ
 go_wp2
 refine bodyPost_ret (v := .agg #[r0_p0, r0_q0, r0_p1, r0_q1, .bool R.1.i, r0_p3, r0_q3, .int .i64 R.2.2]) ?_ rfl ⟨_, rfl, E.below, ⟨_, rfl, hP0⟩⟩
 simp [results, Try.results13, go_sem, c0_0, c0_1, c0_2, c0_3, c0_4, c0_5, c0_6, c0_7]

set_option maxRecDepth 100000 in
set_option maxHeartbeats 4000000 in
theorem exLTimes {w : World} {v v' u : Value} {A B M n : Int} {P : Pt} (h : (Fq.st [.n A, .n B, .n M]).P v w) (h' : Num w v' n) (g : (Fq.pt P).P u w) (hM : ab M < pw 5) (hA : ab A < pw 5) (hB : ab B < pw 5) (hn : ab n < pw 20) (hP : ab P.x < pw 5 ∧ ab P.y < pw 5) {R : Pt × Int × Int} (hR : timesS A B M n P = R) :
  Calls Try.prog 18 #[v, v', u] w fun e w' => ∃ v', e = .returned v' ∧ Below w.heap.size w w' ∧ (Fq.sm R).P v' w' := by
 replace hM := hidd hM
 replace hA := hidd hA
 replace hB := hidd hB
 replace hn := hidd hn
 replace hP := hidd hP
 replace hR := hidd hR
 obtain ⟨_, rfl, hf0⟩ := h
 have hF0 := hf0
 obtain ⟨y0_p0, y0_q0, _, rfl, _y0_n0, y0_p1, y0_q1, _, rfl, _y0_n1, y0_p2, y0_q2, _, rfl, _y0_n2, rfl⟩ := hf0
 obtain ⟨n1, ao1, k1, c1, rfl⟩ := h'.parts
 obtain ⟨_, rfl, hf2⟩ := g
 have hF2 := hf2
 obtain ⟨y2_p0, y2_q0, _, rfl, _y2_n0, y2_p1, y2_q1, _, rfl, _y2_n1, _, rfl, _, rfl⟩ := hf2
 obtain ⟨w1, b1, hw1, hb1, hs1, E⟩ := fr_start w (F := Fq.st [.n A, .n B, .n M]) (us := [y0_p0, y0_q0, y0_p1, y0_q1, y0_p2, y0_q2]) 31 rfl (by simp) (hF0.tame) (show (Fq.st [.n A, .n B, .n M]).P _ w from ⟨_, rfl, hF0⟩)
 obtain ⟨w2, b2, hw2, hb2, hs2, E⟩ := fr_more E hs1 (F := Fq.num n) (us := [.bool n1, .slice ao1 k1 c1]) 29 rfl (by simp) (tame_int _ _ _ _) (h'.mono E.below)
 obtain ⟨w3, b3, hw3, hb3, hs3, E⟩ := fr_more E hs2 (F := Fq.st [.n P.x, .n P.y, .v (.bool P.i)]) (us := [y2_p0, y2_q0, y2_p1, y2_q1, .bool P.i]) 37 rfl (by simp) (hF2.tame) ((Fq.st [.n P.x, .n P.y, .v (.bool P.i)]).mono (show (Fq.st [.n P.x, .n P.y, .v (.bool P.i)]).P _ w from ⟨_, rfl, hF2⟩) E.below)
 obtain ⟨w4, b4, hw4, hb4, hs4, E⟩ := fr_more E hs3 (F := Fq.st [.n 0, .n 0, .v (.bool false), .n 0, .v (.int .i64 0)]) (us := [.bool false, .slice none 0 0, .bool false, .slice none 0 0, .bool false, .bool false, .slice none 0 0, .int .i64 0]) 41 rfl (by simp) ((Fits.tame (fits0_algoristref06_Sum w))) (fits0P_algoristref06_Sum _)
 go_enter Try.func18, Try.ntmps18
 go_upto_region 1 with (fail)
 rw [← hw1]
 rw [← hw2]
 rw [← hw3]
 rw [← hw4]
 rw [← hb4]
 rw [← hb3]
 rw [← hb2]
 rw [← hb1]
 clear hw1 hw2 hw3 hw4 hb1 hb2 hb3 hb4 hs4 hs1 hs2 hs3
 refine region_fr (C := [Fq.st [.n A, .n B, .n M], Fq.num n, Fq.st [.n P.x, .n P.y, .v (.bool P.i)], Fq.tup3 (Fq.st [.n R.1.x, .n R.1.y, .v (.bool R.1.i)]) (Fq.num R.2.1) (Fq.is (.int .i64 R.2.2)), Fq.tup3 (Fq.st [.n R.1.x, .n R.1.y, .v (.bool R.1.i)]) (Fq.num R.2.1) (Fq.is (.int .i64 R.2.2)), Fq.st [.n R.1.x, .n R.1.y, .v (.bool R.1.i)], Fq.num R.2.1, Fq.is (.int .i64 R.2.2), Fq.any, Fq.any, Fq.any, Fq.any, Fq.is (.int .i64 R.2.2)]) (ks := [none, none, none, none]) (new := [⟨8, 10, 5, Fq.st [.n 0, .n 0, .v (.bool false)], Fq.st [.n R.1.x, .n R.1.y, .v (.bool R.1.i)], none⟩, ⟨9, 11, 2, Fq.num 0, Fq.num R.2.1, none⟩]) E rfl (by kernel_rfl) rfl rfl (fun hp => ⟨?_, ?_, ?_, ?_, ?_, ?_, ?_, ?_, ?_, ?_, ?_, ?_, ?_, trivial⟩) ?_
 ·exact q_loadSt (off := 0) (l := 6) (fs := [.n A, .n B, .n M]) (gs := [.n A, .n B, .n M]) hp (free_of rfl) trivial (mq 3 rfl) (.inl rfl) rfl row_api_Mod rfl (sqo 3) (fun v w h => h)
 ·exact q_loadInt (off := 0) hp (free_of rfl) trivial (mq 2 rfl) (.inl rfl) (Nat.le_of_ble_eq_true rfl) (sqo 4) (fun us w hl h => ld_num hl h)
 ·exact q_loadSt (off := 0) (l := 5) (fs := [.n P.x, .n P.y, .v (.bool P.i)]) (gs := [.n P.x, .n P.y, .v (.bool P.i)]) hp (free_of rfl) trivial (mq 1 rfl) (.inl rfl) rfl row_api_Point rfl (sqo 5) (fun v w h => h)
 ·exact q_call3 (F := (Fq.st [.n A, .n B, .n M]).P) (G := (Fq.num n).P) (F3 := (Fq.st [.n P.x, .n P.y, .v (.bool P.i)]).P) hp (free_of rfl) trivial (enq_f_algorist_point_Times) (sqi 0) (sqi 1) (sqi 2) (fun v v' u w h h' g => exTimesS h h' g hM.out hA.out hB.out hn.out hP.out hR.out)
 ·exact q_move hp (free_of rfl) trivial (sqi 3)
 ·exact q_extract3 hp (free_of rfl) trivial (sqi 4) (fun v1 v2 v3 w h1 h2 h3 => ⟨_, rfl, h1⟩)
 ·exact q_extract3 hp (free_of rfl) trivial (sqi 4) (fun v1 v2 v3 w h1 h2 h3 => ⟨_, rfl, h2⟩)
 ·exact q_extract3 hp (free_of rfl) trivial (sqi 4) (fun v1 v2 v3 w h1 h2 h3 => ⟨_, rfl, h3⟩)
 ·exact q_allocSt (us := [.bool false, .slice none 0 0, .bool false, .slice none 0 0, .bool false]) (fs := [.n 0, .n 0, .v (.bool false)]) hp (mq 0 rfl) rfl rfl rfl (Nat.lt_of_sub_eq_succ rfl) rfl fits0_api_Point (fun ρ w => ralloc_api_Point ρ w) rfl (Nat.ne_of_beq_eq_false rfl) (fun _ _ => trivial) (old_ne rfl) (newk_ne rfl)
 ·exact q_allocInt hp (mq 1 rfl) rfl rfl rfl rfl (Nat.ne_of_beq_eq_false rfl) (fun _ _ => trivial) (old_ne rfl) (newk_ne rfl) (fun w => Num.zero w)
 ·exact q_storeNewSt (fs := [.n 0, .n 0, .v (.bool false)]) (gs := [.n R.1.x, .n R.1.y, .v (.bool R.1.i)]) hp (mq 0 rfl) rfl rfl rfl rfl size_api_Point rfl (own_ptr rfl rfl (by simp) rfl) (sq_in 5 rfl rfl (by simp) rfl (fun v w h => fitv_st h)) (fun _ _ => trivial) (old_ne rfl) (newi_ne rfl)
 ·exact q_storeNewInt hp (mq 1 rfl) rfl rfl rfl (own_ptr rfl rfl (by simp) rfl) (sq_in 6 rfl rfl (by simp) rfl (fun v w h => intV_num h)) (fun _ _ => trivial) (old_ne rfl) (newi_ne rfl)
 ·exact q_assign hp (free_of rfl) trivial (sqi 7)
 intro L vs w5 nb hL hC hn E5
 have e7 : vs 7 = .int .i64 R.2.2 := hC 7 (by simp)
 have e12 : vs 12 = .int .i64 R.2.2 := hC 12 (by simp)
 have e8 : vs 8 = .pointer (some ⟨nb 8, 0, none⟩) := hn _ (mq 0 rfl)
 have e9 : vs 9 = .pointer (some ⟨nb 9, 0, none⟩) := hn _ (mq 1 rfl)
 have E : Fr w [(nb 8, 5, Fq.st [.n R.1.x, .n R.1.y, .v (.bool R.1.i)]), (nb 9, 2, Fq.num R.2.1), (b4, 8, Fq.st [.n 0, .n 0, .v (.bool false), .n 0, .v (.int .i64 0)]), (b3, 5, Fq.st [.n P.x, .n P.y, .v (.bool P.i)]), (b2, 2, Fq.num n), (b1, 6, Fq.st [.n A, .n B, .n M])] w5 := E5
 rw [lay_all hL]
 simp only [putAll, dstOf, List.length_cons, List.length_nil, Nat.zero_add, Nat.reduceAdd, List.getElem?_toArray, List.getElem?_cons_zero, List.getElem?_cons_succ, Option.bind_some, Act.put, List.setIfInBounds_toArray, List.set_cons_succ, List.set_cons_zero]
 rw [e7, e12, e8, e9]
 generalize nb 8 = b5_8 at E ⊢
 generalize nb 9 = b5_9 at E ⊢
 generalize vs 0 = u5_0
 generalize vs 1 = u5_1
 generalize vs 2 = u5_2
 generalize vs 3 = u5_3
 generalize vs 4 = u5_4
 generalize vs 5 = u5_5
 generalize vs 6 = u5_6
 clear e7 e12 e8 e9 hC hn E5 hL vs L nb
 go_upto_region 2 with (fail)
 refine region_fr (C := [Fq.st [.n R.1.x, .n R.1.y, .v (.bool R.1.i)], Fq.num R.2.1, Fq.is (.int .i64 R.2.2), Fq.st [.n R.1.x, .n R.1.y, .v (.bool R.1.i), .n R.2.1, .v (.int .i64 R.2.2)], Fq.any]) (ks := [none, none, some (4, Fq.st [.n R.1.x, .n R.1.y, .v (.bool R.1.i), .n R.2.1, .v (.int .i64 R.2.2)]), none, none, none]) (new := []) E rfl (by kernel_rfl) rfl rfl (fun hp => ⟨?_, ?_, ?_, ?_, ?_, trivial⟩) ?_
 ·exact q_loadSt (off := 0) (l := 5) (fs := [.n R.1.x, .n R.1.y, .v (.bool R.1.i)]) (gs := [.n R.1.x, .n R.1.y, .v (.bool R.1.i)]) hp (free_of rfl) trivial (mq 0 rfl) (.inl rfl) rfl row_api_Point rfl (sqo 7) (fun v w h => h)
 ·exact q_loadInt (off := 0) hp (free_of rfl) trivial (mq 1 rfl) (.inl rfl) (Nat.le_of_ble_eq_true rfl) (sqo 8) (fun us w hl h => ld_num hl h)
 ·exact q_move hp (free_of rfl) trivial (sqo 9)
 ·exact q_build_algoristref06_Sum_012 (z1 := R.2.1) (u2 := R.2.2) (z0_0 := R.1.x) (z0_1 := R.1.y) (u0_2 := R.1.i) hp (free_of rfl) trivial (sqi 0) (sqi 1) (sqi 2) (fun v w h => h)
 ·exact q_storeOldSt (off := 0) (fs := [.n 0, .n 0, .v (.bool false), .n 0, .v (.int .i64 0)]) (gs := [.n R.1.x, .n R.1.y, .v (.bool R.1.i), .n R.2.1, .v (.int .i64 R.2.2)]) (fs' := [.n R.1.x, .n R.1.y, .v (.bool R.1.i), .n R.2.1, .v (.int .i64 R.2.2)]) hp (mq 2 rfl) rfl rfl rfl size_algoristref06_Sum rfl (sqo 6) (sq_in 3 rfl rfl (by simp) rfl (fun v w h => fitv_st h)) (fun _ _ => trivial) (newik_ne rfl)
 intro L vs w6 nb hL hC hn E6
 have e2 : vs 2 = .int .i64 R.2.2 := hC 2 (by simp)
 have E : Fr w [(b5_8, 5, Fq.st [.n R.1.x, .n R.1.y, .v (.bool R.1.i)]), (b5_9, 2, Fq.num R.2.1), (b4, 8, Fq.st [.n R.1.x, .n R.1.y, .v (.bool R.1.i), .n R.2.1, .v (.int .i64 R.2.2)]), (b3, 5, Fq.st [.n P.x, .n P.y, .v (.bool P.i)]), (b2, 2, Fq.num n), (b1, 6, Fq.st [.n A, .n B, .n M])] w6 := E6
 rw [lay_all hL]
 simp only [putAll, dstOf, List.length_cons, List.length_nil, Nat.zero_add, Nat.reduceAdd, List.getElem?_toArray, List.getElem?_cons_zero, List.getElem?_cons_succ, Option.bind_some, Act.put, List.setIfInBounds_toArray, List.set_cons_succ, List.set_cons_zero]
 rw [e2]
 generalize vs 0 = u6_0
 generalize vs 1 = u6_1
 generalize vs 3 = u6_3
 clear e2 hC hn E6 hL vs L nb
 clear hR
 obtain ⟨_, _, hc0, hf0⟩ := box_st (E.box 2 rfl)
 have hP0 := hf0
 obtain ⟨r0_p0, r0_q0, _, rfl, _r0_n0, r0_p1, r0_q1, _, rfl, _r0_n1, _, rfl, _, r0_p3, r0_q3, _, rfl, _r0_n3, _, rfl, _, rfl⟩ := hf0
 have c0_0 := hc0 0 (by simp)
 have c0_1 := hc0 1 (by simp)
 have c0_2 := hc0 2 (by simp)
 have c0_3 := hc0 3 (by simp)
 have c0_4 := hc0 4 (by simp)
 have c0_5 := hc0 5 (by simp)
 have c0_6 := hc0 6 (by simp)
 have c0_7 := hc0 7 (by simp)
 simp only [List.getD_cons_zero, List.getD_cons_succ] at c0_0 c0_1 c0_2 c0_3 c0_4 c0_5 c0_6 c0_7
 clear hc0
 clear hM hA hB hn hP
 go_wp2
 refine bodyPost_ret (v := .agg #[r0_p0, r0_q0, r0_p1, r0_q1, .bool R.1.i, r0_p3, r0_q3, .int .i64 R.2.2]) ?_ rfl ⟨_, rfl, E.below, ⟨_, rfl, hP0⟩⟩
 simp [results, Try.results18, go_sem, c0_0, c0_1, c0_2, c0_3, c0_4, c0_5, c0_6, c0_7]

set_option maxRecDepth 100000 in
set_option maxHeartbeats 4000000 in
theorem exPtSame {w : World} {v v' : Value} {P Q : Pt} (h : (Fq.pt P).P v w) (h' : (Fq.pt Q).P v' w) {t : Bool} (ht : sameP P Q = t) :
  Calls Try.prog 14 #[v, v'] w fun e w' => ∃ v', e = .returned v' ∧ Below w.heap.size w w' ∧ v' = .bool t := by
 obtain ⟨_, rfl, hf0⟩ := h
 have hF0 := hf0
 obtain ⟨y0_p0, y0_q0, _, rfl, _y0_n0, y0_p1, y0_q1, _, rfl, _y0_n1, _, rfl, _, rfl⟩ := hf0
 obtain ⟨_, rfl, hf1⟩ := h'
 have hF1 := hf1
 obtain ⟨y1_p0, y1_q0, _, rfl, _y1_n0, y1_p1, y1_q1, _, rfl, _y1_n1, _, rfl, _, rfl⟩ := hf1
 obtain ⟨w1, b1, hw1, hb1, hs1, E⟩ := fr_start w (F := Fq.st [.n P.x, .n P.y, .v (.bool P.i)]) (us := [y0_p0, y0_q0, y0_p1, y0_q1, .bool P.i]) 37 rfl (by simp) (hF0.tame) (show (Fq.st [.n P.x, .n P.y, .v (.bool P.i)]).P _ w from ⟨_, rfl, hF0⟩)
 obtain ⟨w2, b2, hw2, hb2, hs2, E⟩ := fr_more E hs1 (F := Fq.st [.n Q.x, .n Q.y, .v (.bool Q.i)]) (us := [y1_p0, y1_q0, y1_p1, y1_q1, .bool Q.i]) 37 rfl (by simp) (hF1.tame) ((Fq.st [.n Q.x, .n Q.y, .v (.bool Q.i)]).mono (show (Fq.st [.n Q.x, .n Q.y, .v (.bool Q.i)]).P _ w from ⟨_, rfl, hF1⟩) E.below)
 go_enter Try.func14, Try.ntmps14
 go_upto_region 1 with (fail)
 rw [← hw1]
 rw [← hw2]
 rw [← hb2]
 rw [← hb1]
 clear hw1 hw2 hb1 hb2 hs2 hs1
 go_upto_region 1 with (fail)
 by_cases hi : P.i = Q.i
 ·by_cases hx : P.x = Q.x
  ·by_cases hy : P.y = Q.y
   ·have ht2 : t = true := ht.symm.trans (by unfold sameP; rw [hi, hx, hy]; simp)
    subst ht2
    clear ht
    have HI := hidd (decide_eq_true hi)
    have HX := hidd (decide_eq_true hx)
    have HY := hidd (decide_eq_true hy)
    have HI2 : Hid ((P.i == Q.i) = true) := by show _ = _; rw [hi]; simp
    clear hi hx hy HI
    refine region_fr (C := [Fq.is (.pointer (some ⟨b1, 4, none⟩)), Fq.is (.bool P.i), Fq.is (.pointer (some ⟨b2, 4, none⟩)), Fq.is (.bool Q.i), Fq.is (.bool true), Fq.is (.bool true), Fq.is (.pointer (some ⟨b1, 0, none⟩)), Fq.num P.x, Fq.is (.pointer (some ⟨b2, 0, none⟩)), Fq.num Q.x, Fq.is (.bool true), Fq.is (.bool true), Fq.is (.bool true), Fq.is (.pointer (some ⟨b1, 2, none⟩)), Fq.num P.y, Fq.is (.pointer (some ⟨b2, 2, none⟩)), Fq.num Q.y, Fq.is (.bool true), Fq.is (.bool true), Fq.is (.bool true)]) (ks := [none, none]) (new := []) E rfl (by kernel_rfl) rfl rfl (fun hp => ⟨?_, ?_, ?_, ?_, ?_, ?_, ?_, ?_, ?_, ?_, ?_, ?_, ?_, ?_, ?_, ?_, ?_, ?_, ?_, ?_, trivial⟩) ?_
    ·exact q_addr (b := b1) (off := 0) (off' := 4) hp (free_of rfl) trivial (sqo 2) (fun ρ w h => by simp [execOp, go_sem, h]) (fun _ => rfl)
    ·exact q_load1 (off := 4) (fs := [.n P.x, .n P.y, .v (.bool P.i)]) (u := .bool P.i) hp (free_of rfl) trivial (mq 1 rfl) (.inl rfl) rfl rfl (fun ρ w b h1 h2 => by simp [execOp, go_sem, h1, h2]) (sqi 0) (fun _ => rfl)
    ·exact q_addr (b := b2) (off := 0) (off' := 4) hp (free_of rfl) trivial (sqo 3) (fun ρ w h => by simp [execOp, go_sem, h]) (fun _ => rfl)
    ·exact q_load1 (off := 4) (fs := [.n Q.x, .n Q.y, .v (.bool Q.i)]) (u := .bool Q.i) hp (free_of rfl) trivial (mq 0 rfl) (.inl rfl) rfl rfl (fun ρ w b h1 h2 => by simp [execOp, go_sem, h1, h2]) (sqi 2) (fun _ => rfl)
    ·exact q_two (F := fun v _ => v = .bool P.i) (G := fun v _ => v = .bool Q.i) hp (free_of rfl) trivial (sqi 1) (sqi 3) (fun ρ w hc h h' => ⟨.bool true, by simp [execOp, go_sem, h, h', HI2.out], rfl⟩)
    ·exact q_move hp (free_of rfl) trivial (sqi 4)
    ·exact q_addr (b := b1) (off := 0) (off' := 0) hp (free_of rfl) gqi (sqo 2) (fun ρ w h => by simp [execOp, go_sem, h]) (fun _ => rfl)
    ·exact q_loadSt (off := 0) (l := 2) (fs := [.n P.x, .n P.y, .v (.bool P.i)]) (gs := [.n P.x]) hp (free_of rfl) gqi (mq 1 rfl) (.inl rfl) rfl row_api_Int rfl (sqi 6) (fun v w h => st_num h)
    ·exact q_addr (b := b2) (off := 0) (off' := 0) hp (free_of rfl) gqi (sqo 3) (fun ρ w h => by simp [execOp, go_sem, h]) (fun _ => rfl)
    ·exact q_loadSt (off := 0) (l := 2) (fs := [.n Q.x, .n Q.y, .v (.bool Q.i)]) (gs := [.n Q.x]) hp (free_of rfl) gqi (mq 0 rfl) (.inl rfl) rfl row_api_Int rfl (sqi 8) (fun v w h => st_num h)
    ·exact q_call2 (F := (Fq.num P.x).P) (G := (Fq.num Q.x).P) hp (free_of rfl) gqi (enq_R_Same) (sqi 7) (sqi 9) (fun v v' w h h' => exRSameB h h' HX.out)
    ·exact q_two (F := fun v _ => v = .bool true) (G := fun v _ => v = .bool true) hp (free_of rfl) trivial (sqi 5) (sqi 10) (fun ρ w hc h h' => ⟨_, by simp [execOp, go_sem, h, h'], rfl⟩)
    ·exact q_move hp (free_of rfl) trivial (sqi 11)
    ·exact q_addr (b := b1) (off := 0) (off' := 2) hp (free_of rfl) gqi (sqo 2) (fun ρ w h => by simp [execOp, go_sem, h]) (fun _ => rfl)
    ·exact q_loadSt (off := 2) (l := 2) (fs := [.n P.x, .n P.y, .v (.bool P.i)]) (gs := [.n P.y]) hp (free_of rfl) gqi (mq 1 rfl) (.inl rfl) rfl row_api_Int rfl (sqi 13) (fun v w h => st_num h)
    ·exact q_addr (b := b2) (off := 0) (off' := 2) hp (free_of rfl) gqi (sqo 3) (fun ρ w h => by simp [execOp, go_sem, h]) (fun _ => rfl)
    ·exact q_loadSt (off := 2) (l := 2) (fs := [.n Q.x, .n Q.y, .v (.bool Q.i)]) (gs := [.n Q.y]) hp (free_of rfl) gqi (mq 0 rfl) (.inl rfl) rfl row_api_Int rfl (sqi 15) (fun v w h => st_num h)
    ·exact q_call2 (F := (Fq.num P.y).P) (G := (Fq.num Q.y).P) hp (free_of rfl) gqi (enq_R_Same) (sqi 14) (sqi 16) (fun v v' w h h' => exRSameB h h' HY.out)
    ·exact q_two (F := fun v _ => v = .bool true) (G := fun v _ => v = .bool true) hp (free_of rfl) trivial (sqi 12) (sqi 17) (fun ρ w hc h h' => ⟨_, by simp [execOp, go_sem, h, h'], rfl⟩)
    ·exact q_assign hp (free_of rfl) trivial (sqi 18)
    intro L vs w3 nb hL hC hn E3
    have e0 : vs 0 = .pointer (some ⟨b1, 4, none⟩) := hC 0 (by simp)
    have e1 : vs 1 = .bool P.i := hC 1 (by simp)
    have e2 : vs 2 = .pointer (some ⟨b2, 4, none⟩) := hC 2 (by simp)
    have e3 : vs 3 = .bool Q.i := hC 3 (by simp)
    have e4 : vs 4 = .bool true := hC 4 (by simp)
    have e5 : vs 5 = .bool true := hC 5 (by simp)
    have e6 : vs 6 = .pointer (some ⟨b1, 0, none⟩) := hC 6 (by simp)
    have e8 : vs 8 = .pointer (some ⟨b2, 0, none⟩) := hC 8 (by simp)
    have e10 : vs 10 = .bool true := hC 10 (by simp)
    have e11 : vs 11 = .bool true := hC 11 (by simp)
    have e12 : vs 12 = .bool true := hC 12 (by simp)
    have e13 : vs 13 = .pointer (some ⟨b1, 2, none⟩) := hC 13 (by simp)
    have e15 : vs 15 = .pointer (some ⟨b2, 2, none⟩) := hC 15 (by simp)
    have e17 : vs 17 = .bool true := hC 17 (by simp)
    have e18 : vs 18 = .bool true := hC 18 (by simp)
    have e19 : vs 19 = .bool true := hC 19 (by simp)
    have E : Fr w [(b2, 5, Fq.st [.n Q.x, .n Q.y, .v (.bool Q.i)]), (b1, 5, Fq.st [.n P.x, .n P.y, .v (.bool P.i)])] w3 := E3
    rw [lay_all hL]
    simp only [putAll, dstOf, List.length_cons, List.length_nil, Nat.zero_add, Nat.reduceAdd, List.getElem?_toArray, List.getElem?_cons_zero, List.getElem?_cons_succ, Option.bind_some, Act.put, List.setIfInBounds_toArray, List.set_cons_succ, List.set_cons_zero]
    rw [e0, e1, e2, e3, e4, e5, e6, e8, e10, e11, e12, e13, e15, e17, e18, e19]
    generalize vs 7 = u3_7
    generalize vs 9 = u3_9
    generalize vs 14 = u3_14
    generalize vs 16 = u3_16
    clear e0 e1 e2 e3 e4 e5 e6 e8 e10 e11 e12 e13 e15 e17 e18 e19 hC hn E3 hL vs L nb
    clear HX HY HI2
    go_wp2
    refine bodyPost_ret (v := .bool true) ?_ rfl ⟨_, rfl, E.below, rfl⟩
    simp [results, Try.results14, go_sem]
   ·have ht2 : t = false := ht.symm.trans (by unfold sameP; simp [hy])
    subst ht2
    clear ht
    have HX := hidd (decide_eq_true hx)
    have HY := hidd (decide_eq_false hy)
    have HI2 : Hid ((P.i == Q.i) = true) := by show _ = _; rw [hi]; simp
    clear hi hx hy
    refine region_fr (C := [Fq.is (.pointer (some ⟨b1, 4, none⟩)), Fq.is (.bool P.i), Fq.is (.pointer (some ⟨b2, 4, none⟩)), Fq.is (.bool Q.i), Fq.is (.bool true), Fq.is (.bool true), Fq.is (.pointer (some ⟨b1, 0, none⟩)), Fq.num P.x, Fq.is (.pointer (some ⟨b2, 0, none⟩)), Fq.num Q.x, Fq.is (.bool true), Fq.is (.bool true), Fq.is (.bool true), Fq.is (.pointer (some ⟨b1, 2, none⟩)), Fq.num P.y, Fq.is (.pointer (some ⟨b2, 2, none⟩)), Fq.num Q.y, Fq.is (.bool false), Fq.is (.bool false), Fq.is (.bool false)]) (ks := [none, none]) (new := []) E rfl (by kernel_rfl) rfl rfl (fun hp => ⟨?_, ?_, ?_, ?_, ?_, ?_, ?_, ?_, ?_, ?_, ?_, ?_, ?_, ?_, ?_, ?_, ?_, ?_, ?_, ?_, trivial⟩) ?_
    ·exact q_addr (b := b1) (off := 0) (off' := 4) hp (free_of rfl) trivial (sqo 2) (fun ρ w h => by simp [execOp, go_sem, h]) (fun _ => rfl)
    ·exact q_load1 (off := 4) (fs := [.n P.x, .n P.y, .v (.bool P.i)]) (u := .bool P.i) hp (free_of rfl) trivial (mq 1 rfl) (.inl rfl) rfl rfl (fun ρ w b h1 h2 => by simp [execOp, go_sem, h1, h2]) (sqi 0) (fun _ => rfl)
    ·exact q_addr (b := b2) (off := 0) (off' := 4) hp (free_of rfl) trivial (sqo 3) (fun ρ w h => by simp [execOp, go_sem, h]) (fun _ => rfl)
    ·exact q_load1 (off := 4) (fs := [.n Q.x, .n Q.y, .v (.bool Q.i)]) (u := .bool Q.i) hp (free_of rfl) trivial (mq 0 rfl) (.inl rfl) rfl rfl (fun ρ w b h1 h2 => by simp [execOp, go_sem, h1, h2]) (sqi 2) (fun _ => rfl)
    ·exact q_two (F := fun v _ => v = .bool P.i) (G := fun v _ => v = .bool Q.i) hp (free_of rfl) trivial (sqi 1) (sqi 3) (fun ρ w hc h h' => ⟨.bool true, by simp [execOp, go_sem, h, h', HI2.out], rfl⟩)
    ·exact q_move hp (free_of rfl) trivial (sqi 4)
    ·exact q_addr (b := b1) (off := 0) (off' := 0) hp (free_of rfl) gqi (sqo 2) (fun ρ w h => by simp [execOp, go_sem, h]) (fun _ => rfl)
    ·exact q_loadSt (off := 0) (l := 2) (fs := [.n P.x, .n P.y, .v (.bool P.i)]) (gs := [.n P.x]) hp (free_of rfl) gqi (mq 1 rfl) (.inl rfl) rfl row_api_Int rfl (sqi 6) (fun v w h => st_num h)
    ·exact q_addr (b := b2) (off := 0) (off' := 0) hp (free_of rfl) gqi (sqo 3) (fun ρ w h => by simp [execOp, go_sem, h]) (fun _ => rfl)
    ·exact q_loadSt (off := 0) (l := 2) (fs := [.n Q.x, .n Q.y, .v (.bool Q.i)]) (gs := [.n Q.x]) hp (free_of rfl) gqi (mq 0 rfl) (.inl rfl) rfl row_api_Int rfl (sqi 8) (fun v w h => st_num h)
    ·exact q_call2 (F := (Fq.num P.x).P) (G := (Fq.num Q.x).P) hp (free_of rfl) gqi (enq_R_Same) (sqi 7) (sqi 9) (fun v v' w h h' => exRSameB h h' HX.out)
    ·exact q_two (F := fun v _ => v = .bool true) (G := fun v _ => v = .bool true) hp (free_of rfl) trivial (sqi 5) (sqi 10) (fun ρ w hc h h' => ⟨_, by simp [execOp, go_sem, h, h'], rfl⟩)
    ·exact q_move hp (free_of rfl) trivial (sqi 11)
    ·exact q_addr (b := b1) (off := 0) (off' := 2) hp (free_of rfl) gqi (sqo 2) (fun ρ w h => by simp [execOp, go_sem, h]) (fun _ => rfl)
    ·exact q_loadSt (off := 2) (l := 2) (fs := [.n P.x, .n P.y, .v (.bool P.i)]) (gs := [.n P.y]) hp (free_of rfl) gqi (mq 1 rfl) (.inl rfl) rfl row_api_Int rfl (sqi 13) (fun v w h => st_num h)
    ·exact q_addr (b := b2) (off := 0) (off' := 2) hp (free_of rfl) gqi (sqo 3) (fun ρ w h => by simp [execOp, go_sem, h]) (fun _ => rfl)
    ·exact q_loadSt (off := 2) (l := 2) (fs := [.n Q.x, .n Q.y, .v (.bool Q.i)]) (gs := [.n Q.y]) hp (free_of rfl) gqi (mq 0 rfl) (.inl rfl) rfl row_api_Int rfl (sqi 15) (fun v w h => st_num h)
    ·exact q_call2 (F := (Fq.num P.y).P) (G := (Fq.num Q.y).P) hp (free_of rfl) gqi (enq_R_Same) (sqi 14) (sqi 16) (fun v v' w h h' => exRSameB h h' HY.out)
    ·exact q_two (F := fun v _ => v = .bool true) (G := fun v _ => v = .bool false) hp (free_of rfl) trivial (sqi 12) (sqi 17) (fun ρ w hc h h' => ⟨_, by simp [execOp, go_sem, h, h'], rfl⟩)
    ·exact q_assign hp (free_of rfl) trivial (sqi 18)
    intro L vs w4 nb hL hC hn E4
    have e0 : vs 0 = .pointer (some ⟨b1, 4, none⟩) := hC 0 (by simp)
    have e1 : vs 1 = .bool P.i := hC 1 (by simp)
    have e2 : vs 2 = .pointer (some ⟨b2, 4, none⟩) := hC 2 (by simp)
    have e3 : vs 3 = .bool Q.i := hC 3 (by simp)
    have e4 : vs 4 = .bool true := hC 4 (by simp)
    have e5 : vs 5 = .bool true := hC 5 (by simp)
    have e6 : vs 6 = .pointer (some ⟨b1, 0, none⟩) := hC 6 (by simp)
    have e8 : vs 8 = .pointer (some ⟨b2, 0, none⟩) := hC 8 (by simp)
    have e10 : vs 10 = .bool true := hC 10 (by simp)
    have e11 : vs 11 = .bool true := hC 11 (by simp)
    have e12 : vs 12 = .bool true := hC 12 (by simp)
    have e13 : vs 13 = .pointer (some ⟨b1, 2, none⟩) := hC 13 (by simp)
    have e15 : vs 15 = .pointer (some ⟨b2, 2, none⟩) := hC 15 (by simp)
    have e17 : vs 17 = .bool false := hC 17 (by simp)
    have e18 : vs 18 = .bool false := hC 18 (by simp)
    have e19 : vs 19 = .bool false := hC 19 (by simp)
    have E : Fr w [(b2, 5, Fq.st [.n Q.x, .n Q.y, .v (.bool Q.i)]), (b1, 5, Fq.st [.n P.x, .n P.y, .v (.bool P.i)])] w4 := E4
    rw [lay_all hL]
    simp only [putAll, dstOf, List.length_cons, List.length_nil, Nat.zero_add, Nat.reduceAdd, List.getElem?_toArray, List.getElem?_cons_zero, List.getElem?_cons_succ, Option.bind_some, Act.put, List.setIfInBounds_toArray, List.set_cons_succ, List.set_cons_zero]
    rw [e0, e1, e2, e3, e4, e5, e6, e8, e10, e11, e12, e13, e15, e17, e18, e19]
    generalize vs 7 = u4_7
    generalize vs 9 = u4_9
    generalize vs 14 = u4_14
    generalize vs 16 = u4_16
    clear e0 e1 e2 e3 e4 e5 e6 e8 e10 e11 e12 e13 e15 e17 e18 e19 hC hn E4 hL vs L nb
    clear HX HY HI2
    go_wp2
    refine bodyPost_ret (v := .bool false) ?_ rfl ⟨_, rfl, E.below, rfl⟩
    simp [results, Try.results14, go_sem]
  ·have ht2 : t = false := ht.symm.trans (by unfold sameP; simp [hx])
   subst ht2
   clear ht
   have HX := hidd (decide_eq_false hx)
   have HI2 : Hid ((P.i == Q.i) = true) := by show _ = _; rw [hi]; simp
   clear hi hx
   refine region_fr (C := [Fq.is (.pointer (some ⟨b1, 4, none⟩)), Fq.is (.bool P.i), Fq.is (.pointer (some ⟨b2, 4, none⟩)), Fq.is (.bool Q.i), Fq.is (.bool true), Fq.is (.bool true), Fq.is (.pointer (some ⟨b1, 0, none⟩)), Fq.num P.x, Fq.is (.pointer (some ⟨b2, 0, none⟩)), Fq.num Q.x, Fq.is (.bool false), Fq.is (.bool false), Fq.is (.bool false), Fq.is (undef), Fq.is (undef), Fq.is (undef), Fq.is (undef), Fq.is (undef), Fq.is (.bool false), Fq.is (.bool false)]) (ks := [none, none]) (new := []) E rfl (by kernel_rfl) rfl rfl (fun hp => ⟨?_, ?_, ?_, ?_, ?_, ?_, ?_, ?_, ?_, ?_, ?_, ?_, ?_, ?_, ?_, ?_, ?_, ?_, ?_, ?_, trivial⟩) ?_
   ·exact q_addr (b := b1) (off := 0) (off' := 4) hp (free_of rfl) trivial (sqo 2) (fun ρ w h => by simp [execOp, go_sem, h]) (fun _ => rfl)
   ·exact q_load1 (off := 4) (fs := [.n P.x, .n P.y, .v (.bool P.i)]) (u := .bool P.i) hp (free_of rfl) trivial (mq 1 rfl) (.inl rfl) rfl rfl (fun ρ w b h1 h2 => by simp [execOp, go_sem, h1, h2]) (sqi 0) (fun _ => rfl)
   ·exact q_addr (b := b2) (off := 0) (off' := 4) hp (free_of rfl) trivial (sqo 3) (fun ρ w h => by simp [execOp, go_sem, h]) (fun _ => rfl)
   ·exact q_load1 (off := 4) (fs := [.n Q.x, .n Q.y, .v (.bool Q.i)]) (u := .bool Q.i) hp (free_of rfl) trivial (mq 0 rfl) (.inl rfl) rfl rfl (fun ρ w b h1 h2 => by simp [execOp, go_sem, h1, h2]) (sqi 2) (fun _ => rfl)
   ·exact q_two (F := fun v _ => v = .bool P.i) (G := fun v _ => v = .bool Q.i) hp (free_of rfl) trivial (sqi 1) (sqi 3) (fun ρ w hc h h' => ⟨.bool true, by simp [execOp, go_sem, h, h', HI2.out], rfl⟩)
   ·exact q_move hp (free_of rfl) trivial (sqi 4)
   ·exact q_addr (b := b1) (off := 0) (off' := 0) hp (free_of rfl) gqi (sqo 2) (fun ρ w h => by simp [execOp, go_sem, h]) (fun _ => rfl)
   ·exact q_loadSt (off := 0) (l := 2) (fs := [.n P.x, .n P.y, .v (.bool P.i)]) (gs := [.n P.x]) hp (free_of rfl) gqi (mq 1 rfl) (.inl rfl) rfl row_api_Int rfl (sqi 6) (fun v w h => st_num h)
   ·exact q_addr (b := b2) (off := 0) (off' := 0) hp (free_of rfl) gqi (sqo 3) (fun ρ w h => by simp [execOp, go_sem, h]) (fun _ => rfl)
   ·exact q_loadSt (off := 0) (l := 2) (fs := [.n Q.x, .n Q.y, .v (.bool Q.i)]) (gs := [.n Q.x]) hp (free_of rfl) gqi (mq 0 rfl) (.inl rfl) rfl row_api_Int rfl (sqi 8) (fun v w h => st_num h)
   ·exact q_call2 (F := (Fq.num P.x).P) (G := (Fq.num Q.x).P) hp (free_of rfl) gqi (enq_R_Same) (sqi 7) (sqi 9) (fun v v' w h h' => exRSameB h h' HX.out)
   ·exact q_two (F := fun v _ => v = .bool true) (G := fun v _ => v = .bool false) hp (free_of rfl) trivial (sqi 5) (sqi 10) (fun ρ w hc h h' => ⟨_, by simp [execOp, go_sem, h, h'], rfl⟩)
   ·exact q_move hp (free_of rfl) trivial (sqi 11)
   ·exact q_skip hp (free_of rfl) rfl gqi (fun _ => rfl)
   ·exact q_skip hp (free_of rfl) rfl gqi (fun _ => rfl)
   ·exact q_skip hp (free_of rfl) rfl gqi (fun _ => rfl)
   ·exact q_skip hp (free_of rfl) rfl gqi (fun _ => rfl)
   ·exact q_skip hp (free_of rfl) rfl gqi (fun _ => rfl)
   ·exact q_two (F := fun v _ => v = .bool false) (G := fun v _ => v = .bool false) hp (free_of rfl) trivial (sqi 12) (sq_const (fun _ => rfl)) (fun ρ w hc h h' => ⟨_, by simp [execOp, go_sem, h, h'], rfl⟩)
   ·exact q_assign hp (free_of rfl) trivial (sqi 18)
   intro L vs w5 nb hL hC hn E5
   have e0 : vs 0 = .pointer (some ⟨b1, 4, none⟩) := hC 0 (by simp)
   have e1 : vs 1 = .bool P.i := hC 1 (by simp)
   have e2 : vs 2 = .pointer (some ⟨b2, 4, none⟩) := hC 2 (by simp)
   have e3 : vs 3 = .bool Q.i := hC 3 (by simp)
   have e4 : vs 4 = .bool true := hC 4 (by simp)
   have e5 : vs 5 = .bool true := hC 5 (by simp)
   have e6 : vs 6 = .pointer (some ⟨b1, 0, none⟩) := hC 6 (by simp)
   have e8 : vs 8 = .pointer (some ⟨b2, 0, none⟩) := hC 8 (by simp)
   have e10 : vs 10 = .bool false := hC 10 (by simp)
   have e11 : vs 11 = .bool false := hC 11 (by simp)
   have e12 : vs 12 = .bool false := hC 12 (by simp)
   have e13 : vs 13 = undef := hC 13 (by simp)
   have e14 : vs 14 = undef := hC 14 (by simp)
   have e15 : vs 15 = undef := hC 15 (by simp)
   have e16 : vs 16 = undef := hC 16 (by simp)
   have e17 : vs 17 = undef := hC 17 (by simp)
   have e18 : vs 18 = .bool false := hC 18 (by simp)
   have e19 : vs 19 = .bool false := hC 19 (by simp)
   have E : Fr w [(b2, 5, Fq.st [.n Q.x, .n Q.y, .v (.bool Q.i)]), (b1, 5, Fq.st [.n P.x, .n P.y, .v (.bool P.i)])] w5 := E5
   rw [lay_all hL]
   simp only [putAll, dstOf, List.length_cons, List.length_nil, Nat.zero_add, Nat.reduceAdd, List.getElem?_toArray, List.getElem?_cons_zero, List.getElem?_cons_succ, Option.bind_some, Act.put, List.setIfInBounds_toArray, List.set_cons_succ, List.set_cons_zero]
   rw [e0, e1, e2, e3, e4, e5, e6, e8, e10, e11, e12, e13, e14, e15, e16, e17, e18, e19]
   generalize vs 7 = u5_7
   generalize vs 9 = u5_9
   clear e0 e1 e2 e3 e4 e5 e6 e8 e10 e11 e12 e13 e14 e15 e16 e17 e18 e19 hC hn E5 hL vs L nb
   clear HX HI2
   go_wp2
   refine bodyPost_ret (v := .bool false) ?_ rfl ⟨_, rfl, E.below, rfl⟩
   simp [results, Try.results14, go_sem]
 ·have ht2 : t = false := ht.symm.trans (by unfold sameP; simp [hi])
  subst ht2
  clear ht
  have HI2 : Hid ((P.i == Q.i) = false) := by show _ = _; simp [hi]
  clear hi
  refine region_fr (C := [Fq.is (.pointer (some ⟨b1, 4, none⟩)), Fq.is (.bool P.i), Fq.is (.pointer (some ⟨b2, 4, none⟩)), Fq.is (.bool Q.i), Fq.is (.bool false), Fq.is (.bool false), Fq.is (undef), Fq.is (undef), Fq.is (undef), Fq.is (undef), Fq.is (undef), Fq.is (.bool false), Fq.is (.bool false), Fq.is (undef), Fq.is (undef), Fq.is (undef), Fq.is (undef), Fq.is (undef), Fq.is (.bool false), Fq.is (.bool false)]) (ks := [none, none]) (new := []) E rfl (by kernel_rfl) rfl rfl (fun hp => ⟨?_, ?_, ?_, ?_, ?_, ?_, ?_, ?_, ?_, ?_, ?_, ?_, ?_, ?_, ?_, ?_, ?_, ?_, ?_, ?_, trivial⟩) ?_
  ·exact q_addr (b := b1) (off := 0) (off' := 4) hp (free_of rfl) trivial (sqo 2) (fun ρ w h => by simp [execOp, go_sem, h]) (fun _ => rfl)
  ·exact q_load1 (off := 4) (fs := [.n P.x, .n P.y, .v (.bool P.i)]) (u := .bool P.i) hp (free_of rfl) trivial (mq 1 rfl) (.inl rfl) rfl rfl (fun ρ w b h1 h2 => by simp [execOp, go_sem, h1, h2]) (sqi 0) (fun _ => rfl)
  ·exact q_addr (b := b2) (off := 0) (off' := 4) hp (free_of rfl) trivial (sqo 3) (fun ρ w h => by simp [execOp, go_sem, h]) (fun _ => rfl)
  ·exact q_load1 (off := 4) (fs := [.n Q.x, .n Q.y, .v (.bool Q.i)]) (u := .bool Q.i) hp (free_of rfl) trivial (mq 0 rfl) (.inl rfl) rfl rfl (fun ρ w b h1 h2 => by simp [execOp, go_sem, h1, h2]) (sqi 2) (fun _ => rfl)
  ·exact q_two (F := fun v _ => v = .bool P.i) (G := fun v _ => v = .bool Q.i) hp (free_of rfl) trivial (sqi 1) (sqi 3) (fun ρ w hc h h' => ⟨.bool false, by simp [execOp, go_sem, h, h', HI2.out], rfl⟩)
  ·exact q_move hp (free_of rfl) trivial (sqi 4)
  ·exact q_skip hp (free_of rfl) rfl gqi (fun _ => rfl)
  ·exact q_skip hp (free_of rfl) rfl gqi (fun _ => rfl)
  ·exact q_skip hp (free_of rfl) rfl gqi (fun _ => rfl)
  ·exact q_skip hp (free_of rfl) rfl gqi (fun _ => rfl)
  ·exact q_skip hp (free_of rfl) rfl gqi (fun _ => rfl)
  ·exact q_two (F := fun v _ => v = .bool false) (G := fun v _ => v = .bool false) hp (free_of rfl) trivial (sqi 5) (sq_const (fun _ => rfl)) (fun ρ w hc h h' => ⟨_, by simp [execOp, go_sem, h, h'], rfl⟩)
  ·exact q_move hp (free_of rfl) trivial (sqi 11)
  ·exact q_skip hp (free_of rfl) rfl gqi (fun _ => rfl)
  ·exact q_skip hp (free_of rfl) rfl gqi (fun _ => rfl)
  ·exact q_skip hp (free_of rfl) rfl gqi (fun _ => rfl)
  ·exact q_skip hp (free_of rfl) rfl gqi (fun _ => rfl)
  ·exact q_skip hp (free_of rfl) rfl gqi (fun _ => rfl)
  ·exact q_two (F := fun v _ => v = .bool false) (G := fun v _ => v = .bool false) hp (free_of rfl) trivial (sqi 12) (sq_const (fun _ => rfl)) (fun ρ w hc h h' => ⟨_, by simp [execOp, go_sem, h, h'], rfl⟩)
  ·exact q_assign hp (free_of rfl) trivial (sqi 18)
  intro L vs w6 nb hL hC hn E6
  have e0 : vs 0 = .pointer (some ⟨b1, 4, none⟩) := hC 0 (by simp)
  have e1 : vs 1 = .bool P.i := hC 1 (by simp)
  have e2 : vs 2 = .pointer (some ⟨b2, 4, none⟩) := hC 2 (by simp)
  have e3 : vs 3 = .bool Q.i := hC 3 (by simp)
  have e4 : vs 4 = .bool false := hC 4 (by simp)
  have e5 : vs 5 = .bool false := hC 5 (by simp)
  have e6 : vs 6 = undef := hC 6 (by simp)
  have e7 : vs 7 = undef := hC 7 (by simp)
  have e8 : vs 8 = undef := hC 8 (by simp)
  have e9 : vs 9 = undef := hC 9 (by simp)
  have e10 : vs 10 = undef := hC 10 (by simp)
  have e11 : vs 11 = .bool false := hC 11 (by simp)
  have e12 : vs 12 = .bool false := hC 12 (by simp)
  have e13 : vs 13 = undef := hC 13 (by simp)
  have e14 : vs 14 = undef := hC 14 (by simp)
  have e15 : vs 15 = undef := hC 15 (by simp)
  have e16 : vs 16 = undef := hC 16 (by simp)
  have e17 : vs 17 = undef := hC 17 (by simp)
  have e18 : vs 18 = .bool false := hC 18 (by simp)
  have e19 : vs 19 = .bool false := hC 19 (by simp)
  have E : Fr w [(b2, 5, Fq.st [.n Q.x, .n Q.y, .v (.bool Q.i)]), (b1, 5, Fq.st [.n P.x, .n P.y, .v (.bool P.i)])] w6 := E6
  rw [lay_all hL]
  simp only [putAll, dstOf, List.length_cons, List.length_nil, Nat.zero_add, Nat.reduceAdd, List.getElem?_toArray, List.getElem?_cons_zero, List.getElem?_cons_succ, Option.bind_some, Act.put, List.setIfInBounds_toArray, List.set_cons_succ, List.set_cons_zero]
  rw [e0, e1, e2, e3, e4, e5, e6, e7, e8, e9, e10, e11, e12, e13, e14, e15, e16, e17, e18, e19]
  clear e0 e1 e2 e3 e4 e5 e6 e7 e8 e9 e10 e11 e12 e13 e14 e15 e16 e17 e18 e19 hC hn E6 hL vs L nb
  clear HI2
  go_wp2
  refine bodyPost_ret (v := .bool false) ?_ rfl ⟨_, rfl, E.below, rfl⟩
  simp [results, Try.results14, go_sem]

end Go.Proofs.Ytihhlaagndingaa

namespace Go.Proofs.Ytihhlaagndingaa
open Go Go.RowKit

theorem tmod_same (s m : Int) : Int.tmod s m % m = s % m := by
 have h := Int.mul_tdiv_add_tmod s m
 calc Int.tmod s m % m = (m * Int.tdiv s m + Int.tmod s m) % m := by rw [Int.mul_add_emod_self_left]
  _ = s % m := by rw [h]
theorem tmod_bd {s m : Int} (hm : 0 < m) : -m < Int.tmod s m ∧ Int.tmod s m < m := by
 have h := Int.natAbs_tmod s m
 have h2 := Nat.mod_lt s.natAbs (show 0 < m.natAbs by omega)
 omega
theorem curve_b {m a x y t2 : Int} (ht2 : t2 = Int.tmod (y * y - x * x % m * x - a * x) m + m) (hm : 0 < m) : Int.tmod t2 m = (y * y - ((x * x) + a) * x) % m ∧ 0 < t2 ∧ t2 < 2 * m := by
 have h1 := tmod_bd (s := y * y - x * x % m * x - a * x) hm
 refine ⟨?_, by omega, by omega⟩
 rw [Int.tmod_eq_emod_of_nonneg (by omega), ht2, Int.add_emod_right, tmod_same]
 have h2 := Int.mul_ediv_add_emod (x * x) m
 have e : y * y - x * x % m * x - a * x = (y * y - ((x * x) + a) * x) + m * (x * x / m * x) := by
  have e1 : x * x * x = m * (x * x / m * x) + x * x % m * x := by
   rw [← Int.mul_assoc m, ← Int.add_mul, h2]
  rw [Int.add_mul]
  omega
 rw [e, Int.add_mul_emod_self_left]
theorem prod_bd {a b K : Int} (ha : 0 ≤ a ∧ a ≤ K) (hb : 0 ≤ b ∧ b ≤ K) (hK : 0 ≤ K) : 0 ≤ a * b ∧ a * b ≤ K * K := ⟨Int.mul_nonneg ha.1 hb.1, Int.mul_le_mul ha.2 hb.2 hb.1 hK⟩
section
variable {os : List Oper} {Q : Exit → Act → World → Prop} {a : Act} {p : Pq} {B B0 : Nat} {w0 : World}
variable {i s : Nat} {d : Option Tmp} {ty : TypeId} {ps : String} {af : Array Edge} {gd : Option (Nat × Bool)}
theorem q_build_api_Mod_012 {x0 : Operand} {z0 : Int} {x1 : Operand} {z1 : Int} {x2 : Operand} {z2 : Int} (hp : p.Ok B B0) (hF : p.Free i) (hg : GdQ os a p B B0 w0 af gd) (h0 : SrcQ os a p B B0 w0 af x0 fun v w => Num w v z0) (h1 : SrcQ os a p B B0 w0 af x1 fun v w => Num w v z1) (h2 : SrcQ os a p B B0 w0 af x2 fun v w => Num w v z2) (hC : ∀ v w, (Fq.st [.n z0, .n z1, .n z2]).P v w → (p.c i).P v w) :
  StepQ os Q a p B B0 w0 i { dst := d, op := .build 31 #[(0, x0), (1, x1), (2, x2)], type := ty, pos := ps, after := af, guard := gd } := by
 refine stq_val hp hF hg fun L vs w hG hL hc hd => ?_
 have g0 := h0 L vs w hG hd
 obtain ⟨n0, ao0, k0, c0, e0⟩ := g0.parts
 have m0 : Num w (.agg #[.bool n0, .slice ao0 k0 c0]) z0 := by rw [← e0]; exact g0
 have g1 := h1 L vs w hG hd
 obtain ⟨n1, ao1, k1, c1, e1⟩ := g1.parts
 have m1 : Num w (.agg #[.bool n1, .slice ao1 k1 c1]) z1 := by rw [← e1]; exact g1
 have g2 := h2 L vs w hG hd
 obtain ⟨n2, ao2, k2, c2, e2⟩ := g2.parts
 have m2 : Num w (.agg #[.bool n2, .slice ao2 k2 c2]) z2 := by rw [← e2]; exact g2
 refine ⟨.agg #[.bool n0, .slice ao0 k0 c0, .bool n1, .slice ao1 k1 c1, .bool n2, .slice ao2 k2 c2], ?_, hC _ _ ⟨_, rfl, _, _, _, rfl, m0, _, _, _, rfl, m1, _, _, _, rfl, m2, rfl⟩⟩
 generalize (lay os.toArray L vs os.toArray.size a).eval = ρ at e0 e1 e2
 simp [execOp, go_sem, e0, e1, e2]
end
set_option maxRecDepth 100000 in
set_option maxHeartbeats 4000000 in
theorem exCurve {w : World} {m a x y b : Int} (hm : 2 < m ∧ m ≤ 5000) (ha : 0 ≤ a ∧ a ≤ 5000) (hx : 0 ≤ x ∧ x ≤ 5000) (hy : 0 ≤ y ∧ y ≤ 5000) (hb : (y * y - ((x * x) + a) * x) % m = b) :
  Calls Try.prog 9 #[.int .i64 m, .int .i64 a, .int .i64 x, .int .i64 y] w fun e w' => ∃ v', e = .returned v' ∧ Below w.heap.size w w' ∧ (Fq.st [.n a, .n b, .n m]).P v' w' := by
 have hyy := prod_bd (K := 5000) hy hy (by omega)
 have hxx := prod_bd (K := 5000) hx hx (by omega)
 have hax := prod_bd (K := 5000) ha hx (by omega)
 obtain ⟨r, hr⟩ : ∃ r, r = x * x % m := ⟨_, rfl⟩
 have hr0 : 0 ≤ r ∧ r ≤ 5000 := by rw [hr]; have h1 := Int.emod_nonneg (x * x) (show m ≠ 0 by omega); have h2 := Int.emod_lt_of_pos (x * x) (show 0 < m by omega); omega
 have hrx := prod_bd (K := 5000) hr0 hx (by omega)
 obtain ⟨yy, hyyE⟩ : ∃ yy, yy = y * y := ⟨_, rfl⟩
 obtain ⟨xx, hxxE⟩ : ∃ xx, xx = x * x := ⟨_, rfl⟩
 obtain ⟨ax, haxE⟩ : ∃ ax, ax = a * x := ⟨_, rfl⟩
 obtain ⟨rx, hrxE⟩ : ∃ rx, rx = r * x := ⟨_, rfl⟩
 obtain ⟨t1, ht1⟩ : ∃ t1, t1 = Int.tmod (yy - rx - ax) m := ⟨_, rfl⟩
 obtain ⟨t2, ht2⟩ : ∃ t2, t2 = t1 + m := ⟨_, rfl⟩
 have hcb := curve_b (m := m) (a := a) (x := x) (y := y) (t2 := t2) (by rw [ht2, ht1, hyyE, hrxE, haxE, hr]) (by omega)
 rw [hb] at hcb
 rw [← hyyE] at hyy
 rw [← hxxE] at hxx
 rw [← haxE] at hax
 rw [← hrxE] at hrx
 have ht1b := tmod_bd (s := yy - rx - ax) (m := m) (by omega)
 rw [← ht1] at ht1b
 have hb0 : 0 ≤ b ∧ b < m := by rw [← hb]; exact ⟨Int.emod_nonneg _ (by omega), Int.emod_lt_of_pos _ (by omega)⟩
 have W1 : Hid (IntKind.i64.wrap (y * y) = yy) := by show _ = _; rw [← hyyE]; exact IntWalk.i64_in _ (by omega)
 have W2 : Hid (IntKind.i64.wrap (x * x) = xx) := by show _ = _; rw [← hxxE]; exact IntWalk.i64_in _ (by omega)
 have W3 : Hid (Int.tmod xx m = r) := by show _ = _; rw [Int.tmod_eq_emod_of_nonneg (by omega), hr, hxxE]
 have W3b : Hid (IntKind.i64.wrap r = r) := IntWalk.i64_in _ (by omega)
 have W4 : Hid (IntKind.i64.wrap (r * x) = rx) := by show _ = _; rw [← hrxE]; exact IntWalk.i64_in _ (by omega)
 have W5 : Hid (IntKind.i64.wrap (yy - rx) = yy - rx) := IntWalk.i64_in _ (by omega)
 have W6 : Hid (IntKind.i64.wrap (a * x) = ax) := by show _ = _; rw [← haxE]; exact IntWalk.i64_in _ (by omega)
 have W7 : Hid (IntKind.i64.wrap (yy - rx - ax) = yy - rx - ax) := IntWalk.i64_in _ (by omega)
 have W8 : Hid (Int.tmod (yy - rx - ax) m = t1) := ht1.symm
 have W8b : Hid (IntKind.i64.wrap t1 = t1) := IntWalk.i64_in _ (by omega)
 have W9 : Hid (IntKind.i64.wrap (t1 + m) = t2) := by show _ = _; rw [← ht2]; exact IntWalk.i64_in _ (by omega)
 have WA : Hid (Int.tmod t2 m = b) := hcb.1
 have WAb : Hid (IntKind.i64.wrap b = b) := IntWalk.i64_in _ (by omega)
 have W0 : Hid (¬ m = 0) := by show ¬ _; omega
 have RA : Hid (-9223372036854775808 ≤ a ∧ a ≤ 9223372036854775807) := by show _ ∧ _; omega
 have RB : Hid (-9223372036854775808 ≤ b ∧ b ≤ 9223372036854775807) := by show _ ∧ _; omega
 have RM9 : Hid (-9223372036854775808 ≤ m ∧ m ≤ 9223372036854775807) := by show _ ∧ _; omega
 have Ba : Hid (ab a < pw 3) := ab_i64 RA.out.1 RA.out.2
 have Bb : Hid (ab b < pw 3) := ab_i64 RB.out.1 RB.out.2
 have Bm : Hid (ab m < pw 3) := ab_i64 RM9.out.1 RM9.out.2
 clear hyy hxx hax hr hr0 hrx hyyE hxxE haxE hrxE ht1 ht2 hcb ht1b hb0 hb hm ha hx hy
 obtain ⟨w1, b1, hw1, hb1, hs1, E⟩ := fr_start w (F := Fq.st [.n 0, .n 0, .n 0]) (us := [.bool false, .slice none 0 0, .bool false, .slice none 0 0, .bool false, .slice none 0 0]) 31 rfl (by simp) ((Fits.tame (fits0_api_Mod w))) (fits0P_api_Mod _)
 go_enter Try.func9, Try.ntmps9
 go_upto_region 1 with (fail)
 rw [← hw1]
 rw [← hb1]
 clear hw1 hb1 hs1
 refine region_fr (C := [Fq.is (.int .i64 y), Fq.is (.int .i64 y), Fq.is (.int .i64 yy), Fq.is (.int .i64 x), Fq.is (.int .i64 x), Fq.is (.int .i64 xx), Fq.is (.int .i64 m), Fq.is (.int .i64 r), Fq.is (.int .i64 x), Fq.is (.int .i64 rx), Fq.is (.int .i64 (yy - rx)), Fq.is (.int .i64 a), Fq.is (.int .i64 x), Fq.is (.int .i64 ax), Fq.is (.int .i64 (yy - rx - ax)), Fq.is (.int .i64 m), Fq.is (.int .i64 t1), Fq.is (.int .i64 m), Fq.is (.int .i64 t2), Fq.is (.int .i64 m), Fq.is (.int .i64 b), Fq.is (.int .i64 b)]) (ks := [none]) (new := []) E rfl (by kernel_rfl) rfl rfl (fun hp => ⟨?_, ?_, ?_, ?_, ?_, ?_, ?_, ?_, ?_, ?_, ?_, ?_, ?_, ?_, ?_, ?_, ?_, ?_, ?_, ?_, ?_, ?_, trivial⟩) ?_
 ·exact q_move hp (free_of rfl) trivial (sqo 3)
 ·exact q_move hp (free_of rfl) trivial (sqo 3)
 ·exact q_two (F := fun v _ => v = .int .i64 y) (G := fun v _ => v = .int .i64 y) hp (free_of rfl) trivial (sqi 0) (sqi 1) (fun ρ w hc h h' => ⟨.int .i64 yy, by simp [execOp, go_sem, h, h', W1.out], rfl⟩)
 ·exact q_move hp (free_of rfl) trivial (sqo 2)
 ·exact q_move hp (free_of rfl) trivial (sqo 2)
 ·exact q_two (F := fun v _ => v = .int .i64 x) (G := fun v _ => v = .int .i64 x) hp (free_of rfl) trivial (sqi 3) (sqi 4) (fun ρ w hc h h' => ⟨.int .i64 xx, by simp [execOp, go_sem, h, h', W2.out], rfl⟩)
 ·exact q_move hp (free_of rfl) trivial (sqo 0)
 ·exact q_two (F := fun v _ => v = .int .i64 xx) (G := fun v _ => v = .int .i64 m) hp (free_of rfl) trivial (sqi 5) (sqi 6) (fun ρ w hc h h' => ⟨.int .i64 r, by simp [execOp, go_sem, h, h', W0.out, W3.out, W3b.out], rfl⟩)
 ·exact q_move hp (free_of rfl) trivial (sqo 2)
 ·exact q_two (F := fun v _ => v = .int .i64 r) (G := fun v _ => v = .int .i64 x) hp (free_of rfl) trivial (sqi 7) (sqi 8) (fun ρ w hc h h' => ⟨.int .i64 rx, by simp [execOp, go_sem, h, h', W4.out], rfl⟩)
 ·exact q_two (F := fun v _ => v = .int .i64 yy) (G := fun v _ => v = .int .i64 rx) hp (free_of rfl) trivial (sqi 2) (sqi 9) (fun ρ w hc h h' => ⟨.int .i64 (yy - rx), by simp [execOp, go_sem, h, h', W5.out], rfl⟩)
 ·exact q_move hp (free_of rfl) trivial (sqo 1)
 ·exact q_move hp (free_of rfl) trivial (sqo 2)
 ·exact q_two (F := fun v _ => v = .int .i64 a) (G := fun v _ => v = .int .i64 x) hp (free_of rfl) trivial (sqi 11) (sqi 12) (fun ρ w hc h h' => ⟨.int .i64 ax, by simp [execOp, go_sem, h, h', W6.out], rfl⟩)
 ·exact q_two (F := fun v _ => v = .int .i64 (yy - rx)) (G := fun v _ => v = .int .i64 ax) hp (free_of rfl) trivial (sqi 10) (sqi 13) (fun ρ w hc h h' => ⟨.int .i64 (yy - rx - ax), by simp [execOp, go_sem, h, h', W7.out], rfl⟩)
 ·exact q_move hp (free_of rfl) trivial (sqo 0)
 ·exact q_two (F := fun v _ => v = .int .i64 (yy - rx - ax)) (G := fun v _ => v = .int .i64 m) hp (free_of rfl) trivial (sqi 14) (sqi 15) (fun ρ w hc h h' => ⟨.int .i64 t1, by simp [execOp, go_sem, h, h', W0.out, W8.out, W8b.out], rfl⟩)
 ·exact q_move hp (free_of rfl) trivial (sqo 0)
 ·exact q_two (F := fun v _ => v = .int .i64 t1) (G := fun v _ => v = .int .i64 m) hp (free_of rfl) trivial (sqi 16) (sqi 17) (fun ρ w hc h h' => ⟨.int .i64 t2, by simp [execOp, go_sem, h, h', W9.out], rfl⟩)
 ·exact q_move hp (free_of rfl) trivial (sqo 0)
 ·exact q_two (F := fun v _ => v = .int .i64 t2) (G := fun v _ => v = .int .i64 m) hp (free_of rfl) trivial (sqi 18) (sqi 19) (fun ρ w hc h h' => ⟨.int .i64 b, by simp [execOp, go_sem, h, h', W0.out, WA.out, WAb.out], rfl⟩)
 ·exact q_assign hp (free_of rfl) trivial (sqi 20)
 intro L vs w2 nb hL hC hn E2
 have e0 : vs 0 = .int .i64 y := hC 0 (by simp)
 have e1 : vs 1 = .int .i64 y := hC 1 (by simp)
 have e2 : vs 2 = .int .i64 yy := hC 2 (by simp)
 have e3 : vs 3 = .int .i64 x := hC 3 (by simp)
 have e4 : vs 4 = .int .i64 x := hC 4 (by simp)
 have e5 : vs 5 = .int .i64 xx := hC 5 (by simp)
 have e6 : vs 6 = .int .i64 m := hC 6 (by simp)
 have e7 : vs 7 = .int .i64 r := hC 7 (by simp)
 have e8 : vs 8 = .int .i64 x := hC 8 (by simp)
 have e9 : vs 9 = .int .i64 rx := hC 9 (by simp)
 have e10 : vs 10 = .int .i64 (yy - rx) := hC 10 (by simp)
 have e11 : vs 11 = .int .i64 a := hC 11 (by simp)
 have e12 : vs 12 = .int .i64 x := hC 12 (by simp)
 have e13 : vs 13 = .int .i64 ax := hC 13 (by simp)
 have e14 : vs 14 = .int .i64 (yy - rx - ax) := hC 14 (by simp)
 have e15 : vs 15 = .int .i64 m := hC 15 (by simp)
 have e16 : vs 16 = .int .i64 t1 := hC 16 (by simp)
 have e17 : vs 17 = .int .i64 m := hC 17 (by simp)
 have e18 : vs 18 = .int .i64 t2 := hC 18 (by simp)
 have e19 : vs 19 = .int .i64 m := hC 19 (by simp)
 have e20 : vs 20 = .int .i64 b := hC 20 (by simp)
 have e21 : vs 21 = .int .i64 b := hC 21 (by simp)
 have E : Fr w [(b1, 6, Fq.st [.n 0, .n 0, .n 0])] w2 := E2
 rw [lay_all hL]
 simp only [putAll, dstOf, List.length_cons, List.length_nil, Nat.zero_add, Nat.reduceAdd, List.getElem?_toArray, List.getElem?_cons_zero, List.getElem?_cons_succ, Option.bind_some, Act.put, List.setIfInBounds_toArray, List.set_cons_succ, List.set_cons_zero]
 rw [e0, e1, e2, e3, e4, e5, e6, e7, e8, e9, e10, e11, e12, e13, e14, e15, e16, e17, e18, e19, e20, e21]
 clear e0 e1 e2 e3 e4 e5 e6 e7 e8 e9 e10 e11 e12 e13 e14 e15 e16 e17 e18 e19 e20 e21 hC hn E2 hL vs L nb
 clear W0 W1 W2 W3 W3b W4 W5 W6 W7 W8 W8b W9 WA WAb
 go_upto_region 2 with (fail)
 refine region_fr (C := [Fq.is (.int .i64 a), Fq.num a, Fq.is (.int .i64 b), Fq.num b, Fq.is (.int .i64 m), Fq.num m, Fq.st [.n a, .n b, .n m], Fq.any]) (ks := [some (7, Fq.st [.n a, .n b, .n m])]) (new := []) E rfl (by kernel_rfl) rfl rfl (fun hp => ⟨?_, ?_, ?_, ?_, ?_, ?_, ?_, ?_, trivial⟩) ?_
 ·exact q_move hp (free_of rfl) trivial (sqo 1)
 ·exact q_call1 (F := (Fq.is (.int .i64 a)).P) hp (free_of rfl) trivial (enq_R_Of) (sqi 0) (fun v w h => (by subst h; exact rOfK w a RA.out.1 RA.out.2))
 ·exact q_move hp (free_of rfl) trivial (sqo 9)
 ·exact q_call1 (F := (Fq.is (.int .i64 b)).P) hp (free_of rfl) trivial (enq_R_Of) (sqi 2) (fun v w h => (by subst h; exact rOfK w b RB.out.1 RB.out.2))
 ·exact q_move hp (free_of rfl) trivial (sqo 0)
 ·exact q_call1 (F := (Fq.is (.int .i64 m)).P) hp (free_of rfl) trivial (enq_R_Of) (sqi 4) (fun v w h => (by subst h; exact rOfK w m RM9.out.1 RM9.out.2))
 ·exact q_build_api_Mod_012 (z0 := a) (z1 := b) (z2 := m) hp (free_of rfl) trivial (sqi 1) (sqi 3) (sqi 5) (fun v w h => h)
 ·exact q_storeOldSt (off := 0) (fs := [.n 0, .n 0, .n 0]) (gs := [.n a, .n b, .n m]) (fs' := [.n a, .n b, .n m]) hp (mq 0 rfl) rfl rfl rfl size_api_Mod rfl (sqo 8) (sq_in 6 rfl rfl (by simp) rfl (fun v w h => fitv_st h)) (fun _ _ => trivial) (newik_ne rfl)
 intro L vs w3 nb hL hC hn E3
 have e0 : vs 0 = .int .i64 a := hC 0 (by simp)
 have e2 : vs 2 = .int .i64 b := hC 2 (by simp)
 have e4 : vs 4 = .int .i64 m := hC 4 (by simp)
 have E : Fr w [(b1, 6, Fq.st [.n a, .n b, .n m])] w3 := E3
 rw [lay_all hL]
 simp only [putAll, dstOf, List.length_cons, List.length_nil, Nat.zero_add, Nat.reduceAdd, List.getElem?_toArray, List.getElem?_cons_zero, List.getElem?_cons_succ, Option.bind_some, Act.put, List.setIfInBounds_toArray, List.set_cons_succ, List.set_cons_zero]
 rw [e0, e2, e4]
 generalize vs 1 = u3_1
 generalize vs 3 = u3_3
 generalize vs 5 = u3_5
 generalize vs 6 = u3_6
 clear e0 e2 e4 hC hn E3 hL vs L nb
 clear RA RB RM9
 obtain ⟨_, _, hc0, hf0⟩ := box_st (E.box 0 rfl)
 have hP0 := hf0
 obtain ⟨r0_p0, r0_q0, _, rfl, _r0_n0, r0_p1, r0_q1, _, rfl, _r0_n1, r0_p2, r0_q2, _, rfl, _r0_n2, rfl⟩ := hf0
 have c0_0 := hc0 0 (by simp)
 have c0_1 := hc0 1 (by simp)
 have c0_2 := hc0 2 (by simp)
 have c0_3 := hc0 3 (by simp)
 have c0_4 := hc0 4 (by simp)
 have c0_5 := hc0 5 (by simp)
 simp only [List.getD_cons_zero, List.getD_cons_succ] at c0_0 c0_1 c0_2 c0_3 c0_4 c0_5
 clear hc0
 clear Ba Bb Bm
 go_wp2
 refine bodyPost_ret (v := .agg #[r0_p0, r0_q0, r0_p1, r0_q1, r0_p2, r0_q2]) ?_ rfl ⟨_, rfl, E.below, ⟨_, rfl, hP0⟩⟩
 simp [results, Try.results9, go_sem, c0_0, c0_1, c0_2, c0_3, c0_4, c0_5]

end Go.Proofs.Ytihhlaagndingaa

namespace Go.Proofs.Ytihhlaagndingaa
open Go Go.RowKit

inductive PE where
 | c (k : Int)
 | v (i : Nat)
 | a (x y : PE)
 | m (x y : PE)
 | n (x : PE)
def PE.den (ρ : List Int) : PE → Int
 | .c k => k
 | .v i => ρ.getD i 0
 | .a x y => x.den ρ + y.den ρ
 | .m x y => x.den ρ * y.den ρ
 | .n x => - x.den ρ
def insV (i : Nat) : List Nat → List Nat
 | [] => [i]
 | j :: r => if i ≤ j then i :: j :: r else j :: insV i r
def monD (ρ : List Int) : List Nat → Int
 | [] => 1
 | i :: r => ρ.getD i 0 * monD ρ r
def polD (ρ : List Int) : List (Int × List Nat) → Int
 | [] => 0
 | t :: r => t.1 * monD ρ t.2 + polD ρ r
theorem insV_den (ρ : List Int) (i : Nat) : ∀ l, monD ρ (insV i l) = ρ.getD i 0 * monD ρ l
 | [] => rfl
 | j :: r => by
  unfold insV
  split
  ·rfl
  ·show _ * monD ρ (insV i r) = _ * (_ * monD ρ r)
   rw [insV_den ρ i r, Int.mul_left_comm]
def mulM : List Nat → List Nat → List Nat
 | [], l => l
 | i :: r, l => insV i (mulM r l)
theorem mulM_den (ρ : List Int) : ∀ a b, monD ρ (mulM a b) = monD ρ a * monD ρ b
 | [], b => by show monD ρ b = 1 * _; rw [Int.one_mul]
 | i :: r, b => by
  show monD ρ (insV i (mulM r b)) = _ * monD ρ r * _
  rw [insV_den, mulM_den ρ r b, Int.mul_assoc]
def addT (k : Int) (mo : List Nat) : List (Int × List Nat) → List (Int × List Nat)
 | [] => [(k, mo)]
 | t :: p => if t.2 = mo then (k + t.1, mo) :: p else t :: addT k mo p
theorem addT_den (ρ : List Int) (k : Int) (mo : List Nat) : ∀ p, polD ρ (addT k mo p) = k * monD ρ mo + polD ρ p
 | [] => rfl
 | t :: p => by
  unfold addT
  split
  ·rename_i h
   show (k + t.1) * monD ρ mo + polD ρ p = _ + (t.1 * monD ρ t.2 + polD ρ p)
   rw [Int.add_mul, h]
   omega
  ·show t.1 * monD ρ t.2 + polD ρ (addT k mo p) = _ + (t.1 * monD ρ t.2 + polD ρ p)
   rw [addT_den ρ k mo p]
   omega
def addQ : List (Int × List Nat) → List (Int × List Nat) → List (Int × List Nat)
 | [], q => q
 | t :: p, q => addT t.1 t.2 (addQ p q)
theorem addQ_den (ρ : List Int) : ∀ p q, polD ρ (addQ p q) = polD ρ p + polD ρ q
 | [], q => by show polD ρ q = 0 + _; omega
 | t :: p, q => by
  show polD ρ (addT t.1 t.2 (addQ p q)) = t.1 * monD ρ t.2 + polD ρ p + polD ρ q
  rw [addT_den, addQ_den ρ p q]
  omega
def mulT (k : Int) (mo : List Nat) : List (Int × List Nat) → List (Int × List Nat)
 | [] => []
 | t :: p => (k * t.1, mulM mo t.2) :: mulT k mo p
theorem mulT_den (ρ : List Int) (k : Int) (mo : List Nat) : ∀ p, polD ρ (mulT k mo p) = k * monD ρ mo * polD ρ p
 | [] => by show (0 : Int) = _ * 0; omega
 | t :: p => by
  show k * t.1 * monD ρ (mulM mo t.2) + polD ρ (mulT k mo p) = k * monD ρ mo * (t.1 * monD ρ t.2 + polD ρ p)
  rw [mulM_den, mulT_den ρ k mo p, Int.mul_add]
  congr 1
  simp only [Int.mul_assoc, Int.mul_left_comm]
def mulQ : List (Int × List Nat) → List (Int × List Nat) → List (Int × List Nat)
 | [], _ => []
 | t :: p, q => addQ (mulT t.1 t.2 q) (mulQ p q)
theorem mulQ_den (ρ : List Int) : ∀ p q, polD ρ (mulQ p q) = polD ρ p * polD ρ q
 | [], q => by show (0 : Int) = 0 * _; omega
 | t :: p, q => by
  show polD ρ (addQ (mulT t.1 t.2 q) (mulQ p q)) = (t.1 * monD ρ t.2 + polD ρ p) * polD ρ q
  rw [addQ_den, mulT_den, mulQ_den ρ p q, Int.add_mul]
def PE.norm : PE → List (Int × List Nat)
 | .c k => [(k, [])]
 | .v i => [(1, [i])]
 | .a x y => addQ x.norm y.norm
 | .m x y => mulQ x.norm y.norm
 | .n x => mulT (-1) [] x.norm
theorem PE.norm_den (ρ : List Int) : ∀ e : PE, polD ρ e.norm = e.den ρ
 | .c k => by show k * 1 + 0 = k; omega
 | .v i => by show 1 * (ρ.getD i 0 * 1) + 0 = ρ.getD i 0; omega
 | .a x y => by show polD ρ (addQ _ _) = _ + _; rw [addQ_den, PE.norm_den ρ x, PE.norm_den ρ y]
 | .m x y => by show polD ρ (mulQ _ _) = _ * _; rw [mulQ_den, PE.norm_den ρ x, PE.norm_den ρ y]
 | .n x => by show polD ρ (mulT _ _ _) = - _; rw [mulT_den, PE.norm_den ρ x]; show -1 * 1 * _ = _; omega
theorem polD_zero (ρ : List Int) : ∀ p : List (Int × List Nat), p.all (fun t => t.1 == 0) = true → polD ρ p = 0
 | [], _ => rfl
 | t :: p, h => by
  simp only [List.all_cons, Bool.and_eq_true, beq_iff_eq] at h
  show t.1 * _ + polD ρ p = 0
  rw [h.1, polD_zero ρ p h.2]
  omega
theorem PE.same (ρ : List Int) (x y : PE) (h : ((PE.a x (.n y)).norm.all fun t => t.1 == 0) = true) : x.den ρ = y.den ρ := by
 have h1 := polD_zero ρ _ h
 rw [PE.norm_den] at h1
 have h2 : x.den ρ + - y.den ρ = 0 := h1
 omega

theorem cg_mul {M a b c d : Int} (h : M ∣ a - b) (h' : M ∣ c - d) : M ∣ a * c - b * d := by
 have e : a * c - b * d = (a - b) * c + b * (c - d) := by rw [Int.sub_mul, Int.mul_sub]; omega
 rw [e]
 exact Int.dvd_add (Int.dvd_mul_of_dvd_left h) (Int.dvd_mul_of_dvd_right h')
theorem cg_add {M a b c d : Int} (h : M ∣ a - b) (h' : M ∣ c - d) : M ∣ (a + c) - (b + d) := by
 have e : (a + c) - (b + d) = (a - b) + (c - d) := by omega
 rw [e]
 exact Int.dvd_add h h'
theorem cg_sub {M a b c d : Int} (h : M ∣ a - b) (h' : M ∣ c - d) : M ∣ (a - c) - (b - d) := by
 have e : (a - c) - (b - d) = (a - b) - (c - d) := by omega
 rw [e]
 exact Int.dvd_sub h h'
theorem cg_refl (M a : Int) : M ∣ a - a := by rw [Int.sub_self]; exact Int.dvd_zero M
theorem cg_symm {M a b : Int} (h : M ∣ a - b) : M ∣ b - a := by
 have e : b - a = -(a - b) := by omega
 rw [e]
 exact Int.dvd_neg.2 h
theorem cg_trans {M a b c : Int} (h : M ∣ a - b) (h' : M ∣ b - c) : M ∣ a - c := by
 have e : a - c = (a - b) + (b - c) := by omega
 rw [e]
 exact Int.dvd_add h h'
theorem cg_mod (M a : Int) : M ∣ a % M - a := by
 have h := Int.mul_ediv_add_emod a M
 exact ⟨-(a / M), by rw [Int.mul_neg]; omega⟩
theorem cg_iff {M a b : Int} : M ∣ a - b ↔ a % M = b % M := by
 constructor
 ·intro h; exact Int.emod_eq_emod_iff_emod_sub_eq_zero.2 (Int.emod_eq_zero_of_dvd h)
 ·intro h
  have h1 := cg_mod M a
  have h2 := cg_mod M b
  rw [h] at h1
  exact cg_trans (cg_symm h1) h2
-- PART2
theorem chord_id (A B x1 y1 x2 y2 s : Int) : (x2-x1)*((s*(x1-(s*s-(x1+x2)))-y1)*(s*(x1-(s*s-(x1+x2)))-y1)-(((s*s-(x1+x2))*(s*s-(x1+x2))+A)*(s*s-(x1+x2))+B)) = (x2-x1)*(y1*y1-((x1*x1+A)*x1+B))+((s*s-(x1+x2))-x1)*((y2*y2-((x2*x2+A)*x2+B))+(s*(x2-x1)-(y2-y1))*(2*y2+(s*(x2-x1)-(y2-y1)))-(y1*y1-((x1*x1+A)*x1+B))) := by
 have h := PE.same [A, B, x1, y1, x2, y2, s] (.m (.a (.v 4) (.n (.v 2))) (.a (.m (.a (.m (.v 6) (.a (.v 2) (.n (.a (.m (.v 6) (.v 6)) (.n (.a (.v 2) (.v 4))))))) (.n (.v 3))) (.a (.m (.v 6) (.a (.v 2) (.n (.a (.m (.v 6) (.v 6)) (.n (.a (.v 2) (.v 4))))))) (.n (.v 3)))) (.n (.a (.m (.a (.m (.a (.m (.v 6) (.v 6)) (.n (.a (.v 2) (.v 4)))) (.a (.m (.v 6) (.v 6)) (.n (.a (.v 2) (.v 4))))) (.v 0)) (.a (.m (.v 6) (.v 6)) (.n (.a (.v 2) (.v 4))))) (.v 1))))) (.a (.m (.a (.v 4) (.n (.v 2))) (.a (.m (.v 3) (.v 3)) (.n (.a (.m (.a (.m (.v 2) (.v 2)) (.v 0)) (.v 2)) (.v 1))))) (.m (.a (.a (.m (.v 6) (.v 6)) (.n (.a (.v 2) (.v 4)))) (.n (.v 2))) (.a (.a (.a (.m (.v 5) (.v 5)) (.n (.a (.m (.a (.m (.v 4) (.v 4)) (.v 0)) (.v 4)) (.v 1)))) (.m (.a (.m (.v 6) (.a (.v 4) (.n (.v 2)))) (.n (.a (.v 5) (.n (.v 3))))) (.a (.m (.c 2) (.v 5)) (.a (.m (.v 6) (.a (.v 4) (.n (.v 2)))) (.n (.a (.v 5) (.n (.v 3)))))))) (.n (.a (.m (.v 3) (.v 3)) (.n (.a (.m (.a (.m (.v 2) (.v 2)) (.v 0)) (.v 2)) (.v 1)))))))) (by decide +kernel)
 simp only [PE.den, List.getD_cons_zero, List.getD_cons_succ] at h
 simp only [Int.sub_eq_add_neg]
 exact h
theorem tang_id (A B x1 y1 s : Int) : ((s*(x1-(s*s-(x1+x1)))-y1)*(s*(x1-(s*s-(x1+x1)))-y1)-(((s*s-(x1+x1))*(s*s-(x1+x1))+A)*(s*s-(x1+x1))+B)) = (y1*y1-((x1*x1+A)*x1+B))+(s*(y1+y1)-(3*(x1*x1)+A))*((s*s-(x1+x1))-x1) := by
 have h := PE.same [A, B, x1, y1, s] (.a (.m (.a (.m (.v 4) (.a (.v 2) (.n (.a (.m (.v 4) (.v 4)) (.n (.a (.v 2) (.v 2))))))) (.n (.v 3))) (.a (.m (.v 4) (.a (.v 2) (.n (.a (.m (.v 4) (.v 4)) (.n (.a (.v 2) (.v 2))))))) (.n (.v 3)))) (.n (.a (.m (.a (.m (.a (.m (.v 4) (.v 4)) (.n (.a (.v 2) (.v 2)))) (.a (.m (.v 4) (.v 4)) (.n (.a (.v 2) (.v 2))))) (.v 0)) (.a (.m (.v 4) (.v 4)) (.n (.a (.v 2) (.v 2))))) (.v 1)))) (.a (.a (.m (.v 3) (.v 3)) (.n (.a (.m (.a (.m (.v 2) (.v 2)) (.v 0)) (.v 2)) (.v 1)))) (.m (.a (.m (.v 4) (.a (.v 3) (.v 3))) (.n (.a (.m (.c 3) (.m (.v 2) (.v 2))) (.v 0)))) (.a (.a (.m (.v 4) (.v 4)) (.n (.a (.v 2) (.v 2)))) (.n (.v 2))))) (by decide +kernel)
 simp only [PE.den, List.getD_cons_zero, List.getD_cons_succ] at h
 simp only [Int.sub_eq_add_neg]
 exact h
theorem sq_id (A B x y1 y2 : Int) : (y1-y2)*(y1+y2) = (y1*y1-((x*x+A)*x+B))-(y2*y2-((x*x+A)*x+B)) := by
 have h := PE.same [A, B, x, y1, y2] (.m (.a (.v 3) (.n (.v 4))) (.a (.v 3) (.v 4))) (.a (.a (.m (.v 3) (.v 3)) (.n (.a (.m (.a (.m (.v 2) (.v 2)) (.v 0)) (.v 2)) (.v 1)))) (.n (.a (.m (.v 4) (.v 4)) (.n (.a (.m (.a (.m (.v 2) (.v 2)) (.v 0)) (.v 2)) (.v 1)))))) (by decide +kernel)
 simp only [PE.den, List.getD_cons_zero, List.getD_cons_succ] at h
 simp only [Int.sub_eq_add_neg]
 exact h

theorem dvd_cop {M a b : Int} (h : M ∣ a * b) (hg : Int.gcd a M = 1) : M ∣ b := by
 have h1 : Nat.Coprime M.natAbs a.natAbs := by rw [Int.gcd_comm] at hg; exact hg
 have h2 : M.natAbs ∣ a.natAbs * b.natAbs := by rw [← Int.natAbs_mul]; exact Int.natAbs_dvd_natAbs.2 h
 exact Int.natAbs_dvd_natAbs.1 (h1.dvd_of_dvd_mul_left h2)
theorem on_cong {M A B x y x' y' : Int} (h : M ∣ y * y - ((x * x + A) * x + B)) (hx : M ∣ x' - x) (hy : M ∣ y' - y) : M ∣ y' * y' - ((x' * x' + A) * x' + B) := by
 have h1 := cg_sub (cg_mul hy hy) (cg_add (cg_mul (cg_add (cg_mul hx hx) (cg_refl M A)) hx) (cg_refl M B))
 have e : y' * y' - ((x' * x' + A) * x' + B) = (y' * y' - ((x' * x' + A) * x' + B) - (y * y - ((x * x + A) * x + B))) + (y * y - ((x * x + A) * x + B)) := by omega
 rw [e]
 exact Int.dvd_add h1 h
theorem chord_cl {M A B x1 y1 x2 y2 s x3 y3 : Int} (h1 : M ∣ y1 * y1 - ((x1 * x1 + A) * x1 + B)) (h2 : M ∣ y2 * y2 - ((x2 * x2 + A) * x2 + B)) (hs : M ∣ s * (x2 - x1) - (y2 - y1)) (hg : Int.gcd (x2 - x1) M = 1) (h3 : M ∣ x3 - (s * s - (x1 + x2))) (h4 : M ∣ y3 - (s * (x1 - x3) - y1)) : M ∣ y3 * y3 - ((x3 * x3 + A) * x3 + B) := by
 have hF : M ∣ (x2 - x1) * ((s * (x1 - (s * s - (x1 + x2))) - y1) * (s * (x1 - (s * s - (x1 + x2))) - y1) - (((s * s - (x1 + x2)) * (s * s - (x1 + x2)) + A) * (s * s - (x1 + x2)) + B)) := by
  rw [chord_id A B x1 y1 x2 y2 s]
  exact Int.dvd_add (Int.dvd_mul_of_dvd_right h1) (Int.dvd_mul_of_dvd_right (Int.dvd_sub (Int.dvd_add h2 (Int.dvd_mul_of_dvd_left hs)) h1))
 refine on_cong (dvd_cop hF hg) h3 (cg_trans h4 ?_)
 exact cg_sub (cg_mul (cg_refl M s) (cg_sub (cg_refl M x1) h3)) (cg_refl M y1)
theorem tang_cl {M A B x1 y1 s x3 y3 : Int} (h1 : M ∣ y1 * y1 - ((x1 * x1 + A) * x1 + B)) (hs : M ∣ s * (y1 + y1) - (3 * (x1 * x1) + A)) (h3 : M ∣ x3 - (s * s - (x1 + x1))) (h4 : M ∣ y3 - (s * (x1 - x3) - y1)) : M ∣ y3 * y3 - ((x3 * x3 + A) * x3 + B) := by
 have hF : M ∣ (s * (x1 - (s * s - (x1 + x1))) - y1) * (s * (x1 - (s * s - (x1 + x1))) - y1) - (((s * s - (x1 + x1)) * (s * s - (x1 + x1)) + A) * (s * s - (x1 + x1)) + B) := by
  rw [tang_id A B x1 y1 s]
  exact Int.dvd_add h1 (Int.dvd_mul_of_dvd_left hs)
 refine on_cong hF h3 (cg_trans h4 ?_)
 exact cg_sub (cg_mul (cg_refl M s) (cg_sub (cg_refl M x1) h3)) (cg_refl M y1)
theorem slope_cg {M N D : Int} (hM : 0 < M) (hg : Int.gcd D M = 1) : M ∣ ((N * bezU D M) % M) * D - N := by
 have h1 := cg_iff.2 (bez_inv hM hg)
 have h2 : M ∣ ((N * bezU D M) % M) * D - (N * bezU D M) * D := cg_mul (cg_mod M _) (cg_refl M D)
 have h3 : M ∣ (N * bezU D M) * D - N * 1 := by
  rw [Int.mul_assoc, Int.mul_comm (bezU D M)]
  exact cg_mul (cg_refl M N) h1
 rw [Int.mul_one] at h3
 exact cg_trans h2 h3
theorem fin_facts {M x1 y1 x2 N D : Int} (hM : 0 < M) (hg : Int.gcd D M = 1) : ∃ s, M ∣ s * D - N ∧ M ∣ finX M x1 x2 N D - (s * s - (x1 + x2)) ∧ M ∣ finY M x1 y1 x2 N D - (s * (x1 - finX M x1 x2 N D) - y1) := ⟨_, slope_cg hM hg, cg_mod M _, cg_mod M _⟩
theorem gcd_mod {a M : Int} : Int.gcd (a % M) M = Int.gcd a M := by
 have h : a / M * M + a % M = a := by rw [Int.mul_comm]; exact Int.mul_ediv_add_emod a M
 rw [Int.gcd_comm, Int.gcd_comm a]
 conv => rhs; rw [← h]
 exact (Int.gcd_mul_right_add_right M _ _).symm
theorem on_dvd {A B M x y : Int} {i : Bool} (h : onB A B M x y i = true) : curveB A B M = true ∧ (i = true → x = 0 ∧ y = 0) ∧ (i = false → (0 ≤ x ∧ x < M ∧ 0 ≤ y ∧ y < M) ∧ M ∣ y * y - ((x * x + A) * x + B)) := by
 simp only [onB, Bool.and_eq_true] at h
 refine ⟨h.1, fun hi => ?_, fun hi => ?_⟩
 ·have h2 := h.2
  subst hi
  simpa [ptB] using h2
 ·have h2 := h.2
  subst hi
  simp only [ptB, resB, Bool.and_eq_true, decide_eq_true_eq, Bool.false_eq_true, if_false] at h2
  exact ⟨⟨h2.1.1, h2.1.2, h2.2.1.1, h2.2.1.2⟩, Int.dvd_of_emod_eq_zero h2.2.2⟩
theorem on_of {A B M x y : Int} {i : Bool} (hc : curveB A B M = true) (h1 : i = true → x = 0 ∧ y = 0) (h2 : i = false → (0 ≤ x ∧ x < M ∧ 0 ≤ y ∧ y < M) ∧ M ∣ y * y - ((x * x + A) * x + B)) : onB A B M x y i = true := by
 simp only [onB, Bool.and_eq_true]
 refine ⟨hc, ?_⟩
 cases i with
 | true => simpa [ptB] using h1 rfl
 | false =>
  obtain ⟨⟨g1, g2, g3, g4⟩, g5⟩ := h2 rfl
  simp only [ptB, resB, Bool.and_eq_true, decide_eq_true_eq, Bool.false_eq_true, if_false]
  exact ⟨⟨g1, g2⟩, ⟨g3, g4⟩, Int.emod_eq_zero_of_dvd g5⟩
theorem sum_on {A B M : Int} {P Q : Pt} (hP : onB A B M P.x P.y P.i = true) (hQ : onB A B M Q.x Q.y Q.i = true) (h : (sumP A M P Q).2 = 0) : onB A B M (sumP A M P Q).1.x (sumP A M P Q).1.y (sumP A M P Q).1.i = true := by
 obtain ⟨x1, y1, i1⟩ := P
 obtain ⟨x2, y2, i2⟩ := Q
 cases i1 with
 | true => exact hQ
 | false =>
  cases i2 with
  | true => exact hP
  | false =>
   obtain ⟨hc, _, hp⟩ := on_dvd hP
   obtain ⟨_, _, hq⟩ := on_dvd hQ
   obtain ⟨hp1, hp2⟩ : (0 ≤ x1 ∧ x1 < M ∧ 0 ≤ y1 ∧ y1 < M) ∧ M ∣ y1 * y1 - ((x1 * x1 + A) * x1 + B) := hp rfl
   obtain ⟨hq1, hq2⟩ : (0 ≤ x2 ∧ x2 < M ∧ 0 ≤ y2 ∧ y2 < M) ∧ M ∣ y2 * y2 - ((x2 * x2 + A) * x2 + B) := hq rfl
   have hM : 0 < M := (curve_of hc).1
   simp only [sumP, Bool.false_eq_true, if_false] at h ⊢
   unfold finP at h ⊢
   by_cases h0 : slD M x1 y1 x2 y2 = 0
   ·rw [if_pos h0]; exact on_of hc (fun _ => ⟨rfl, rfl⟩) (fun e => by cases e)
   ·rw [if_neg h0] at h ⊢
    by_cases hg : Int.gcd (slD M x1 y1 x2 y2) M = 1
    ·rw [if_pos hg]
     refine on_of hc (fun e => by cases e) fun _ => ⟨⟨Int.emod_nonneg _ (by omega), Int.emod_lt_of_pos _ hM, Int.emod_nonneg _ (by omega), Int.emod_lt_of_pos _ hM⟩, ?_⟩
     obtain ⟨s, hs, hx, hy⟩ := fin_facts (x1 := x1) (y1 := y1) (x2 := x2) (N := slN A x1 y1 x2 y2) hM hg
     by_cases hx12 : x1 = x2
     ·unfold slD at hg hs hx hy
      unfold slN at hs
      rw [if_pos hx12] at hg
      rw [gcd_mod] at hg
      have hyy : M ∣ (y1 + y2) * (y1 - y2) := by
       rw [Int.mul_comm, sq_id A B x1 y1 y2]
       refine Int.dvd_sub hp2 ?_
       rw [hx12]
       exact hq2
      have hy12 : y1 = y2 := by
       obtain ⟨k, hk⟩ := dvd_cop hyy hg
       have : k = 0 := by
        rcases Int.lt_trichotomy k 0 with hk0 | hk0 | hk0
        ·exfalso
         have := Int.mul_le_mul_of_nonneg_left (show k ≤ -1 by omega) (show 0 ≤ M by omega)
         omega
        ·exact hk0
        ·exfalso
         have := Int.mul_le_mul_of_nonneg_left (show 1 ≤ k by omega) (show 0 ≤ M by omega)
         omega
       rw [this] at hk
       omega
      subst hx12 hy12
      rw [if_pos rfl] at hs
      have hs2 : M ∣ s * (y1 + y1) - (3 * (x1 * x1) + A) := by
       rw [if_pos rfl] at hs
       exact cg_trans (cg_mul (cg_refl M s) (cg_symm (cg_mod M _))) hs
      exact tang_cl hp2 hs2 hx hy
     ·unfold slD at hg hs hx hy
      unfold slN at hs hx hy
      rw [if_neg hx12] at hg
      rw [if_neg hx12, if_neg hx12] at hs
      unfold slN slD
      exact chord_cl hp2 hq2 hs hg hx hy
    ·rw [if_neg hg] at h
     exfalso
     have := Int.gcd_pos_of_ne_zero_right (slD M x1 y1 x2 y2) (show M ≠ 0 by omega)
     simp at h
     omega

theorem opp_on {A B M : Int} {P : Pt} (hP : onB A B M P.x P.y P.i = true) : onB A B M (oppP M P).x (oppP M P).y (oppP M P).i = true := by
 obtain ⟨x, y, i⟩ := P
 obtain ⟨hc, _, h2⟩ := on_dvd hP
 have hM := (curve_of hc).1
 cases i with
 | true => exact on_of hc (fun _ => ⟨rfl, rfl⟩) fun e => by cases e
 | false =>
  obtain ⟨⟨g1, g2, g3, g4⟩, g5⟩ : (0 ≤ x ∧ x < M ∧ 0 ≤ y ∧ y < M) ∧ M ∣ y * y - ((x * x + A) * x + B) := h2 rfl
  refine on_of hc (fun e => by cases e) fun _ => ⟨⟨g1, g2, Int.emod_nonneg _ (by omega), Int.emod_lt_of_pos _ hM⟩, ?_⟩
  have e : y * y = (-y) * (-y) := by rw [Int.neg_mul_neg]
  rw [e] at g5
  exact on_cong g5 (cg_refl M x) (cg_mod M (-y))
end Go.Proofs.Ytihhlaagndingaa

namespace Go.Proofs.Ytihhlaagndingaa
open Go Go.RowKit

theorem ch_l1_id (y1 n s x1 : Int) : y1 - (s * x1 + n) = (-1)*(n - (y1 - s * x1)) := by
 have h := PE.same [y1, n, s, x1] (.a (.v 0) (.n (.a (.m (.v 2) (.v 3)) (.v 1)))) (.m (.n (.c 1)) (.a (.v 1) (.n (.a (.v 0) (.n (.m (.v 2) (.v 3))))))) (by decide +kernel)
 simp only [PE.den, List.getD_cons_zero, List.getD_cons_succ] at h
 simp only [Int.sub_eq_add_neg]
 exact h
theorem ch_l1 {M y1 n s x1 : Int} (h0 : M ∣ n - (y1 - s * x1)) : M ∣ y1 - (s * x1 + n) := by
 rw [ch_l1_id y1 n s x1]
 exact Int.dvd_mul_of_dvd_right h0

theorem ch_l2_id (y2 n s x2 y1 x1 : Int) : y2 - (s * x2 + n) = (-1)*(s * (x2 - x1) - (y2 - y1)) + (-1)*(n - (y1 - s * x1)) := by
 have h := PE.same [y2, n, s, x2, y1, x1] (.a (.v 0) (.n (.a (.m (.v 2) (.v 3)) (.v 1)))) (.a (.m (.n (.c 1)) (.a (.m (.v 2) (.a (.v 3) (.n (.v 5)))) (.n (.a (.v 0) (.n (.v 4)))))) (.m (.n (.c 1)) (.a (.v 1) (.n (.a (.v 4) (.n (.m (.v 2) (.v 5)))))))) (by decide +kernel)
 simp only [PE.den, List.getD_cons_zero, List.getD_cons_succ] at h
 simp only [Int.sub_eq_add_neg]
 exact h
theorem ch_l2 {M y2 n s x2 y1 x1 : Int} (h0 : M ∣ s * (x2 - x1) - (y2 - y1)) (h1 : M ∣ n - (y1 - s * x1)) : M ∣ y2 - (s * x2 + n) := by
 rw [ch_l2_id y2 n s x2 y1 x1]
 exact Int.dvd_add (Int.dvd_mul_of_dvd_right h0) (Int.dvd_mul_of_dvd_right h1)

theorem ch_e1_id (x3 s x1 x2 : Int) : x1 + x2 + x3 - s * s = (1)*(x3 - (s * s - (x1 + x2))) := by
 have h := PE.same [x3, s, x1, x2] (.a (.a (.a (.v 2) (.v 3)) (.v 0)) (.n (.m (.v 1) (.v 1)))) (.m (.c 1) (.a (.v 0) (.n (.a (.m (.v 1) (.v 1)) (.n (.a (.v 2) (.v 3))))))) (by decide +kernel)
 simp only [PE.den, List.getD_cons_zero, List.getD_cons_succ] at h
 simp only [Int.sub_eq_add_neg]
 exact h
theorem ch_e1 {M x3 s x1 x2 : Int} (h0 : M ∣ x3 - (s * s - (x1 + x2))) : M ∣ x1 + x2 + x3 - s * s := by
 rw [ch_e1_id x3 s x1 x2]
 exact Int.dvd_mul_of_dvd_right h0

theorem ch_d_id (x2 x1 A x3 s n y1 B y2 : Int) : (x2 - x1) * (x1 * x2 + (x1 * x3 + x2 * x3) - (A - 2 * (s * n))) = (-1)*(y1 * y1 - ((x1 * x1 + A) * x1 + B)) + (1)*(y2 * y2 - ((x2 * x2 + A) * x2 + B)) + (y1+s*x1+n)*(y1 - (s * x1 + n)) + (-(y2+s*x2+n))*(y2 - (s * x2 + n)) + ((x2-x1)*(x1+x2))*(x1 + x2 + x3 - s * s) := by
 have h := PE.same [x2, x1, A, x3, s, n, y1, B, y2] (.m (.a (.v 0) (.n (.v 1))) (.a (.a (.m (.v 1) (.v 0)) (.a (.m (.v 1) (.v 3)) (.m (.v 0) (.v 3)))) (.n (.a (.v 2) (.n (.m (.c 2) (.m (.v 4) (.v 5)))))))) (.a (.a (.a (.a (.m (.n (.c 1)) (.a (.m (.v 6) (.v 6)) (.n (.a (.m (.a (.m (.v 1) (.v 1)) (.v 2)) (.v 1)) (.v 7))))) (.m (.c 1) (.a (.m (.v 8) (.v 8)) (.n (.a (.m (.a (.m (.v 0) (.v 0)) (.v 2)) (.v 0)) (.v 7)))))) (.m (.a (.a (.v 6) (.m (.v 4) (.v 1))) (.v 5)) (.a (.v 6) (.n (.a (.m (.v 4) (.v 1)) (.v 5)))))) (.m (.n (.a (.a (.v 8) (.m (.v 4) (.v 0))) (.v 5))) (.a (.v 8) (.n (.a (.m (.v 4) (.v 0)) (.v 5)))))) (.m (.m (.a (.v 0) (.n (.v 1))) (.a (.v 1) (.v 0))) (.a (.a (.a (.v 1) (.v 0)) (.v 3)) (.n (.m (.v 4) (.v 4)))))) (by decide +kernel)
 simp only [PE.den, List.getD_cons_zero, List.getD_cons_succ] at h
 simp only [Int.sub_eq_add_neg]
 exact h
theorem ch_d {M x2 x1 A x3 s n y1 B y2 : Int} (h0 : M ∣ y1 * y1 - ((x1 * x1 + A) * x1 + B)) (h1 : M ∣ y2 * y2 - ((x2 * x2 + A) * x2 + B)) (h2 : M ∣ y1 - (s * x1 + n)) (h3 : M ∣ y2 - (s * x2 + n)) (h4 : M ∣ x1 + x2 + x3 - s * s) : M ∣ (x2 - x1) * (x1 * x2 + (x1 * x3 + x2 * x3) - (A - 2 * (s * n))) := by
 rw [ch_d_id x2 x1 A x3 s n y1 B y2]
 exact Int.dvd_add (Int.dvd_add (Int.dvd_add (Int.dvd_add (Int.dvd_mul_of_dvd_right h0) (Int.dvd_mul_of_dvd_right h1)) (Int.dvd_mul_of_dvd_right h2)) (Int.dvd_mul_of_dvd_right h3)) (Int.dvd_mul_of_dvd_right h4)

theorem ch_e3_id (x3 B x1 x2 n y1 A s : Int) : x1 * x2 * x3 - (n * n - B) = (-1)*(y1 * y1 - ((x1 * x1 + A) * x1 + B)) + (y1+s*x1+n)*(y1 - (s * x1 + n)) + (-(x1*x1))*(x1 + x2 + x3 - s * s) + (x1)*(x1 * x2 + (x1 * x3 + x2 * x3) - (A - 2 * (s * n))) := by
 have h := PE.same [x3, B, x1, x2, n, y1, A, s] (.a (.m (.m (.v 2) (.v 3)) (.v 0)) (.n (.a (.m (.v 4) (.v 4)) (.n (.v 1))))) (.a (.a (.a (.m (.n (.c 1)) (.a (.m (.v 5) (.v 5)) (.n (.a (.m (.a (.m (.v 2) (.v 2)) (.v 6)) (.v 2)) (.v 1))))) (.m (.a (.a (.v 5) (.m (.v 7) (.v 2))) (.v 4)) (.a (.v 5) (.n (.a (.m (.v 7) (.v 2)) (.v 4)))))) (.m (.n (.m (.v 2) (.v 2))) (.a (.a (.a (.v 2) (.v 3)) (.v 0)) (.n (.m (.v 7) (.v 7)))))) (.m (.v 2) (.a (.a (.m (.v 2) (.v 3)) (.a (.m (.v 2) (.v 0)) (.m (.v 3) (.v 0)))) (.n (.a (.v 6) (.n (.m (.c 2) (.m (.v 7) (.v 4))))))))) (by decide +kernel)
 simp only [PE.den, List.getD_cons_zero, List.getD_cons_succ] at h
 simp only [Int.sub_eq_add_neg]
 exact h
theorem ch_e3 {M x3 B x1 x2 n y1 A s : Int} (h0 : M ∣ y1 * y1 - ((x1 * x1 + A) * x1 + B)) (h1 : M ∣ y1 - (s * x1 + n)) (h2 : M ∣ x1 + x2 + x3 - s * s) (h3 : M ∣ x1 * x2 + (x1 * x3 + x2 * x3) - (A - 2 * (s * n))) : M ∣ x1 * x2 * x3 - (n * n - B) := by
 rw [ch_e3_id x3 B x1 x2 n y1 A s]
 exact Int.dvd_add (Int.dvd_add (Int.dvd_add (Int.dvd_mul_of_dvd_right h0) (Int.dvd_mul_of_dvd_right h1)) (Int.dvd_mul_of_dvd_right h2)) (Int.dvd_mul_of_dvd_right h3)

theorem tg_e2_id (A x1 x3 s n y1 : Int) : x1 * x1 + (x1 * x3 + x1 * x3) - (A - 2 * (s * n)) = (1)*(s * (y1 + y1) - (3 * (x1 * x1) + A)) + (-2*s)*(y1 - (s * x1 + n)) + (2*x1)*(x1 + x1 + x3 - s * s) := by
 have h := PE.same [A, x1, x3, s, n, y1] (.a (.a (.m (.v 1) (.v 1)) (.a (.m (.v 1) (.v 2)) (.m (.v 1) (.v 2)))) (.n (.a (.v 0) (.n (.m (.c 2) (.m (.v 3) (.v 4))))))) (.a (.a (.m (.c 1) (.a (.m (.v 3) (.a (.v 5) (.v 5))) (.n (.a (.m (.c 3) (.m (.v 1) (.v 1))) (.v 0))))) (.m (.m (.n (.c 2)) (.v 3)) (.a (.v 5) (.n (.a (.m (.v 3) (.v 1)) (.v 4)))))) (.m (.m (.c 2) (.v 1)) (.a (.a (.a (.v 1) (.v 1)) (.v 2)) (.n (.m (.v 3) (.v 3)))))) (by decide +kernel)
 simp only [PE.den, List.getD_cons_zero, List.getD_cons_succ] at h
 simp only [Int.sub_eq_add_neg]
 exact h
theorem tg_e2 {M A x1 x3 s n y1 : Int} (h0 : M ∣ s * (y1 + y1) - (3 * (x1 * x1) + A)) (h1 : M ∣ y1 - (s * x1 + n)) (h2 : M ∣ x1 + x1 + x3 - s * s) : M ∣ x1 * x1 + (x1 * x3 + x1 * x3) - (A - 2 * (s * n)) := by
 rw [tg_e2_id A x1 x3 s n y1]
 exact Int.dvd_add (Int.dvd_add (Int.dvd_mul_of_dvd_right h0) (Int.dvd_mul_of_dvd_right h1)) (Int.dvd_mul_of_dvd_right h2)

theorem tg_e3_id (x3 B x1 n y1 A s : Int) : x1 * x1 * x3 - (n * n - B) = (-1)*(y1 * y1 - ((x1 * x1 + A) * x1 + B)) + (y1+s*x1+n)*(y1 - (s * x1 + n)) + (-(x1*x1))*(x1 + x1 + x3 - s * s) + (x1)*(x1 * x1 + (x1 * x3 + x1 * x3) - (A - 2 * (s * n))) := by
 have h := PE.same [x3, B, x1, n, y1, A, s] (.a (.m (.m (.v 2) (.v 2)) (.v 0)) (.n (.a (.m (.v 3) (.v 3)) (.n (.v 1))))) (.a (.a (.a (.m (.n (.c 1)) (.a (.m (.v 4) (.v 4)) (.n (.a (.m (.a (.m (.v 2) (.v 2)) (.v 5)) (.v 2)) (.v 1))))) (.m (.a (.a (.v 4) (.m (.v 6) (.v 2))) (.v 3)) (.a (.v 4) (.n (.a (.m (.v 6) (.v 2)) (.v 3)))))) (.m (.n (.m (.v 2) (.v 2))) (.a (.a (.a (.v 2) (.v 2)) (.v 0)) (.n (.m (.v 6) (.v 6)))))) (.m (.v 2) (.a (.a (.m (.v 2) (.v 2)) (.a (.m (.v 2) (.v 0)) (.m (.v 2) (.v 0)))) (.n (.a (.v 5) (.n (.m (.c 2) (.m (.v 6) (.v 3))))))))) (by decide +kernel)
 simp only [PE.den, List.getD_cons_zero, List.getD_cons_succ] at h
 simp only [Int.sub_eq_add_neg]
 exact h
theorem tg_e3 {M x3 B x1 n y1 A s : Int} (h0 : M ∣ y1 * y1 - ((x1 * x1 + A) * x1 + B)) (h1 : M ∣ y1 - (s * x1 + n)) (h2 : M ∣ x1 + x1 + x3 - s * s) (h3 : M ∣ x1 * x1 + (x1 * x3 + x1 * x3) - (A - 2 * (s * n))) : M ∣ x1 * x1 * x3 - (n * n - B) := by
 rw [tg_e3_id x3 B x1 n y1 A s]
 exact Int.dvd_add (Int.dvd_add (Int.dvd_add (Int.dvd_mul_of_dvd_right h0) (Int.dvd_mul_of_dvd_right h1)) (Int.dvd_mul_of_dvd_right h2)) (Int.dvd_mul_of_dvd_right h3)

theorem th_l3_id (y3 n s x3 y y1 x1 : Int) : y3 - (s * x3 + n) = (-1)*(y - (s * (x1 - x3) - y1)) + (1)*(y3 + y) + (1)*(y1 - (s * x1 + n)) := by
 have h := PE.same [y3, n, s, x3, y, y1, x1] (.a (.v 0) (.n (.a (.m (.v 2) (.v 3)) (.v 1)))) (.a (.a (.m (.n (.c 1)) (.a (.v 4) (.n (.a (.m (.v 2) (.a (.v 6) (.n (.v 3)))) (.n (.v 5)))))) (.m (.c 1) (.a (.v 0) (.v 4)))) (.m (.c 1) (.a (.v 5) (.n (.a (.m (.v 2) (.v 6)) (.v 1)))))) (by decide +kernel)
 simp only [PE.den, List.getD_cons_zero, List.getD_cons_succ] at h
 simp only [Int.sub_eq_add_neg]
 exact h
theorem th_l3 {M y3 n s x3 y y1 x1 : Int} (h0 : M ∣ y - (s * (x1 - x3) - y1)) (h1 : M ∣ y3 + y) (h2 : M ∣ y1 - (s * x1 + n)) : M ∣ y3 - (s * x3 + n) := by
 rw [th_l3_id y3 n s x3 y y1 x1]
 exact Int.dvd_add (Int.dvd_add (Int.dvd_mul_of_dvd_right h0) (Int.dvd_mul_of_dvd_right h1)) (Int.dvd_mul_of_dvd_right h2)

theorem un_s_id (s y2 y1 x2 x1 n : Int) : s * (x2 - x1) - (y2 - y1) = (1)*(y1 - (s * x1 + n)) + (-1)*(y2 - (s * x2 + n)) := by
 have h := PE.same [s, y2, y1, x2, x1, n] (.a (.m (.v 0) (.a (.v 3) (.n (.v 4)))) (.n (.a (.v 1) (.n (.v 2))))) (.a (.m (.c 1) (.a (.v 2) (.n (.a (.m (.v 0) (.v 4)) (.v 5))))) (.m (.n (.c 1)) (.a (.v 1) (.n (.a (.m (.v 0) (.v 3)) (.v 5)))))) (by decide +kernel)
 simp only [PE.den, List.getD_cons_zero, List.getD_cons_succ] at h
 simp only [Int.sub_eq_add_neg]
 exact h
theorem un_s {M s y2 y1 x2 x1 n : Int} (h0 : M ∣ y1 - (s * x1 + n)) (h1 : M ∣ y2 - (s * x2 + n)) : M ∣ s * (x2 - x1) - (y2 - y1) := by
 rw [un_s_id s y2 y1 x2 x1 n]
 exact Int.dvd_add (Int.dvd_mul_of_dvd_right h0) (Int.dvd_mul_of_dvd_right h1)

theorem un_x_id (x3 s x1 x2 : Int) : x3 - (s * s - (x1 + x2)) = (1)*(x1 + x2 + x3 - s * s) := by
 have h := PE.same [x3, s, x1, x2] (.a (.v 0) (.n (.a (.m (.v 1) (.v 1)) (.n (.a (.v 2) (.v 3)))))) (.m (.c 1) (.a (.a (.a (.v 2) (.v 3)) (.v 0)) (.n (.m (.v 1) (.v 1))))) (by decide +kernel)
 simp only [PE.den, List.getD_cons_zero, List.getD_cons_succ] at h
 simp only [Int.sub_eq_add_neg]
 exact h
theorem un_x {M x3 s x1 x2 : Int} (h0 : M ∣ x1 + x2 + x3 - s * s) : M ∣ x3 - (s * s - (x1 + x2)) := by
 rw [un_x_id x3 s x1 x2]
 exact Int.dvd_mul_of_dvd_right h0

theorem un_y_id (y3 y1 s x1 x3 n : Int) : -y3 - (s * (x1 - x3) - y1) = (1)*(y1 - (s * x1 + n)) + (-1)*(y3 - (s * x3 + n)) := by
 have h := PE.same [y3, y1, s, x1, x3, n] (.a (.n (.v 0)) (.n (.a (.m (.v 2) (.a (.v 3) (.n (.v 4)))) (.n (.v 1))))) (.a (.m (.c 1) (.a (.v 1) (.n (.a (.m (.v 2) (.v 3)) (.v 5))))) (.m (.n (.c 1)) (.a (.v 0) (.n (.a (.m (.v 2) (.v 4)) (.v 5)))))) (by decide +kernel)
 simp only [PE.den, List.getD_cons_zero, List.getD_cons_succ] at h
 simp only [Int.sub_eq_add_neg]
 exact h
theorem un_y {M y3 y1 s x1 x3 n : Int} (h0 : M ∣ y1 - (s * x1 + n)) (h1 : M ∣ y3 - (s * x3 + n)) : M ∣ -y3 - (s * (x1 - x3) - y1) := by
 rw [un_y_id y3 y1 s x1 x3 n]
 exact Int.dvd_add (Int.dvd_mul_of_dvd_right h0) (Int.dvd_mul_of_dvd_right h1)

theorem un_t_id (s A y1 x1 x3 n : Int) : s * (y1 + y1) - (3 * (x1 * x1) + A) = (-2*x1)*(x1 + x1 + x3 - s * s) + (1)*(x1 * x1 + (x1 * x3 + x1 * x3) - (A - 2 * (s * n))) + (2*s)*(y1 - (s * x1 + n)) := by
 have h := PE.same [s, A, y1, x1, x3, n] (.a (.m (.v 0) (.a (.v 2) (.v 2))) (.n (.a (.m (.c 3) (.m (.v 3) (.v 3))) (.v 1)))) (.a (.a (.m (.m (.n (.c 2)) (.v 3)) (.a (.a (.a (.v 3) (.v 3)) (.v 4)) (.n (.m (.v 0) (.v 0))))) (.m (.c 1) (.a (.a (.m (.v 3) (.v 3)) (.a (.m (.v 3) (.v 4)) (.m (.v 3) (.v 4)))) (.n (.a (.v 1) (.n (.m (.c 2) (.m (.v 0) (.v 5))))))))) (.m (.m (.c 2) (.v 0)) (.a (.v 2) (.n (.a (.m (.v 0) (.v 3)) (.v 5)))))) (by decide +kernel)
 simp only [PE.den, List.getD_cons_zero, List.getD_cons_succ] at h
 simp only [Int.sub_eq_add_neg]
 exact h
theorem un_t {M s A y1 x1 x3 n : Int} (h0 : M ∣ x1 + x1 + x3 - s * s) (h1 : M ∣ x1 * x1 + (x1 * x3 + x1 * x3) - (A - 2 * (s * n))) (h2 : M ∣ y1 - (s * x1 + n)) : M ∣ s * (y1 + y1) - (3 * (x1 * x1) + A) := by
 rw [un_t_id s A y1 x1 x3 n]
 exact Int.dvd_add (Int.dvd_add (Int.dvd_mul_of_dvd_right h0) (Int.dvd_mul_of_dvd_right h1)) (Int.dvd_mul_of_dvd_right h2)

theorem co_y_id (y2 y1 n s x1 x2 : Int) : y2 - y1 = (-1)*(y1 - (s * x1 + n)) + (1)*(y2 - (s * x2 + n)) + (s)*(x2 - x1) := by
 have h := PE.same [y2, y1, n, s, x1, x2] (.a (.v 0) (.n (.v 1))) (.a (.a (.m (.n (.c 1)) (.a (.v 1) (.n (.a (.m (.v 3) (.v 4)) (.v 2))))) (.m (.c 1) (.a (.v 0) (.n (.a (.m (.v 3) (.v 5)) (.v 2)))))) (.m (.v 3) (.a (.v 5) (.n (.v 4))))) (by decide +kernel)
 simp only [PE.den, List.getD_cons_zero, List.getD_cons_succ] at h
 simp only [Int.sub_eq_add_neg]
 exact h
theorem co_y {M y2 y1 n s x1 x2 : Int} (h0 : M ∣ y1 - (s * x1 + n)) (h1 : M ∣ y2 - (s * x2 + n)) (h2 : M ∣ x2 - x1) : M ∣ y2 - y1 := by
 rw [co_y_id y2 y1 n s x1 x2]
 exact Int.dvd_add (Int.dvd_add (Int.dvd_mul_of_dvd_right h0) (Int.dvd_mul_of_dvd_right h1)) (Int.dvd_mul_of_dvd_right h2)

theorem sl_u_id (D t s N : Int) : D * (t - s) = (1)*(t * D - N) + (-1)*(s * D - N) := by
 have h := PE.same [D, t, s, N] (.m (.v 0) (.a (.v 1) (.n (.v 2)))) (.a (.m (.c 1) (.a (.m (.v 1) (.v 0)) (.n (.v 3)))) (.m (.n (.c 1)) (.a (.m (.v 2) (.v 0)) (.n (.v 3))))) (by decide +kernel)
 simp only [PE.den, List.getD_cons_zero, List.getD_cons_succ] at h
 simp only [Int.sub_eq_add_neg]
 exact h
theorem sl_u {M D t s N : Int} (h0 : M ∣ t * D - N) (h1 : M ∣ s * D - N) : M ∣ D * (t - s) := by
 rw [sl_u_id D t s N]
 exact Int.dvd_add (Int.dvd_mul_of_dvd_right h0) (Int.dvd_mul_of_dvd_right h1)

theorem fx_u_id (u x3 t x1 x2 s : Int) : u - x3 = (1)*(u - (t * t - (x1 + x2))) + (-1)*(x3 - (s * s - (x1 + x2))) + (t+s)*(t - s) := by
 have h := PE.same [u, x3, t, x1, x2, s] (.a (.v 0) (.n (.v 1))) (.a (.a (.m (.c 1) (.a (.v 0) (.n (.a (.m (.v 2) (.v 2)) (.n (.a (.v 3) (.v 4))))))) (.m (.n (.c 1)) (.a (.v 1) (.n (.a (.m (.v 5) (.v 5)) (.n (.a (.v 3) (.v 4)))))))) (.m (.a (.v 2) (.v 5)) (.a (.v 2) (.n (.v 5))))) (by decide +kernel)
 simp only [PE.den, List.getD_cons_zero, List.getD_cons_succ] at h
 simp only [Int.sub_eq_add_neg]
 exact h
theorem fx_u {M u x3 t x1 x2 s : Int} (h0 : M ∣ u - (t * t - (x1 + x2))) (h1 : M ∣ x3 - (s * s - (x1 + x2))) (h2 : M ∣ t - s) : M ∣ u - x3 := by
 rw [fx_u_id u x3 t x1 x2 s]
 exact Int.dvd_add (Int.dvd_add (Int.dvd_mul_of_dvd_right h0) (Int.dvd_mul_of_dvd_right h1)) (Int.dvd_mul_of_dvd_right h2)

theorem fy_u_id (v y3 y1 t x1 u s x3 : Int) : v - -y3 = (1)*(v - (t * (x1 - u) - y1)) + (-1)*(-y3 - (s * (x1 - x3) - y1)) + (x1-u)*(t - s) + (-s)*(u - x3) := by
 have h := PE.same [v, y3, y1, t, x1, u, s, x3] (.a (.v 0) (.n (.n (.v 1)))) (.a (.a (.a (.m (.c 1) (.a (.v 0) (.n (.a (.m (.v 3) (.a (.v 4) (.n (.v 5)))) (.n (.v 2)))))) (.m (.n (.c 1)) (.a (.n (.v 1)) (.n (.a (.m (.v 6) (.a (.v 4) (.n (.v 7)))) (.n (.v 2))))))) (.m (.a (.v 4) (.n (.v 5))) (.a (.v 3) (.n (.v 6))))) (.m (.n (.v 6)) (.a (.v 5) (.n (.v 7))))) (by decide +kernel)
 simp only [PE.den, List.getD_cons_zero, List.getD_cons_succ] at h
 simp only [Int.sub_eq_add_neg]
 exact h
theorem fy_u {M v y3 y1 t x1 u s x3 : Int} (h0 : M ∣ v - (t * (x1 - u) - y1)) (h1 : M ∣ -y3 - (s * (x1 - x3) - y1)) (h2 : M ∣ t - s) (h3 : M ∣ u - x3) : M ∣ v - -y3 := by
 rw [fy_u_id v y3 y1 t x1 u s x3]
 exact Int.dvd_add (Int.dvd_add (Int.dvd_add (Int.dvd_mul_of_dvd_right h0) (Int.dvd_mul_of_dvd_right h1)) (Int.dvd_mul_of_dvd_right h2)) (Int.dvd_mul_of_dvd_right h3)

theorem sing_id (A B y1 x1 : Int) : 4 * (A * (A * A)) + 27 * (B * B) = ((27*(4*x1*x1*x1+(y1*y1-(y1 * y1 - ((x1 * x1 + A) * x1 + B))-(3*(x1*x1)+A)*x1)))*y1)*(y1) + (-(27*(4*x1*x1*x1+(y1*y1-(y1 * y1 - ((x1 * x1 + A) * x1 + B))-(3*(x1*x1)+A)*x1))))*(y1 * y1 - ((x1 * x1 + A) * x1 + B)) + (4*((3*(x1*x1)+A)*(3*(x1*x1)+A)-9*(3*(x1*x1)+A)*(x1*x1)+27*(x1*x1*(x1*x1)))-(27*(4*x1*x1*x1+(y1*y1-(y1 * y1 - ((x1 * x1 + A) * x1 + B))-(3*(x1*x1)+A)*x1)))*x1)*(3 * (x1 * x1) + A) := by
 have h := PE.same [A, B, y1, x1] (.a (.m (.c 4) (.m (.v 0) (.m (.v 0) (.v 0)))) (.m (.c 27) (.m (.v 1) (.v 1)))) (.a (.a (.m (.m (.m (.c 27) (.a (.m (.m (.m (.c 4) (.v 3)) (.v 3)) (.v 3)) (.a (.a (.m (.v 2) (.v 2)) (.n (.a (.m (.v 2) (.v 2)) (.n (.a (.m (.a (.m (.v 3) (.v 3)) (.v 0)) (.v 3)) (.v 1)))))) (.n (.m (.a (.m (.c 3) (.m (.v 3) (.v 3))) (.v 0)) (.v 3)))))) (.v 2)) (.v 2)) (.m (.n (.m (.c 27) (.a (.m (.m (.m (.c 4) (.v 3)) (.v 3)) (.v 3)) (.a (.a (.m (.v 2) (.v 2)) (.n (.a (.m (.v 2) (.v 2)) (.n (.a (.m (.a (.m (.v 3) (.v 3)) (.v 0)) (.v 3)) (.v 1)))))) (.n (.m (.a (.m (.c 3) (.m (.v 3) (.v 3))) (.v 0)) (.v 3))))))) (.a (.m (.v 2) (.v 2)) (.n (.a (.m (.a (.m (.v 3) (.v 3)) (.v 0)) (.v 3)) (.v 1)))))) (.m (.a (.m (.c 4) (.a (.a (.m (.a (.m (.c 3) (.m (.v 3) (.v 3))) (.v 0)) (.a (.m (.c 3) (.m (.v 3) (.v 3))) (.v 0))) (.n (.m (.m (.c 9) (.a (.m (.c 3) (.m (.v 3) (.v 3))) (.v 0))) (.m (.v 3) (.v 3))))) (.m (.c 27) (.m (.m (.v 3) (.v 3)) (.m (.v 3) (.v 3)))))) (.n (.m (.m (.c 27) (.a (.m (.m (.m (.c 4) (.v 3)) (.v 3)) (.v 3)) (.a (.a (.m (.v 2) (.v 2)) (.n (.a (.m (.v 2) (.v 2)) (.n (.a (.m (.a (.m (.v 3) (.v 3)) (.v 0)) (.v 3)) (.v 1)))))) (.n (.m (.a (.m (.c 3) (.m (.v 3) (.v 3))) (.v 0)) (.v 3)))))) (.v 3)))) (.a (.m (.c 3) (.m (.v 3) (.v 3))) (.v 0)))) (by decide +kernel)
 simp only [PE.den, List.getD_cons_zero, List.getD_cons_succ] at h
 simp only [Int.sub_eq_add_neg]
 exact h
theorem sing {M A B y1 x1 : Int} (h0 : M ∣ y1) (h1 : M ∣ y1 * y1 - ((x1 * x1 + A) * x1 + B)) (h2 : M ∣ 3 * (x1 * x1) + A) : M ∣ 4 * (A * (A * A)) + 27 * (B * B) := by
 rw [sing_id A B y1 x1]
 exact Int.dvd_add (Int.dvd_add (Int.dvd_mul_of_dvd_right h0) (Int.dvd_mul_of_dvd_right h1)) (Int.dvd_mul_of_dvd_right h2)

theorem key1_id (x3 x2 x1 a l u y2 k y3 m n xS xW A zS yS : Int) : (x3 - x2) * ((a + l) * (u - l) - (x3 - x1)) = (a+l)*(y2 - (u * x2 + k)) + (-(a+l))*(y3 - (u * x3 + k)) + (-(a+l))*(y2 - (l * x2 + m)) + (a+l)*(y3 - (a * x3 + n)) + (x3+xS)*(x1 + x2 + xS - l * l) + (-(x3+xS))*(xS + x3 + xW - a * a) + (1)*(xS * x3 + (xS * xW + x3 * xW) - (A - 2 * (a * n))) + (-1)*(x1 * x2 + (x1 * xS + x2 * xS) - (A - 2 * (l * m))) + (-(a-l))*(zS + yS) + (a-l)*(zS - (l * xS + m)) + (a-l)*(yS - (a * xS + n)) := by
 have h := PE.same [x3, x2, x1, a, l, u, y2, k, y3, m, n, xS, xW, A, zS, yS] (.m (.a (.v 0) (.n (.v 1))) (.a (.m (.a (.v 3) (.v 4)) (.a (.v 5) (.n (.v 4)))) (.n (.a (.v 0) (.n (.v 2)))))) (.a (.a (.a (.a (.a (.a (.a (.a (.a (.a (.m (.a (.v 3) (.v 4)) (.a (.v 6) (.n (.a (.m (.v 5) (.v 1)) (.v 7))))) (.m (.n (.a (.v 3) (.v 4))) (.a (.v 8) (.n (.a (.m (.v 5) (.v 0)) (.v 7)))))) (.m (.n (.a (.v 3) (.v 4))) (.a (.v 6) (.n (.a (.m (.v 4) (.v 1)) (.v 9)))))) (.m (.a (.v 3) (.v 4)) (.a (.v 8) (.n (.a (.m (.v 3) (.v 0)) (.v 10)))))) (.m (.a (.v 0) (.v 11)) (.a (.a (.a (.v 2) (.v 1)) (.v 11)) (.n (.m (.v 4) (.v 4)))))) (.m (.n (.a (.v 0) (.v 11))) (.a (.a (.a (.v 11) (.v 0)) (.v 12)) (.n (.m (.v 3) (.v 3)))))) (.m (.c 1) (.a (.a (.m (.v 11) (.v 0)) (.a (.m (.v 11) (.v 12)) (.m (.v 0) (.v 12)))) (.n (.a (.v 13) (.n (.m (.c 2) (.m (.v 3) (.v 10))))))))) (.m (.n (.c 1)) (.a (.a (.m (.v 2) (.v 1)) (.a (.m (.v 2) (.v 11)) (.m (.v 1) (.v 11)))) (.n (.a (.v 13) (.n (.m (.c 2) (.m (.v 4) (.v 9))))))))) (.m (.n (.a (.v 3) (.n (.v 4)))) (.a (.v 14) (.v 15)))) (.m (.a (.v 3) (.n (.v 4))) (.a (.v 14) (.n (.a (.m (.v 4) (.v 11)) (.v 9)))))) (.m (.a (.v 3) (.n (.v 4))) (.a (.v 15) (.n (.a (.m (.v 3) (.v 11)) (.v 10)))))) (by decide +kernel)
 simp only [PE.den, List.getD_cons_zero, List.getD_cons_succ] at h
 simp only [Int.sub_eq_add_neg]
 exact h
theorem key1 {M x3 x2 x1 a l u y2 k y3 m n xS xW A zS yS : Int} (h0 : M ∣ y2 - (u * x2 + k)) (h1 : M ∣ y3 - (u * x3 + k)) (h2 : M ∣ y2 - (l * x2 + m)) (h3 : M ∣ y3 - (a * x3 + n)) (h4 : M ∣ x1 + x2 + xS - l * l) (h5 : M ∣ xS + x3 + xW - a * a) (h6 : M ∣ xS * x3 + (xS * xW + x3 * xW) - (A - 2 * (a * n))) (h7 : M ∣ x1 * x2 + (x1 * xS + x2 * xS) - (A - 2 * (l * m))) (h8 : M ∣ zS + yS) (h9 : M ∣ zS - (l * xS + m)) (h10 : M ∣ yS - (a * xS + n)) : M ∣ (x3 - x2) * ((a + l) * (u - l) - (x3 - x1)) := by
 rw [key1_id x3 x2 x1 a l u y2 k y3 m n xS xW A zS yS]
 exact Int.dvd_add (Int.dvd_add (Int.dvd_add (Int.dvd_add (Int.dvd_add (Int.dvd_add (Int.dvd_add (Int.dvd_add (Int.dvd_add (Int.dvd_add (Int.dvd_mul_of_dvd_right h0) (Int.dvd_mul_of_dvd_right h1)) (Int.dvd_mul_of_dvd_right h2)) (Int.dvd_mul_of_dvd_right h3)) (Int.dvd_mul_of_dvd_right h4)) (Int.dvd_mul_of_dvd_right h5)) (Int.dvd_mul_of_dvd_right h6)) (Int.dvd_mul_of_dvd_right h7)) (Int.dvd_mul_of_dvd_right h8)) (Int.dvd_mul_of_dvd_right h9)) (Int.dvd_mul_of_dvd_right h10)

theorem der1_id (A x2 x1 xS y2 l m : Int) : (3 * (x2 * x2) + A - 2 * (y2 * l)) - (x2 - x1) * (x2 - xS) = (2*x2)*(x1 + x2 + xS - l * l) + (-1)*(x1 * x2 + (x1 * xS + x2 * xS) - (A - 2 * (l * m))) + (-2*l)*(y2 - (l * x2 + m)) := by
 have h := PE.same [A, x2, x1, xS, y2, l, m] (.a (.a (.a (.m (.c 3) (.m (.v 1) (.v 1))) (.v 0)) (.n (.m (.c 2) (.m (.v 4) (.v 5))))) (.n (.m (.a (.v 1) (.n (.v 2))) (.a (.v 1) (.n (.v 3)))))) (.a (.a (.m (.m (.c 2) (.v 1)) (.a (.a (.a (.v 2) (.v 1)) (.v 3)) (.n (.m (.v 5) (.v 5))))) (.m (.n (.c 1)) (.a (.a (.m (.v 2) (.v 1)) (.a (.m (.v 2) (.v 3)) (.m (.v 1) (.v 3)))) (.n (.a (.v 0) (.n (.m (.c 2) (.m (.v 5) (.v 6))))))))) (.m (.m (.n (.c 2)) (.v 5)) (.a (.v 4) (.n (.a (.m (.v 5) (.v 1)) (.v 6)))))) (by decide +kernel)
 simp only [PE.den, List.getD_cons_zero, List.getD_cons_succ] at h
 simp only [Int.sub_eq_add_neg]
 exact h
theorem der1 {M A x2 x1 xS y2 l m : Int} (h0 : M ∣ x1 + x2 + xS - l * l) (h1 : M ∣ x1 * x2 + (x1 * xS + x2 * xS) - (A - 2 * (l * m))) (h2 : M ∣ y2 - (l * x2 + m)) : M ∣ (3 * (x2 * x2) + A - 2 * (y2 * l)) - (x2 - x1) * (x2 - xS) := by
 rw [der1_id A x2 x1 xS y2 l m]
 exact Int.dvd_add (Int.dvd_add (Int.dvd_mul_of_dvd_right h0) (Int.dvd_mul_of_dvd_right h1)) (Int.dvd_mul_of_dvd_right h2)

theorem der2_id (u A y2 x2 xT k : Int) : u * (y2 + y2) - (3 * (x2 * x2) + A) = (-2*x2)*(x2 + x2 + xT - u * u) + (1)*(x2 * x2 + (x2 * xT + x2 * xT) - (A - 2 * (u * k))) + (2*u)*(y2 - (u * x2 + k)) := by
 have h := PE.same [u, A, y2, x2, xT, k] (.a (.m (.v 0) (.a (.v 2) (.v 2))) (.n (.a (.m (.c 3) (.m (.v 3) (.v 3))) (.v 1)))) (.a (.a (.m (.m (.n (.c 2)) (.v 3)) (.a (.a (.a (.v 3) (.v 3)) (.v 4)) (.n (.m (.v 0) (.v 0))))) (.m (.c 1) (.a (.a (.m (.v 3) (.v 3)) (.a (.m (.v 3) (.v 4)) (.m (.v 3) (.v 4)))) (.n (.a (.v 1) (.n (.m (.c 2) (.m (.v 0) (.v 5))))))))) (.m (.m (.c 2) (.v 0)) (.a (.v 2) (.n (.a (.m (.v 0) (.v 3)) (.v 5)))))) (by decide +kernel)
 simp only [PE.den, List.getD_cons_zero, List.getD_cons_succ] at h
 simp only [Int.sub_eq_add_neg]
 exact h
theorem der2 {M u A y2 x2 xT k : Int} (h0 : M ∣ x2 + x2 + xT - u * u) (h1 : M ∣ x2 * x2 + (x2 * xT + x2 * xT) - (A - 2 * (u * k))) (h2 : M ∣ y2 - (u * x2 + k)) : M ∣ u * (y2 + y2) - (3 * (x2 * x2) + A) := by
 rw [der2_id u A y2 x2 xT k]
 exact Int.dvd_add (Int.dvd_add (Int.dvd_mul_of_dvd_right h0) (Int.dvd_mul_of_dvd_right h1)) (Int.dvd_mul_of_dvd_right h2)

theorem sumv_id (y2 a l x2 xS m n zS yS : Int) : (a + l) * (x2 - xS) - (y2 + y2) = (-1)*(y2 - (l * x2 + m)) + (-1)*(y2 - (a * x2 + n)) + (1)*(zS - (l * xS + m)) + (1)*(yS - (a * xS + n)) + (-1)*(zS + yS) := by
 have h := PE.same [y2, a, l, x2, xS, m, n, zS, yS] (.a (.m (.a (.v 1) (.v 2)) (.a (.v 3) (.n (.v 4)))) (.n (.a (.v 0) (.v 0)))) (.a (.a (.a (.a (.m (.n (.c 1)) (.a (.v 0) (.n (.a (.m (.v 2) (.v 3)) (.v 5))))) (.m (.n (.c 1)) (.a (.v 0) (.n (.a (.m (.v 1) (.v 3)) (.v 6)))))) (.m (.c 1) (.a (.v 7) (.n (.a (.m (.v 2) (.v 4)) (.v 5)))))) (.m (.c 1) (.a (.v 8) (.n (.a (.m (.v 1) (.v 4)) (.v 6)))))) (.m (.n (.c 1)) (.a (.v 7) (.v 8)))) (by decide +kernel)
 simp only [PE.den, List.getD_cons_zero, List.getD_cons_succ] at h
 simp only [Int.sub_eq_add_neg]
 exact h
theorem sumv {M y2 a l x2 xS m n zS yS : Int} (h0 : M ∣ y2 - (l * x2 + m)) (h1 : M ∣ y2 - (a * x2 + n)) (h2 : M ∣ zS - (l * xS + m)) (h3 : M ∣ yS - (a * xS + n)) (h4 : M ∣ zS + yS) : M ∣ (a + l) * (x2 - xS) - (y2 + y2) := by
 rw [sumv_id y2 a l x2 xS m n zS yS]
 exact Int.dvd_add (Int.dvd_add (Int.dvd_add (Int.dvd_add (Int.dvd_mul_of_dvd_right h0) (Int.dvd_mul_of_dvd_right h1)) (Int.dvd_mul_of_dvd_right h2)) (Int.dvd_mul_of_dvd_right h3)) (Int.dvd_mul_of_dvd_right h4)

theorem key2_id (x2 xS x1 a l u A y2 : Int) : (x2 - xS) * ((a + l) * (u - l) - (x2 - x1)) = (1)*((3 * (x2 * x2) + A - 2 * (y2 * l)) - (x2 - x1) * (x2 - xS)) + (1)*(u * (y2 + y2) - (3 * (x2 * x2) + A)) + (u-l)*((a + l) * (x2 - xS) - (y2 + y2)) := by
 have h := PE.same [x2, xS, x1, a, l, u, A, y2] (.m (.a (.v 0) (.n (.v 1))) (.a (.m (.a (.v 3) (.v 4)) (.a (.v 5) (.n (.v 4)))) (.n (.a (.v 0) (.n (.v 2)))))) (.a (.a (.m (.c 1) (.a (.a (.a (.m (.c 3) (.m (.v 0) (.v 0))) (.v 6)) (.n (.m (.c 2) (.m (.v 7) (.v 4))))) (.n (.m (.a (.v 0) (.n (.v 2))) (.a (.v 0) (.n (.v 1))))))) (.m (.c 1) (.a (.m (.v 5) (.a (.v 7) (.v 7))) (.n (.a (.m (.c 3) (.m (.v 0) (.v 0))) (.v 6)))))) (.m (.a (.v 5) (.n (.v 4))) (.a (.m (.a (.v 3) (.v 4)) (.a (.v 0) (.n (.v 1)))) (.n (.a (.v 7) (.v 7)))))) (by decide +kernel)
 simp only [PE.den, List.getD_cons_zero, List.getD_cons_succ] at h
 simp only [Int.sub_eq_add_neg]
 exact h
theorem key2 {M x2 xS x1 a l u A y2 : Int} (h0 : M ∣ (3 * (x2 * x2) + A - 2 * (y2 * l)) - (x2 - x1) * (x2 - xS)) (h1 : M ∣ u * (y2 + y2) - (3 * (x2 * x2) + A)) (h2 : M ∣ (a + l) * (x2 - xS) - (y2 + y2)) : M ∣ (x2 - xS) * ((a + l) * (u - l) - (x2 - x1)) := by
 rw [key2_id x2 xS x1 a l u A y2]
 exact Int.dvd_add (Int.dvd_add (Int.dvd_mul_of_dvd_right h0) (Int.dvd_mul_of_dvd_right h1)) (Int.dvd_mul_of_dvd_right h2)

theorem keyd_id (u l a b x3 x1 : Int) : (u - l) * ((a + l) - (b + u)) = (1)*((a + l) * (u - l) - (x3 - x1)) + (1)*((b + u) * (l - u) - (x1 - x3)) := by
 have h := PE.same [u, l, a, b, x3, x1] (.m (.a (.v 0) (.n (.v 1))) (.a (.a (.v 2) (.v 1)) (.n (.a (.v 3) (.v 0))))) (.a (.m (.c 1) (.a (.m (.a (.v 2) (.v 1)) (.a (.v 0) (.n (.v 1)))) (.n (.a (.v 4) (.n (.v 5)))))) (.m (.c 1) (.a (.m (.a (.v 3) (.v 0)) (.a (.v 1) (.n (.v 0)))) (.n (.a (.v 5) (.n (.v 4))))))) (by decide +kernel)
 simp only [PE.den, List.getD_cons_zero, List.getD_cons_succ] at h
 simp only [Int.sub_eq_add_neg]
 exact h
theorem keyd {M u l a b x3 x1 : Int} (h0 : M ∣ (a + l) * (u - l) - (x3 - x1)) (h1 : M ∣ (b + u) * (l - u) - (x1 - x3)) : M ∣ (u - l) * ((a + l) - (b + u)) := by
 rw [keyd_id u l a b x3 x1]
 exact Int.dvd_add (Int.dvd_mul_of_dvd_right h0) (Int.dvd_mul_of_dvd_right h1)

theorem finx_id (xW xV a xS x3 l x1 x2 b xT u : Int) : xW - xV = (1)*(xS + x3 + xW - a * a) + (-1)*(x1 + x2 + xS - l * l) + (-1)*(xT + x1 + xV - b * b) + (1)*(x2 + x3 + xT - u * u) + (2)*((a + l) * (u - l) - (x3 - x1)) + ((a+l-((a + l) - (b + u)))+(a+l-2*u))*((a + l) - (b + u)) := by
 have h := PE.same [xW, xV, a, xS, x3, l, x1, x2, b, xT, u] (.a (.v 0) (.n (.v 1))) (.a (.a (.a (.a (.a (.m (.c 1) (.a (.a (.a (.v 3) (.v 4)) (.v 0)) (.n (.m (.v 2) (.v 2))))) (.m (.n (.c 1)) (.a (.a (.a (.v 6) (.v 7)) (.v 3)) (.n (.m (.v 5) (.v 5)))))) (.m (.n (.c 1)) (.a (.a (.a (.v 9) (.v 6)) (.v 1)) (.n (.m (.v 8) (.v 8)))))) (.m (.c 1) (.a (.a (.a (.v 7) (.v 4)) (.v 9)) (.n (.m (.v 10) (.v 10)))))) (.m (.c 2) (.a (.m (.a (.v 2) (.v 5)) (.a (.v 10) (.n (.v 5)))) (.n (.a (.v 4) (.n (.v 6))))))) (.m (.a (.a (.a (.v 2) (.v 5)) (.n (.a (.a (.v 2) (.v 5)) (.n (.a (.v 8) (.v 10)))))) (.a (.a (.v 2) (.v 5)) (.n (.m (.c 2) (.v 10))))) (.a (.a (.v 2) (.v 5)) (.n (.a (.v 8) (.v 10)))))) (by decide +kernel)
 simp only [PE.den, List.getD_cons_zero, List.getD_cons_succ] at h
 simp only [Int.sub_eq_add_neg]
 exact h
theorem finx {M xW xV a xS x3 l x1 x2 b xT u : Int} (h0 : M ∣ xS + x3 + xW - a * a) (h1 : M ∣ x1 + x2 + xS - l * l) (h2 : M ∣ xT + x1 + xV - b * b) (h3 : M ∣ x2 + x3 + xT - u * u) (h4 : M ∣ (a + l) * (u - l) - (x3 - x1)) (h5 : M ∣ (a + l) - (b + u)) : M ∣ xW - xV := by
 rw [finx_id xW xV a xS x3 l x1 x2 b xT u]
 exact Int.dvd_add (Int.dvd_add (Int.dvd_add (Int.dvd_add (Int.dvd_add (Int.dvd_mul_of_dvd_right h0) (Int.dvd_mul_of_dvd_right h1)) (Int.dvd_mul_of_dvd_right h2)) (Int.dvd_mul_of_dvd_right h3)) (Int.dvd_mul_of_dvd_right h4)) (Int.dvd_mul_of_dvd_right h5)

theorem finz_id (zW zV n a xW y3 x3 q b xV y1 x1 y2 k u x2 m l xS : Int) : zW - zV = (1)*(zW - (a * xW + n)) + (-1)*(y3 - (a * x3 + n)) + (-1)*(zV - (b * xV + q)) + (1)*(y1 - (b * x1 + q)) + (-1)*(y2 - (u * x2 + k)) + (1)*(y3 - (u * x3 + k)) + (-1)*(y1 - (l * x1 + m)) + (1)*(y2 - (l * x2 + m)) + (b)*(xW - xV) + (xW-x1)*((a + l) - (b + u)) + (a-l)*((a + l) * (u - l) - (x3 - x1)) + (u-l)*(xS + x3 + xW - a * a) + (-(u-l))*(x1 + x2 + xS - l * l) := by
 have h := PE.same [zW, zV, n, a, xW, y3, x3, q, b, xV, y1, x1, y2, k, u, x2, m, l, xS] (.a (.v 0) (.n (.v 1))) (.a (.a (.a (.a (.a (.a (.a (.a (.a (.a (.a (.a (.m (.c 1) (.a (.v 0) (.n (.a (.m (.v 3) (.v 4)) (.v 2))))) (.m (.n (.c 1)) (.a (.v 5) (.n (.a (.m (.v 3) (.v 6)) (.v 2)))))) (.m (.n (.c 1)) (.a (.v 1) (.n (.a (.m (.v 8) (.v 9)) (.v 7)))))) (.m (.c 1) (.a (.v 10) (.n (.a (.m (.v 8) (.v 11)) (.v 7)))))) (.m (.n (.c 1)) (.a (.v 12) (.n (.a (.m (.v 14) (.v 15)) (.v 13)))))) (.m (.c 1) (.a (.v 5) (.n (.a (.m (.v 14) (.v 6)) (.v 13)))))) (.m (.n (.c 1)) (.a (.v 10) (.n (.a (.m (.v 17) (.v 11)) (.v 16)))))) (.m (.c 1) (.a (.v 12) (.n (.a (.m (.v 17) (.v 15)) (.v 16)))))) (.m (.v 8) (.a (.v 4) (.n (.v 9))))) (.m (.a (.v 4) (.n (.v 11))) (.a (.a (.v 3) (.v 17)) (.n (.a (.v 8) (.v 14)))))) (.m (.a (.v 3) (.n (.v 17))) (.a (.m (.a (.v 3) (.v 17)) (.a (.v 14) (.n (.v 17)))) (.n (.a (.v 6) (.n (.v 11))))))) (.m (.a (.v 14) (.n (.v 17))) (.a (.a (.a (.v 18) (.v 6)) (.v 4)) (.n (.m (.v 3) (.v 3)))))) (.m (.n (.a (.v 14) (.n (.v 17)))) (.a (.a (.a (.v 11) (.v 15)) (.v 18)) (.n (.m (.v 17) (.v 17)))))) (by decide +kernel)
 simp only [PE.den, List.getD_cons_zero, List.getD_cons_succ] at h
 simp only [Int.sub_eq_add_neg]
 exact h
theorem finz {M zW zV n a xW y3 x3 q b xV y1 x1 y2 k u x2 m l xS : Int} (h0 : M ∣ zW - (a * xW + n)) (h1 : M ∣ y3 - (a * x3 + n)) (h2 : M ∣ zV - (b * xV + q)) (h3 : M ∣ y1 - (b * x1 + q)) (h4 : M ∣ y2 - (u * x2 + k)) (h5 : M ∣ y3 - (u * x3 + k)) (h6 : M ∣ y1 - (l * x1 + m)) (h7 : M ∣ y2 - (l * x2 + m)) (h8 : M ∣ xW - xV) (h9 : M ∣ (a + l) - (b + u)) (h10 : M ∣ (a + l) * (u - l) - (x3 - x1)) (h11 : M ∣ xS + x3 + xW - a * a) (h12 : M ∣ x1 + x2 + xS - l * l) : M ∣ zW - zV := by
 rw [finz_id zW zV n a xW y3 x3 q b xV y1 x1 y2 k u x2 m l xS]
 exact Int.dvd_add (Int.dvd_add (Int.dvd_add (Int.dvd_add (Int.dvd_add (Int.dvd_add (Int.dvd_add (Int.dvd_add (Int.dvd_add (Int.dvd_add (Int.dvd_add (Int.dvd_add (Int.dvd_mul_of_dvd_right h0) (Int.dvd_mul_of_dvd_right h1)) (Int.dvd_mul_of_dvd_right h2)) (Int.dvd_mul_of_dvd_right h3)) (Int.dvd_mul_of_dvd_right h4)) (Int.dvd_mul_of_dvd_right h5)) (Int.dvd_mul_of_dvd_right h6)) (Int.dvd_mul_of_dvd_right h7)) (Int.dvd_mul_of_dvd_right h8)) (Int.dvd_mul_of_dvd_right h9)) (Int.dvd_mul_of_dvd_right h10)) (Int.dvd_mul_of_dvd_right h11)) (Int.dvd_mul_of_dvd_right h12)

theorem deg_x_id (x3 x1 a l u : Int) : x3 - x1 = (-1)*((a + l) * (u - l) - (x3 - x1)) + (a+l)*(u - l) := by
 have h := PE.same [x3, x1, a, l, u] (.a (.v 0) (.n (.v 1))) (.a (.m (.n (.c 1)) (.a (.m (.a (.v 2) (.v 3)) (.a (.v 4) (.n (.v 3)))) (.n (.a (.v 0) (.n (.v 1)))))) (.m (.a (.v 2) (.v 3)) (.a (.v 4) (.n (.v 3))))) (by decide +kernel)
 simp only [PE.den, List.getD_cons_zero, List.getD_cons_succ] at h
 simp only [Int.sub_eq_add_neg]
 exact h
theorem deg_x {M x3 x1 a l u : Int} (h0 : M ∣ (a + l) * (u - l) - (x3 - x1)) (h1 : M ∣ u - l) : M ∣ x3 - x1 := by
 rw [deg_x_id x3 x1 a l u]
 exact Int.dvd_add (Int.dvd_mul_of_dvd_right h0) (Int.dvd_mul_of_dvd_right h1)

theorem deg_y_id (y3 y1 y2 k u x2 x3 m l x1 : Int) : y3 - y1 = (-1)*(y2 - (u * x2 + k)) + (1)*(y3 - (u * x3 + k)) + (-1)*(y1 - (l * x1 + m)) + (1)*(y2 - (l * x2 + m)) + (x3-x2)*(u - l) + (l)*(x3 - x1) := by
 have h := PE.same [y3, y1, y2, k, u, x2, x3, m, l, x1] (.a (.v 0) (.n (.v 1))) (.a (.a (.a (.a (.a (.m (.n (.c 1)) (.a (.v 2) (.n (.a (.m (.v 4) (.v 5)) (.v 3))))) (.m (.c 1) (.a (.v 0) (.n (.a (.m (.v 4) (.v 6)) (.v 3)))))) (.m (.n (.c 1)) (.a (.v 1) (.n (.a (.m (.v 8) (.v 9)) (.v 7)))))) (.m (.c 1) (.a (.v 2) (.n (.a (.m (.v 8) (.v 5)) (.v 7)))))) (.m (.a (.v 6) (.n (.v 5))) (.a (.v 4) (.n (.v 8))))) (.m (.v 8) (.a (.v 6) (.n (.v 9))))) (by decide +kernel)
 simp only [PE.den, List.getD_cons_zero, List.getD_cons_succ] at h
 simp only [Int.sub_eq_add_neg]
 exact h
theorem deg_y {M y3 y1 y2 k u x2 x3 m l x1 : Int} (h0 : M ∣ y2 - (u * x2 + k)) (h1 : M ∣ y3 - (u * x3 + k)) (h2 : M ∣ y1 - (l * x1 + m)) (h3 : M ∣ y2 - (l * x2 + m)) (h4 : M ∣ u - l) (h5 : M ∣ x3 - x1) : M ∣ y3 - y1 := by
 rw [deg_y_id y3 y1 y2 k u x2 x3 m l x1]
 exact Int.dvd_add (Int.dvd_add (Int.dvd_add (Int.dvd_add (Int.dvd_add (Int.dvd_mul_of_dvd_right h0) (Int.dvd_mul_of_dvd_right h1)) (Int.dvd_mul_of_dvd_right h2)) (Int.dvd_mul_of_dvd_right h3)) (Int.dvd_mul_of_dvd_right h4)) (Int.dvd_mul_of_dvd_right h5)
theorem sw_e2_id (A x2 x1 x3 s n : Int) : x2 * x1 + (x2 * x3 + x1 * x3) - (A - 2 * (s * n)) = (1)*(x1 * x2 + (x1 * x3 + x2 * x3) - (A - 2 * (s * n))) := by
 have h := PE.same [A, x2, x1, x3, s, n] (.a (.a (.m (.v 1) (.v 2)) (.a (.m (.v 1) (.v 3)) (.m (.v 2) (.v 3)))) (.n (.a (.v 0) (.n (.m (.c 2) (.m (.v 4) (.v 5))))))) (.m (.c 1) (.a (.a (.m (.v 2) (.v 1)) (.a (.m (.v 2) (.v 3)) (.m (.v 1) (.v 3)))) (.n (.a (.v 0) (.n (.m (.c 2) (.m (.v 4) (.v 5)))))))) (by decide +kernel)
 simp only [PE.den, List.getD_cons_zero, List.getD_cons_succ] at h
 simp only [Int.sub_eq_add_neg]
 exact h
theorem sw_e2 {M A x2 x1 x3 s n : Int} (h0 : M ∣ x1 * x2 + (x1 * x3 + x2 * x3) - (A - 2 * (s * n))) : M ∣ x2 * x1 + (x2 * x3 + x1 * x3) - (A - 2 * (s * n)) := by
 rw [sw_e2_id A x2 x1 x3 s n]
 exact Int.dvd_mul_of_dvd_right h0

theorem sw_e1_id (x3 s x2 x1 : Int) : x2 + x1 + x3 - s * s = (1)*(x1 + x2 + x3 - s * s) := by
 have h := PE.same [x3, s, x2, x1] (.a (.a (.a (.v 2) (.v 3)) (.v 0)) (.n (.m (.v 1) (.v 1)))) (.m (.c 1) (.a (.a (.a (.v 3) (.v 2)) (.v 0)) (.n (.m (.v 1) (.v 1))))) (by decide +kernel)
 simp only [PE.den, List.getD_cons_zero, List.getD_cons_succ] at h
 simp only [Int.sub_eq_add_neg]
 exact h
theorem sw_e1 {M x3 s x2 x1 : Int} (h0 : M ∣ x1 + x2 + x3 - s * s) : M ∣ x2 + x1 + x3 - s * s := by
 rw [sw_e1_id x3 s x2 x1]
 exact Int.dvd_mul_of_dvd_right h0

theorem sw_e3_id (x3 B x2 x1 n : Int) : x2 * x1 * x3 - (n * n - B) = (1)*(x1 * x2 * x3 - (n * n - B)) := by
 have h := PE.same [x3, B, x2, x1, n] (.a (.m (.m (.v 2) (.v 3)) (.v 0)) (.n (.a (.m (.v 4) (.v 4)) (.n (.v 1))))) (.m (.c 1) (.a (.m (.m (.v 3) (.v 2)) (.v 0)) (.n (.a (.m (.v 4) (.v 4)) (.n (.v 1)))))) (by decide +kernel)
 simp only [PE.den, List.getD_cons_zero, List.getD_cons_succ] at h
 simp only [Int.sub_eq_add_neg]
 exact h
theorem sw_e3 {M x3 B x2 x1 n : Int} (h0 : M ∣ x1 * x2 * x3 - (n * n - B)) : M ∣ x2 * x1 * x3 - (n * n - B) := by
 rw [sw_e3_id x3 B x2 x1 n]
 exact Int.dvd_mul_of_dvd_right h0

theorem ro_e2_id (A x1 x3 x2 s n : Int) : x1 * x3 + (x1 * x2 + x3 * x2) - (A - 2 * (s * n)) = (1)*(x1 * x2 + (x1 * x3 + x2 * x3) - (A - 2 * (s * n))) := by
 have h := PE.same [A, x1, x3, x2, s, n] (.a (.a (.m (.v 1) (.v 2)) (.a (.m (.v 1) (.v 3)) (.m (.v 2) (.v 3)))) (.n (.a (.v 0) (.n (.m (.c 2) (.m (.v 4) (.v 5))))))) (.m (.c 1) (.a (.a (.m (.v 1) (.v 3)) (.a (.m (.v 1) (.v 2)) (.m (.v 3) (.v 2)))) (.n (.a (.v 0) (.n (.m (.c 2) (.m (.v 4) (.v 5)))))))) (by decide +kernel)
 simp only [PE.den, List.getD_cons_zero, List.getD_cons_succ] at h
 simp only [Int.sub_eq_add_neg]
 exact h
theorem ro_e2 {M A x1 x3 x2 s n : Int} (h0 : M ∣ x1 * x2 + (x1 * x3 + x2 * x3) - (A - 2 * (s * n))) : M ∣ x1 * x3 + (x1 * x2 + x3 * x2) - (A - 2 * (s * n)) := by
 rw [ro_e2_id A x1 x3 x2 s n]
 exact Int.dvd_mul_of_dvd_right h0

theorem ro_e1_id (x2 s x1 x3 : Int) : x1 + x3 + x2 - s * s = (1)*(x1 + x2 + x3 - s * s) := by
 have h := PE.same [x2, s, x1, x3] (.a (.a (.a (.v 2) (.v 3)) (.v 0)) (.n (.m (.v 1) (.v 1)))) (.m (.c 1) (.a (.a (.a (.v 2) (.v 0)) (.v 3)) (.n (.m (.v 1) (.v 1))))) (by decide +kernel)
 simp only [PE.den, List.getD_cons_zero, List.getD_cons_succ] at h
 simp only [Int.sub_eq_add_neg]
 exact h
theorem ro_e1 {M x2 s x1 x3 : Int} (h0 : M ∣ x1 + x2 + x3 - s * s) : M ∣ x1 + x3 + x2 - s * s := by
 rw [ro_e1_id x2 s x1 x3]
 exact Int.dvd_mul_of_dvd_right h0

theorem ro_e3_id (x2 B x1 x3 n : Int) : x1 * x3 * x2 - (n * n - B) = (1)*(x1 * x2 * x3 - (n * n - B)) := by
 have h := PE.same [x2, B, x1, x3, n] (.a (.m (.m (.v 2) (.v 3)) (.v 0)) (.n (.a (.m (.v 4) (.v 4)) (.n (.v 1))))) (.m (.c 1) (.a (.m (.m (.v 2) (.v 0)) (.v 3)) (.n (.a (.m (.v 4) (.v 4)) (.n (.v 1)))))) (by decide +kernel)
 simp only [PE.den, List.getD_cons_zero, List.getD_cons_succ] at h
 simp only [Int.sub_eq_add_neg]
 exact h
theorem ro_e3 {M x2 B x1 x3 n : Int} (h0 : M ∣ x1 * x2 * x3 - (n * n - B)) : M ∣ x1 * x3 * x2 - (n * n - B) := by
 rw [ro_e3_id x2 B x1 x3 n]
 exact Int.dvd_mul_of_dvd_right h0

theorem mi_e1_id (x3 x1 x2 s : Int) : x1 + x2 + x3 - (-s) * (-s) = (1)*(x1 + x2 + x3 - s * s) := by
 have h := PE.same [x3, x1, x2, s] (.a (.a (.a (.v 1) (.v 2)) (.v 0)) (.n (.m (.n (.v 3)) (.n (.v 3))))) (.m (.c 1) (.a (.a (.a (.v 1) (.v 2)) (.v 0)) (.n (.m (.v 3) (.v 3))))) (by decide +kernel)
 simp only [PE.den, List.getD_cons_zero, List.getD_cons_succ] at h
 simp only [Int.sub_eq_add_neg]
 exact h
theorem mi_e1 {M x3 x1 x2 s : Int} (h0 : M ∣ x1 + x2 + x3 - s * s) : M ∣ x1 + x2 + x3 - (-s) * (-s) := by
 rw [mi_e1_id x3 x1 x2 s]
 exact Int.dvd_mul_of_dvd_right h0

theorem mi_e2_id (A x1 x2 x3 s n : Int) : x1 * x2 + (x1 * x3 + x2 * x3) - (A - 2 * ((-s) * (-n))) = (1)*(x1 * x2 + (x1 * x3 + x2 * x3) - (A - 2 * (s * n))) := by
 have h := PE.same [A, x1, x2, x3, s, n] (.a (.a (.m (.v 1) (.v 2)) (.a (.m (.v 1) (.v 3)) (.m (.v 2) (.v 3)))) (.n (.a (.v 0) (.n (.m (.c 2) (.m (.n (.v 4)) (.n (.v 5)))))))) (.m (.c 1) (.a (.a (.m (.v 1) (.v 2)) (.a (.m (.v 1) (.v 3)) (.m (.v 2) (.v 3)))) (.n (.a (.v 0) (.n (.m (.c 2) (.m (.v 4) (.v 5)))))))) (by decide +kernel)
 simp only [PE.den, List.getD_cons_zero, List.getD_cons_succ] at h
 simp only [Int.sub_eq_add_neg]
 exact h
theorem mi_e2 {M A x1 x2 x3 s n : Int} (h0 : M ∣ x1 * x2 + (x1 * x3 + x2 * x3) - (A - 2 * (s * n))) : M ∣ x1 * x2 + (x1 * x3 + x2 * x3) - (A - 2 * ((-s) * (-n))) := by
 rw [mi_e2_id A x1 x2 x3 s n]
 exact Int.dvd_mul_of_dvd_right h0

theorem mi_e3_id (x3 B x1 x2 n : Int) : x1 * x2 * x3 - ((-n) * (-n) - B) = (1)*(x1 * x2 * x3 - (n * n - B)) := by
 have h := PE.same [x3, B, x1, x2, n] (.a (.m (.m (.v 2) (.v 3)) (.v 0)) (.n (.a (.m (.n (.v 4)) (.n (.v 4))) (.n (.v 1))))) (.m (.c 1) (.a (.m (.m (.v 2) (.v 3)) (.v 0)) (.n (.a (.m (.v 4) (.v 4)) (.n (.v 1)))))) (by decide +kernel)
 simp only [PE.den, List.getD_cons_zero, List.getD_cons_succ] at h
 simp only [Int.sub_eq_add_neg]
 exact h
theorem mi_e3 {M x3 B x1 x2 n : Int} (h0 : M ∣ x1 * x2 * x3 - (n * n - B)) : M ∣ x1 * x2 * x3 - ((-n) * (-n) - B) := by
 rw [mi_e3_id x3 B x1 x2 n]
 exact Int.dvd_mul_of_dvd_right h0

theorem mi_l_id (y1 x1 n s : Int) : -y1 - (-s * x1 + -n) = (-1)*(y1 - (s * x1 + n)) := by
 have h := PE.same [y1, x1, n, s] (.a (.n (.v 0)) (.n (.a (.m (.n (.v 3)) (.v 1)) (.n (.v 2))))) (.m (.n (.c 1)) (.a (.v 0) (.n (.a (.m (.v 3) (.v 1)) (.v 2))))) (by decide +kernel)
 simp only [PE.den, List.getD_cons_zero, List.getD_cons_succ] at h
 simp only [Int.sub_eq_add_neg]
 exact h
theorem mi_l {M y1 x1 n s : Int} (h0 : M ∣ y1 - (s * x1 + n)) : M ∣ -y1 - (-s * x1 + -n) := by
 rw [mi_l_id y1 x1 n s]
 exact Int.dvd_mul_of_dvd_right h0

structure Col (M A B s n x1 y1 x2 y2 x3 y3 : Int) : Prop where
 e1 : M ∣ x1 + x2 + x3 - s * s
 e2 : M ∣ x1 * x2 + (x1 * x3 + x2 * x3) - (A - 2 * (s * n))
 e3 : M ∣ x1 * x2 * x3 - (n * n - B)
 l1 : M ∣ y1 - (s * x1 + n)
 l2 : M ∣ y2 - (s * x2 + n)
 l3 : M ∣ y3 - (s * x3 + n)
theorem Col.sw {M A B s n x1 y1 x2 y2 x3 y3 : Int} (h : Col M A B s n x1 y1 x2 y2 x3 y3) : Col M A B s n x2 y2 x1 y1 x3 y3 := ⟨sw_e1 h.e1, sw_e2 h.e2, sw_e3 h.e3, h.l2, h.l1, h.l3⟩
theorem Col.ro {M A B s n x1 y1 x2 y2 x3 y3 : Int} (h : Col M A B s n x1 y1 x2 y2 x3 y3) : Col M A B s n x1 y1 x3 y3 x2 y2 := ⟨ro_e1 h.e1, ro_e2 h.e2, ro_e3 h.e3, h.l1, h.l3, h.l2⟩
theorem Col.mi {M A B s n x1 y1 x2 y2 x3 y3 : Int} (h : Col M A B s n x1 y1 x2 y2 x3 y3) : Col M A B (-s) (-n) x1 (-y1) x2 (-y2) x3 (-y3) := ⟨mi_e1 h.e1, mi_e2 h.e2, mi_e3 h.e3, mi_l h.l1, mi_l h.l2, mi_l h.l3⟩
theorem Col.re {M A B s n x1 y1 x2 y2 x3 y3 z1 z2 z3 : Int} (h : Col M A B s n x1 y1 x2 y2 x3 y3) (h1 : M ∣ z1 - y1) (h2 : M ∣ z2 - y2) (h3 : M ∣ z3 - y3) : Col M A B s n x1 z1 x2 z2 x3 z3 := ⟨h.e1, h.e2, h.e3, cg_trans h1 h.l1, cg_trans h2 h.l2, cg_trans h3 h.l3⟩
structure Crv (A B M : Int) : Prop where
 c : curveB A B M = true
 p : ∀ a b : Int, M ∣ a * b → M ∣ a ∨ M ∣ b
 g : ∀ a : Int, ¬ M ∣ a → Int.gcd a M = 1
 s : ¬ M ∣ 4 * (A * (A * A)) + 27 * (B * B)
structure Af (A B M x y : Int) : Prop where
 x0 : 0 ≤ x
 x1 : x < M
 y0 : 0 ≤ y
 y1 : y < M
 o : M ∣ y * y - ((x * x + A) * x + B)
theorem cg_eq {M a b : Int} (h : M ∣ a - b) (ha : 0 ≤ a ∧ a < M) (hb : 0 ≤ b ∧ b < M) : a = b := by
 have := small_dvd h (by omega) (by omega)
 omega
theorem Crv.two {A B M y : Int} (hc : Crv A B M) (h : M ∣ y + y) : M ∣ y := by
 have h3 := (curve_of hc.c).2.1
 rw [← Int.two_mul] at h
 rcases hc.p _ _ h with h2 | h2
 ·have := Int.le_of_dvd (by omega) h2; omega
 ·exact h2
theorem sum_inf {A M x1 y1 x2 y2 : Int} (hx : x1 = x2) (hy : M ∣ y1 + y2) : sumP A M ⟨x1, y1, false⟩ ⟨x2, y2, false⟩ = (⟨0, 0, true⟩, 0) := by
 have h : slD M x1 y1 x2 y2 = 0 := by
  unfold slD
  rw [if_pos hx]
  exact Int.emod_eq_zero_of_dvd hy
 simp [sumP, finP, h]
theorem line_ex {A B M x1 y1 x2 y2 : Int} (hc : Crv A B M) (hP : Af A B M x1 y1) (hQ : Af A B M x2 y2) (hn : ¬ (x1 = x2 ∧ M ∣ y1 + y2)) :
  ∃ s n x3 y3, sumP A M ⟨x1, y1, false⟩ ⟨x2, y2, false⟩ = (⟨x3, y3, false⟩, 0) ∧ (0 ≤ x3 ∧ x3 < M ∧ 0 ≤ y3 ∧ y3 < M) ∧ Col M A B s n x1 y1 x2 y2 x3 (-y3) := by
 have hM : 0 < M := (curve_of hc.c).1
 have hD : ¬ M ∣ slD M x1 y1 x2 y2 := by
  unfold slD
  by_cases hx : x1 = x2
  ·rw [if_pos hx]
   intro h
   refine hn ⟨hx, ?_⟩
   have h2 := cg_symm (cg_mod M (y1 + y2))
   have h3 := Int.dvd_add h h2
   have e : (y1 + y2) % M + (y1 + y2 - (y1 + y2) % M) = y1 + y2 := by omega
   rwa [e] at h3
  ·rw [if_neg hx]
   intro h
   exact hx (cg_eq h ⟨hQ.x0, hQ.x1⟩ ⟨hP.x0, hP.x1⟩).symm
 have hg := hc.g _ hD
 have h0 : ¬ slD M x1 y1 x2 y2 = 0 := by
  intro e
  rw [e] at hD
  exact hD (Int.dvd_zero M)
 obtain ⟨s, hs, hx3, hy3⟩ := fin_facts (x1 := x1) (y1 := y1) (x2 := x2) (N := slN A x1 y1 x2 y2) hM hg
 refine ⟨s, y1 - s * x1, finX M x1 x2 (slN A x1 y1 x2 y2) (slD M x1 y1 x2 y2), finY M x1 y1 x2 (slN A x1 y1 x2 y2) (slD M x1 y1 x2 y2), ?_, ⟨Int.emod_nonneg _ (by omega), Int.emod_lt_of_pos _ hM, Int.emod_nonneg _ (by omega), Int.emod_lt_of_pos _ hM⟩, ?_⟩
 ·simp only [sumP, Bool.false_eq_true, if_false]
  unfold finP
  rw [if_neg h0, if_pos hg]
 ·generalize finY M x1 y1 x2 (slN A x1 y1 x2 y2) (slD M x1 y1 x2 y2) = y3 at hy3 ⊢
  generalize finX M x1 x2 (slN A x1 y1 x2 y2) (slD M x1 y1 x2 y2) = x3 at hx3 hy3 ⊢
  have hn1 : M ∣ (y1 - s * x1) - (y1 - s * x1) := cg_refl M _
  have a1 := ch_l1 hn1
  have ae := ch_e1 hx3
  have z : M ∣ -y3 + y3 := by rw [Int.add_left_neg]; exact Int.dvd_zero M
  have l3 := th_l3 hy3 z a1
  by_cases hx : x1 = x2
  ·subst hx
   have hy : y1 = y2 := by
    have h1 : M ∣ (y1 - y2) * (y1 + y2) := by
     rw [sq_id A B x1 y1 y2]
     exact Int.dvd_sub hP.o hQ.o
    rcases hc.p _ _ h1 with h2 | h2
    ·exact cg_eq h2 ⟨hP.y0, hP.y1⟩ ⟨hQ.y0, hQ.y1⟩
    ·exact absurd ⟨rfl, h2⟩ hn
   subst hy
   unfold slD slN at hs
   rw [if_pos rfl, if_pos rfl] at hs
   have hs2 : M ∣ s * (y1 + y1) - (3 * (x1 * x1) + A) := cg_trans (cg_mul (cg_refl M s) (cg_symm (cg_mod M _))) hs
   have e2 := tg_e2 hs2 a1 ae
   exact ⟨ae, e2, tg_e3 hP.o a1 ae e2, a1, a1, l3⟩
  ·unfold slD slN at hs
   rw [if_neg hx, if_neg hx] at hs
   have a2 := ch_l2 hs hn1
   have hd := ch_d hP.o hQ.o a1 a2 ae
   have e2 : M ∣ x1 * x2 + (x1 * x3 + x2 * x3) - (A - 2 * (s * (y1 - s * x1))) := by
    rcases hc.p _ _ hd with h2 | h2
    ·exact absurd (cg_eq h2 ⟨hQ.x0, hQ.x1⟩ ⟨hP.x0, hP.x1⟩).symm hx
    ·exact h2
   exact ⟨ae, e2, ch_e3 hP.o a1 ae e2, a1, a2, l3⟩
theorem col_not {A B M s n x1 y1 x2 y2 x3 y3 : Int} (hc : Crv A B M) (hP : Af A B M x1 y1) (h : Col M A B s n x1 y1 x2 y2 x3 y3) : ¬ (x1 = x2 ∧ M ∣ y1 + y2) := by
 intro ⟨hx, hy⟩
 subst hx
 have h1 := co_y h.l1 h.l2 (cg_refl M x1)
 have h2 : M ∣ y1 + y1 := by
  have := Int.dvd_sub hy h1
  have e : y1 + y2 - (y2 - y1) = y1 + y1 := by omega
  rwa [e] at this
 have hy1 := hc.two h2
 have ht := un_t h.e1 (h.e2) h.l1
 have h3 : M ∣ 3 * (x1 * x1) + A := by
  have := Int.dvd_sub (Int.dvd_mul_of_dvd_right (b := s) h2) ht
  have e : s * (y1 + y1) - (s * (y1 + y1) - (3 * (x1 * x1) + A)) = 3 * (x1 * x1) + A := by omega
  rwa [e] at this
 exact hc.s (sing hy1 hP.o h3)
theorem line_uniq {A B M s n x1 y1 x2 y2 x3 y3 : Int} (hc : Crv A B M) (hP : Af A B M x1 y1) (hQ : Af A B M x2 y2) (hx3 : 0 ≤ x3 ∧ x3 < M) (h : Col M A B s n x1 y1 x2 y2 x3 y3) : sumP A M ⟨x1, y1, false⟩ ⟨x2, y2, false⟩ = (⟨x3, (-y3) % M, false⟩, 0) := by
 have hM : 0 < M := (curve_of hc.c).1
 have hn := col_not hc hP h
 obtain ⟨t, k, u, v, e, hr, h'⟩ := line_ex hc hP hQ hn
 have ts : M ∣ t - s := by
  by_cases hx : x1 = x2
  ·subst hx
   have h1 := co_y h.l1 h.l2 (cg_refl M x1)
   have hy := cg_eq h1 ⟨hQ.y0, hQ.y1⟩ ⟨hP.y0, hP.y1⟩
   subst hy
   rcases hc.p _ _ (sl_u (un_t h'.e1 h'.e2 h'.l1) (un_t h.e1 h.e2 h.l1)) with h2 | h2
   ·exact absurd ⟨rfl, h2⟩ hn
   ·exact h2
  ·rcases hc.p _ _ (sl_u (un_s h'.l1 h'.l2) (un_s h.l1 h.l2)) with h2 | h2
   ·exact absurd (cg_eq h2 ⟨hQ.x0, hQ.x1⟩ ⟨hP.x0, hP.x1⟩).symm hx
   ·exact h2
 have ux := fx_u (un_x h'.e1) (un_x h.e1) ts
 have uy := fy_u (by have := un_y h'.l1 h'.l3; rwa [Int.neg_neg] at this) (un_y h.l1 h.l3) ts ux
 have e1 := cg_eq ux ⟨hr.1, hr.2.1⟩ hx3
 have e2 : v = (-y3) % M := cg_eq (cg_trans uy (cg_symm (cg_mod M _))) hr.2.2 ⟨Int.emod_nonneg _ (by omega), Int.emod_lt_of_pos _ hM⟩
 rw [e, e1, e2]

noncomputable def adP (A M : Int) (P Q : Pt) : Pt := (sumP A M P Q).1
def On (A B M : Int) (P : Pt) : Prop := onB A B M P.x P.y P.i = true
theorem On.inf {A B M : Int} {P : Pt} (h : On A B M P) (hi : P.i = true) : P = ⟨0, 0, true⟩ := by
 obtain ⟨x, y, i⟩ := P
 obtain ⟨h1, h2⟩ := (on_dvd h).2.1 hi
 have h3 : i = true := hi
 have h4 : x = 0 := h1
 have h5 : y = 0 := h2
 rw [h3, h4, h5]
theorem On.af {A B M x y : Int} (h : On A B M ⟨x, y, false⟩) : Af A B M x y := by
 obtain ⟨h1, h2⟩ := (on_dvd h).2.2 rfl
 exact ⟨h1.1, h1.2.1, h1.2.2.1, h1.2.2.2, h2⟩
theorem sum_two {A B M : Int} {P Q : Pt} (hc : Crv A B M) (hP : On A B M P) (hQ : On A B M Q) : (sumP A M P Q).2 = 0 := by
 obtain ⟨x1, y1, i1⟩ := P
 obtain ⟨x2, y2, i2⟩ := Q
 cases i1 with
 | true => rfl
 | false =>
  cases i2 with
  | true => rfl
  | false =>
   by_cases hn : x1 = x2 ∧ M ∣ y1 + y2
   ·rw [sum_inf hn.1 hn.2]
   ·obtain ⟨s, n, x3, y3, e, _⟩ := line_ex hc hP.af hQ.af hn
    rw [e]
theorem adP_on {A B M : Int} {P Q : Pt} (hc : Crv A B M) (hP : On A B M P) (hQ : On A B M Q) : On A B M (adP A M P Q) := sum_on hP hQ (sum_two hc hP hQ)
theorem O_on {A B M : Int} (hc : Crv A B M) : On A B M ⟨0, 0, true⟩ := on_of hc.c (fun _ => ⟨rfl, rfl⟩) fun e => by cases e
theorem adP_O {A M : Int} (Q : Pt) : adP A M ⟨0, 0, true⟩ Q = Q := rfl
theorem adP_O' {A B M : Int} {P : Pt} (hP : On A B M P) : adP A M P ⟨0, 0, true⟩ = P := by
 obtain ⟨x, y, i⟩ := P
 cases i with
 | true => exact (hP.inf rfl).symm
 | false => rfl
theorem negneg {M y : Int} (h : 0 ≤ y ∧ y < M) : (- -y) % M = y := by rw [Int.neg_neg]; exact Int.emod_eq_of_lt h.1 h.2
theorem adP_comm {A B M : Int} {P Q : Pt} (hc : Crv A B M) (hP : On A B M P) (hQ : On A B M Q) : adP A M P Q = adP A M Q P := by
 obtain ⟨x1, y1, i1⟩ := P
 obtain ⟨x2, y2, i2⟩ := Q
 cases i1 with
 | true => rw [hP.inf rfl, adP_O, adP_O' hQ]
 | false =>
  cases i2 with
  | true => rw [hQ.inf rfl, adP_O, adP_O' hP]
  | false =>
   unfold adP
   by_cases hn : x1 = x2 ∧ M ∣ y1 + y2
   ·rw [sum_inf hn.1 hn.2, sum_inf hn.1.symm (by rw [Int.add_comm]; exact hn.2)]
   ·obtain ⟨s, n, x3, y3, e, hr, hC⟩ := line_ex hc hP.af hQ.af hn
    rw [e, line_uniq hc hQ.af hP.af ⟨hr.1, hr.2.1⟩ hC.sw, negneg hr.2.2]
theorem opp_opp {A B M : Int} {P : Pt} (hP : On A B M P) : oppP M (oppP M P) = P := by
 obtain ⟨x, y, i⟩ := P
 cases i with
 | true => exact (hP.inf rfl).symm
 | false =>
  have h := hP.af
  show (⟨x, (-((-y) % M)) % M, false⟩ : Pt) = ⟨x, y, false⟩
  have e : (-((-y) % M)) % M = y := by
   refine cg_eq (cg_trans (cg_mod M _) ?_) ⟨Int.emod_nonneg _ ?_, Int.emod_lt_of_pos _ ?_⟩ ⟨h.y0, h.y1⟩
   ·have h2 := cg_mod M (-y)
    have e2 : -((-y) % M) - y = -((-y) % M - -y) := by omega
    rw [e2]
    exact Int.dvd_neg.2 h2
   ·have := h.y0; have := h.y1; omega
   ·have := h.y0; have := h.y1; omega
  rw [e]
theorem adP_opp {A B M : Int} {P : Pt} (hP : On A B M P) : adP A M P (oppP M P) = ⟨0, 0, true⟩ := by
 obtain ⟨x, y, i⟩ := P
 cases i with
 | true => rfl
 | false =>
  show (sumP A M ⟨x, y, false⟩ ⟨x, (-y) % M, false⟩).1 = _
  rw [sum_inf rfl]
  have h2 := cg_mod M (-y)
  have e : y + (-y) % M = (-y) % M - -y := by omega
  rw [e]
  exact h2
theorem neg_af {A B M x y : Int} (hM : 0 < M) (h : Af A B M x y) : Af A B M x ((-y) % M) := by
 refine ⟨h.x0, h.x1, Int.emod_nonneg _ (by omega), Int.emod_lt_of_pos _ hM, ?_⟩
 have g5 := h.o
 have e : y * y = (-y) * (-y) := by rw [Int.neg_mul_neg]
 rw [e] at g5
 exact on_cong g5 (cg_refl M x) (cg_mod M (-y))
theorem adP_cancel {A B M : Int} {Q R : Pt} (hc : Crv A B M) (hQ : On A B M Q) (hR : On A B M R) : adP A M (oppP M Q) (adP A M Q R) = R := by
 have hM : 0 < M := (curve_of hc.c).1
 obtain ⟨x1, y1, i1⟩ := Q
 obtain ⟨x2, y2, i2⟩ := R
 cases i1 with
 | true => rfl
 | false =>
  cases i2 with
  | true =>
   rw [hR.inf rfl, adP_O' hQ, adP_comm hc (opp_on hQ) hQ, adP_opp hQ]
  | false =>
   by_cases hn : x1 = x2 ∧ M ∣ y1 + y2
   ·have e : (⟨x2, y2, false⟩ : Pt) = oppP M ⟨x1, y1, false⟩ := by
     show (⟨x2, y2, false⟩ : Pt) = ⟨x1, (-y1) % M, false⟩
     have hy : y2 = (-y1) % M := by
      refine cg_eq (cg_trans ?_ (cg_symm (cg_mod M _))) ⟨hR.af.y0, hR.af.y1⟩ ⟨Int.emod_nonneg _ (by omega), Int.emod_lt_of_pos _ hM⟩
      have e : y2 - -y1 = y1 + y2 := by omega
      rw [e]
      exact hn.2
     rw [← hn.1, hy]
    rw [e, adP_opp hQ, adP_O' (opp_on hQ)]
   ·obtain ⟨s, n, x3, y3, e, hr, hC⟩ := line_ex hc hQ.af hR.af hn
    have hS : On A B M ⟨x3, y3, false⟩ := by
     have := adP_on hc hQ hR
     unfold adP at this
     rwa [e] at this
    unfold adP
    rw [e]
    show (sumP A M ⟨x1, (-y1) % M, false⟩ ⟨x3, y3, false⟩).1 = _
    have h2 := hC.mi.ro.re (cg_mod M (-y1)) (z2 := y3) (by rw [Int.neg_neg]; exact cg_refl M y3) (cg_refl M _)
    rw [line_uniq hc (neg_af hM hQ.af) hS.af ⟨hR.af.x0, hR.af.x1⟩ h2, negneg ⟨hR.af.y0, hR.af.y1⟩]
theorem adP_zero {A B M : Int} {P Q : Pt} (hc : Crv A B M) (hP : On A B M P) (hQ : On A B M Q) (h : adP A M P Q = ⟨0, 0, true⟩) : Q = oppP M P := by
 have h1 := adP_cancel hc hP hQ
 rw [h, adP_O' (opp_on hP)] at h1
 exact h1.symm
theorem adP_neg {A B M : Int} {P Q : Pt} (hc : Crv A B M) (hP : On A B M P) (hQ : On A B M Q) : oppP M (adP A M P Q) = adP A M (oppP M P) (oppP M Q) := by
 have hM : 0 < M := (curve_of hc.c).1
 obtain ⟨x1, y1, i1⟩ := P
 obtain ⟨x2, y2, i2⟩ := Q
 cases i1 with
 | true => rfl
 | false =>
  cases i2 with
  | true => rfl
  | false =>
   by_cases hn : x1 = x2 ∧ M ∣ y1 + y2
   ·have e1 : adP A M ⟨x1, y1, false⟩ ⟨x2, y2, false⟩ = ⟨0, 0, true⟩ := by unfold adP; rw [sum_inf hn.1 hn.2]
    have e2 := adP_zero hc hP hQ e1
    rw [e1, e2, adP_opp (opp_on hP)]
    rfl
   ·obtain ⟨s, n, x3, y3, e, hr, hC⟩ := line_ex hc hP.af hQ.af hn
    unfold adP
    rw [e]
    show _ = (sumP A M ⟨x1, (-y1) % M, false⟩ ⟨x2, (-y2) % M, false⟩).1
    rw [line_uniq hc (neg_af hM hP.af) (neg_af hM hQ.af) ⟨hr.1, hr.2.1⟩ (hC.mi.re (cg_mod M _) (cg_mod M _) (z3 := y3) (by rw [Int.neg_neg]; exact cg_refl M y3))]
    rfl
theorem keyK {A B M l m u k a n x1 y1 x2 y2 x3 y3 xS yS xT zT xW zW : Int} (hc : Crv A B M) (h2 : Af A B M x2 y2) (h3 : Af A B M x3 y3) (cL : Col M A B l m x1 y1 x2 y2 xS (-yS)) (cU : Col M A B u k x2 y2 x3 y3 xT zT) (cN : Col M A B a n xS yS x3 y3 xW zW) : M ∣ (a + l) * (u - l) - (x3 - x1) := by
 have z : M ∣ -yS + yS := by rw [Int.add_left_neg]; exact Int.dvd_zero M
 rcases hc.p _ _ (key1 cU.l1 cU.l2 cL.l2 cN.l2 cL.e1 cN.e1 cN.e2 cL.e2 z cL.l3 cN.l1) with h | h
 ·have ex := cg_eq h ⟨h3.x0, h3.x1⟩ ⟨h2.x0, h2.x1⟩
  subst ex
  have ey := cg_eq (co_y cU.l1 cU.l2 (cg_refl M x3)) ⟨h3.y0, h3.y1⟩ ⟨h2.y0, h2.y1⟩
  subst ey
  have d2 := der2 cU.e1 cU.e2 cU.l1
  have sv := sumv cL.l2 cN.l2 cL.l3 cN.l1 z
  rcases hc.p _ _ (key2 (der1 cL.e1 cL.e2 cL.l2) d2 sv) with h' | h'
  ·exfalso
   have hy : M ∣ y3 + y3 := by
    have := Int.dvd_sub (Int.dvd_mul_of_dvd_right (b := a + l) h') sv
    have e : (a + l) * (x3 - xS) - ((a + l) * (x3 - xS) - (y3 + y3)) = y3 + y3 := by omega
    rwa [e] at this
   have hA : M ∣ 3 * (x3 * x3) + A := by
    have := Int.dvd_sub (Int.dvd_mul_of_dvd_right (b := u) hy) d2
    have e : u * (y3 + y3) - (u * (y3 + y3) - (3 * (x3 * x3) + A)) = 3 * (x3 * x3) + A := by omega
    rwa [e] at this
   exact hc.s (sing (hc.two hy) h3.o hA)
  ·exact h'
 ·exact h
theorem generic {A B M l m u k a n b q x1 y1 x2 y2 x3 y3 xS yS xT yT xW zW xV zV : Int} (hc : Crv A B M) (h1 : Af A B M x1 y1) (h2 : Af A B M x2 y2) (h3 : Af A B M x3 y3) (cL : Col M A B l m x1 y1 x2 y2 xS (-yS)) (cU : Col M A B u k x2 y2 x3 y3 xT (-yT)) (cN : Col M A B a n xS yS x3 y3 xW zW) (cV : Col M A B b q xT yT x1 y1 xV zV) : (x3 = x1 ∧ y3 = y1) ∨ (M ∣ xW - xV ∧ M ∣ zW - zV) := by
 have k1 := keyK hc h2 h3 cL cU cN
 have k2 := keyK hc h2 h1 cU.sw cL.sw cV
 rcases hc.p _ _ (keyd k1 k2) with h | h
 ·left
  have ex := deg_x k1 h
  exact ⟨cg_eq ex ⟨h3.x0, h3.x1⟩ ⟨h1.x0, h1.x1⟩, cg_eq (deg_y cU.l1 cU.l2 cL.l1 cL.l2 h ex) ⟨h3.y0, h3.y1⟩ ⟨h1.y0, h1.y1⟩⟩
 ·right
  have fx := finx cN.e1 cL.e1 cV.e1 cU.e1 k1 h
  exact ⟨fx, finz cN.l3 cN.l2 cV.l3 cV.l2 cU.l1 cU.l2 cL.l1 cL.l2 fx h k1 cN.e1 cL.e1⟩
theorem adP_assoc {A B M : Int} {P Q R : Pt} (hc : Crv A B M) (hP : On A B M P) (hQ : On A B M Q) (hR : On A B M R) : adP A M (adP A M P Q) R = adP A M P (adP A M Q R) := by
 have hS := adP_on hc hP hQ
 have hT := adP_on hc hQ hR
 by_cases iP : P.i = true
 ·rw [hP.inf iP, adP_O, adP_O]
 by_cases iQ : Q.i = true
 ·rw [hQ.inf iQ, adP_O, adP_O' hP]
 by_cases iR : R.i = true
 ·rw [hR.inf iR, adP_O' hS, adP_O' hQ]
 by_cases iS : (adP A M P Q).i = true
 ·have e := adP_zero hc hP hQ (hS.inf iS)
  rw [hS.inf iS, adP_O, e]
  have := adP_cancel hc (opp_on hP) hR
  rw [opp_opp hP] at this
  exact this.symm
 by_cases iT : (adP A M Q R).i = true
 ·have e := adP_zero hc hQ hR (hT.inf iT)
  rw [hT.inf iT, adP_O' hP, e, adP_comm hc hS (opp_on hQ), adP_comm hc hP hQ, adP_cancel hc hQ hP]
 have hSR := adP_on hc hS hR
 have hPT := adP_on hc hP hT
 by_cases iSR : (adP A M (adP A M P Q) R).i = true
 ·have e := adP_zero hc hS hR (hSR.inf iSR)
  have e2 : adP A M Q R = oppP M P := by
   rw [e, adP_neg hc hP hQ, adP_comm hc (opp_on hP) (opp_on hQ)]
   have := adP_cancel hc (opp_on hQ) (opp_on hP)
   rwa [opp_opp hQ] at this
  rw [hSR.inf iSR, e2, adP_opp hP]
 by_cases iPT : (adP A M P (adP A M Q R)).i = true
 ·have e := adP_zero hc hP hT (hPT.inf iPT)
  have e2 : P = oppP M (adP A M Q R) := by rw [e, opp_opp hP]
  have e3 : adP A M P Q = oppP M R := by
   rw [adP_comm hc hP hQ, e2, adP_neg hc hQ hR]
   have := adP_cancel hc (opp_on hQ) (opp_on hR)
   rwa [opp_opp hQ] at this
  rw [hPT.inf iPT, e3, adP_comm hc (opp_on hR) hR, adP_opp hR]
 rw [adP_comm hc hP hT] at iPT ⊢
 obtain ⟨x1, y1, i1⟩ := P
 obtain ⟨x2, y2, i2⟩ := Q
 obtain ⟨x3, y3, i3⟩ := R
 obtain rfl : i1 = false := by simpa using iP
 obtain rfl : i2 = false := by simpa using iQ
 obtain rfl : i3 = false := by simpa using iR
 have nPQ : ¬ (x1 = x2 ∧ M ∣ y1 + y2) := fun hn => iS (by unfold adP; rw [sum_inf hn.1 hn.2])
 have nQR : ¬ (x2 = x3 ∧ M ∣ y2 + y3) := fun hn => iT (by unfold adP; rw [sum_inf hn.1 hn.2])
 obtain ⟨l, m, xS, yS, eS, rS, cL⟩ := line_ex hc hP.af hQ.af nPQ
 obtain ⟨u, k, xT, yT, eT, rT, cU⟩ := line_ex hc hQ.af hR.af nQR
 have aS : adP A M ⟨x1, y1, false⟩ ⟨x2, y2, false⟩ = ⟨xS, yS, false⟩ := by unfold adP; rw [eS]
 have aT : adP A M ⟨x2, y2, false⟩ ⟨x3, y3, false⟩ = ⟨xT, yT, false⟩ := by unfold adP; rw [eT]
 rw [aS] at hS iSR hSR ⊢
 rw [aT] at hT iPT hPT ⊢
 have nSR : ¬ (xS = x3 ∧ M ∣ yS + y3) := fun hn => iSR (by unfold adP; rw [sum_inf hn.1 hn.2])
 have nTP : ¬ (xT = x1 ∧ M ∣ yT + y1) := fun hn => iPT (by unfold adP; rw [sum_inf hn.1 hn.2])
 obtain ⟨a, n, xW, yW, eW, rW, cN⟩ := line_ex hc hS.af hR.af nSR
 obtain ⟨b, q, xV, yV, eV, rV, cV⟩ := line_ex hc hT.af hP.af nTP
 rcases generic hc hP.af hQ.af hR.af cL cU cN cV with ⟨h, h'⟩ | ⟨h, h'⟩
 ·subst h h'
  have e : (⟨xS, yS, false⟩ : Pt) = ⟨xT, yT, false⟩ := by rw [← aS, ← aT, adP_comm hc hP hQ]
  rw [e]
 ·have e1 := cg_eq h ⟨rW.1, rW.2.1⟩ ⟨rV.1, rV.2.1⟩
  have e2 : yW = yV := by
   refine cg_eq ?_ rW.2.2 rV.2.2
   have e : yW - yV = -(-yW - -yV) := by omega
   rw [e]
   exact Int.dvd_neg.2 h'
  unfold adP
  rw [eW, eV, e1, e2]

end Go.Proofs.Ytihhlaagndingaa

namespace Go.Proofs.Ytihhlaagndingaa
open Go Go.RowKit

theorem sumP_ad {A B M : Int} {P Q : Pt} (hc : Crv A B M) (hP : On A B M P) (hQ : On A B M Q) : sumP A M P Q = (adP A M P Q, 0) := Prod.ext rfl (sum_two hc hP hQ)
theorem addS_z {A B M : Int} {P Q : Pt} (hc : Crv A B M) (hP : On A B M P) (hQ : On A B M Q) : addS A B M P Q = (adP A M P Q, 0, 0) := by
 unfold addS
 rw [sumP_ad hc hP hQ]
 exact (if_pos hP).trans ((if_pos hQ).trans (if_pos rfl))
theorem crv_of {A B : Int} {p : Nat} (hp : Pr p) (hc : curveB A B p = true) (hg : Int.gcd ((4 * (A * (A * A))) + (27 * (B * B))) p = 1) : Crv A B p := by
 refine ⟨hc, fun a b h => ?_, fun a h => hp.cop fun e => h (Int.dvd_of_emod_eq_zero e), fun h => ?_⟩
 ·rcases prime_mul hp (Int.emod_eq_zero_of_dvd h) with e | e
  ·exact .inl (Int.dvd_of_emod_eq_zero e)
  ·exact .inr (Int.dvd_of_emod_eq_zero e)
 ·have h1 := Int.dvd_coe_gcd h (Int.dvd_refl _)
  rw [hg] at h1
  have := Int.le_of_dvd (by omega) h1
  have := hp.1
  omega

end Go.Proofs.Ytihhlaagndingaa

namespace Go.Proofs.Ytihhlaagndingaa
open Go Go.RowKit

def invC (D M : Int) : Option Nat := (List.range M.toNat).find? fun u => decide ((D * (u : Int)) % M = 1 % M)
def finC (M x1 y1 x2 N D : Int) : Pt × Int := if D = 0 then (⟨0, 0, true⟩, 0) else match invC D M with
 | some u => (⟨((N * u) % M * ((N * u) % M) - (x1 + x2)) % M, ((N * u) % M * (x1 - ((N * u) % M * ((N * u) % M) - (x1 + x2)) % M) - y1) % M, false⟩, 0)
 | none => (⟨0, 0, false⟩, (Int.gcd D M : Int))
theorem finC_eq {M x1 y1 x2 N D : Int} (hM : 0 < M) : finP M x1 y1 x2 N D = finC M x1 y1 x2 N D := by
 unfold finP finC
 by_cases h0 : D = 0
 ·rw [if_pos h0, if_pos h0]
 ·rw [if_neg h0, if_neg h0]
  cases hi : invC D M with
  | some u =>
   have h1 := List.find?_some hi
   have h2 := List.mem_of_find?_eq_some hi
   simp only [decide_eq_true_eq] at h1
   simp only [List.mem_range] at h2
   obtain ⟨h3, h4⟩ := inv_uniq hM (show (0 : Int) ≤ (u : Int) by omega) (show (u : Int) < M by omega) h1
   rw [if_pos h3]
   simp only [finX, finY, ← h4]
  | none =>
   have h1 := List.find?_eq_none.1 hi
   have h3 : ¬ Int.gcd D M = 1 := by
    intro h
    have h4 := bez_inv hM h
    have h5 := bez_spec (a := D) hM
    have h6 := bez_lt (a := D) hM
    refine h1 (bezU D M).toNat (by simp only [List.mem_range]; omega) ?_
    rw [show ((bezU D M).toNat : Int) = bezU D M by omega]
    exact decide_eq_true h4
   rw [if_neg h3]
def sumC (A M : Int) (P Q : Pt) : Pt × Int := if P.i then (Q, 0) else if Q.i then (P, 0) else finC M P.x P.y Q.x (slN A P.x P.y Q.x Q.y) (slD M P.x P.y Q.x Q.y)
theorem sumC_eq {A M : Int} {P Q : Pt} (hM : 0 < M) : sumP A M P Q = sumC A M P Q := by
 unfold sumP sumC
 rw [finC_eq hM]
def stepC (A M : Int) (P : Pt) (R : Pt × Int) (b : Bool) : Pt × Int := if R.2 = 0 then (if (sumC A M R.1 R.1).2 = 0 then (if b then sumC A M (sumC A M R.1 R.1).1 P else sumC A M R.1 R.1) else sumC A M R.1 R.1) else R
def mulC (A M : Int) (P : Pt) : Nat → Nat → Pt × Int
 | 0, _ => (⟨0, 0, true⟩, 0)
 | k + 1, m => stepC A M P (mulC A M P k (m / 2)) (decide (m % 2 = 1))
theorem mulC_eq {A M : Int} {P : Pt} (hM : 0 < M) : ∀ k m, mulP A M P k m = mulC A M P k m
 | 0, _ => rfl
 | k + 1, m => by
  rw [mulP, mulC, mulC_eq hM k, stepP, stepC]
  simp only [sumC_eq hM]
def addC (A B M : Int) (P Q : Pt) : Pt × Int × Int := if onB A B M P.x P.y P.i = true then (if onB A B M Q.x Q.y Q.i = true then (if (sumC A M P Q).2 = 0 then ((sumC A M P Q).1, 0, 0) else (⟨0, 0, false⟩, (sumC A M P Q).2, 6)) else (⟨0, 0, false⟩, 0, 1)) else (⟨0, 0, false⟩, 0, 1)
theorem addC_eq {A B M : Int} {P Q : Pt} (hM : 0 < M) : addS A B M P Q = addC A B M P Q := by
 unfold addS addC
 simp only [sumC_eq hM]
theorem timesC_eq {A B M : Int} {P : Pt} {k m : Nat} {n : Int} (hM : 0 < M) (hn : ¬ n < 0) (hk : nbits n = k) (hm : n.natAbs = m) (h : onB A B M P.x P.y P.i = true) {R : Pt × Int} (hR : mulC A M P k m = R) (h0 : R.2 = 0) : timesS A B M n P = (R.1, 0, 0) := by
 have e : timesP A M P n = R := by
  unfold timesP xjP
  rw [if_neg hn, hk, hm, Nat.sub_zero, Nat.pow_zero, Nat.div_one, mulC_eq hM, hR]
 unfold timesS
 rw [if_pos h, e, if_pos h0]
theorem ex6_two : addS 1 1 5 ⟨0, 1, false⟩ ⟨0, 1, false⟩ = (⟨4, 2, false⟩, 0, 0) := by rw [addC_eq (by decide)]; kernel_rfl
theorem ex6_none : addS 1 1 35 ⟨0, 1, false⟩ ⟨7, 6, false⟩ = (⟨0, 0, false⟩, 7, 6) := by rw [addC_eq (by decide)]; kernel_rfl
theorem ex6_bad : addS 1 1 5 ⟨1, 1, false⟩ ⟨0, 1, false⟩ = (⟨0, 0, false⟩, 0, 1) := by rw [addC_eq (by decide)]; kernel_rfl
theorem nbits_three : nbits 3 = 2 := by kernel_rfl
theorem nbits_nine : nbits 9 = 4 := by kernel_rfl
theorem ex6_three : timesS 1 1 5 3 ⟨0, 1, false⟩ = (⟨2, 1, false⟩, 0, 0) := timesC_eq (R := (⟨2, 1, false⟩, 0)) (by decide) (by decide) nbits_three rfl (by decide) (by kernel_rfl) rfl
theorem ex6_nine : timesS 1 1 5 9 ⟨0, 1, false⟩ = (⟨0, 0, true⟩, 0, 0) := timesC_eq (R := (⟨0, 0, true⟩, 0)) (by decide) (by decide) nbits_nine rfl (by decide) (by kernel_rfl) rfl
theorem lit5 {z : Int} (h : ab z < 4294967296 * 4294967296 * 4294967296) : ab z < pw 5 := Int.lt_of_lt_of_le (ab_lit h) (pw_le (by omega))
set_option maxRecDepth 100000 in
set_option maxHeartbeats 4000000 in
theorem exSixExamples (w : World) :
  Calls Try.prog 7 #[] w fun e w' => ∃ v', e = .returned v' ∧ Below w.heap.size w w' ∧ v' = .bool true := by
 have E := Fr.start w
 go_enter Try.func7, Try.ntmps7
 go_upto_region 1 with (fail)
 have B1 : Hid (ab ((1)) < pw 3) := ab_lit (by decide)
 have B2 : Hid (ab ((5)) < pw 3) := ab_lit (by decide)
 refine region_fr (C := [Fq.num (1), Fq.num (1), Fq.num (5), Fq.st [.n (1), .n (1), .n (5)], Fq.any, Fq.any]) (ks := []) (new := [⟨4, 5, 6, Fq.st [.n 0, .n 0, .n 0], Fq.st [.n (1), .n (1), .n (5)], none⟩]) E rfl (by kernel_rfl) rfl rfl (fun hp => ⟨?_, ?_, ?_, ?_, ?_, ?_, trivial⟩) ?_
 ·exact q_call1 (F := (Fq.is (.int .i64 1)).P) hp (free_of rfl) trivial (enq_R_Of) (sq_const (fun _ => rfl)) (fun v w h => (by subst h; exact rOfK w (1) (by omega) (by omega)))
 ·exact q_call1 (F := (Fq.is (.int .i64 1)).P) hp (free_of rfl) trivial (enq_R_Of) (sq_const (fun _ => rfl)) (fun v w h => (by subst h; exact rOfK w (1) (by omega) (by omega)))
 ·exact q_call1 (F := (Fq.is (.int .i64 5)).P) hp (free_of rfl) trivial (enq_R_Of) (sq_const (fun _ => rfl)) (fun v w h => (by subst h; exact rOfK w (5) (by omega) (by omega)))
 ·exact q_build_api_Mod_012 (z0 := (1)) (z1 := (1)) (z2 := (5)) hp (free_of rfl) trivial (sqi 0) (sqi 1) (sqi 2) (fun v w h => h)
 ·exact q_allocSt (us := [.bool false, .slice none 0 0, .bool false, .slice none 0 0, .bool false, .slice none 0 0]) (fs := [.n 0, .n 0, .n 0]) hp (mq 0 rfl) rfl rfl rfl (Nat.lt_of_sub_eq_succ rfl) rfl fits0_api_Mod (fun ρ w => ralloc_api_Mod ρ w) rfl (Nat.ne_of_beq_eq_false rfl) (fun _ _ => trivial) (old_ne rfl) (newk_ne rfl)
 ·exact q_storeNewSt (fs := [.n 0, .n 0, .n 0]) (gs := [.n (1), .n (1), .n (5)]) hp (mq 0 rfl) rfl rfl rfl rfl size_api_Mod rfl (own_ptr rfl rfl (by simp) rfl) (sq_in 3 rfl rfl (by simp) rfl (fun v w h => fitv_st h)) (fun _ _ => trivial) (old_ne rfl) (newi_ne rfl)
 intro L vs w3 nb hL hC hn E3
 have e4 : vs 4 = .pointer (some ⟨nb 4, 0, none⟩) := hn _ (mq 0 rfl)
 have E : Fr w [(nb 4, 6, Fq.st [.n (1), .n (1), .n (5)])] w3 := E3
 rw [lay_all hL]
 simp only [putAll, dstOf, List.length_cons, List.length_nil, Nat.zero_add, Nat.reduceAdd, List.getElem?_toArray, List.getElem?_cons_zero, List.getElem?_cons_succ, Option.bind_some, Act.put, List.setIfInBounds_toArray, List.set_cons_succ, List.set_cons_zero]
 rw [e4]
 generalize nb 4 = b3_4 at E ⊢
 generalize vs 0 = u3_0
 generalize vs 1 = u3_1
 generalize vs 2 = u3_2
 generalize vs 3 = u3_3
 clear e4 hC hn E3 hL vs L nb
 go_upto_region 2 with (fail)
 have B4 : Hid (ab ((35)) < pw 3) := ab_lit (by decide)
 refine region_fr (C := [Fq.num (1), Fq.num (1), Fq.num (35), Fq.st [.n (1), .n (1), .n (35)], Fq.any, Fq.any]) (ks := [none]) (new := [⟨4, 5, 6, Fq.st [.n 0, .n 0, .n 0], Fq.st [.n (1), .n (1), .n (35)], none⟩]) E rfl (by kernel_rfl) rfl rfl (fun hp => ⟨?_, ?_, ?_, ?_, ?_, ?_, trivial⟩) ?_
 ·exact q_call1 (F := (Fq.is (.int .i64 1)).P) hp (free_of rfl) trivial (enq_R_Of) (sq_const (fun _ => rfl)) (fun v w h => (by subst h; exact rOfK w (1) (by omega) (by omega)))
 ·exact q_call1 (F := (Fq.is (.int .i64 1)).P) hp (free_of rfl) trivial (enq_R_Of) (sq_const (fun _ => rfl)) (fun v w h => (by subst h; exact rOfK w (1) (by omega) (by omega)))
 ·exact q_call1 (F := (Fq.is (.int .i64 35)).P) hp (free_of rfl) trivial (enq_R_Of) (sq_const (fun _ => rfl)) (fun v w h => (by subst h; exact rOfK w (35) (by omega) (by omega)))
 ·exact q_build_api_Mod_012 (z0 := (1)) (z1 := (1)) (z2 := (35)) hp (free_of rfl) trivial (sqi 0) (sqi 1) (sqi 2) (fun v w h => h)
 ·exact q_allocSt (us := [.bool false, .slice none 0 0, .bool false, .slice none 0 0, .bool false, .slice none 0 0]) (fs := [.n 0, .n 0, .n 0]) hp (mq 0 rfl) rfl rfl rfl (Nat.lt_of_sub_eq_succ rfl) rfl fits0_api_Mod (fun ρ w => ralloc_api_Mod ρ w) rfl (Nat.ne_of_beq_eq_false rfl) (fun _ _ => trivial) (old_ne rfl) (newk_ne rfl)
 ·exact q_storeNewSt (fs := [.n 0, .n 0, .n 0]) (gs := [.n (1), .n (1), .n (35)]) hp (mq 0 rfl) rfl rfl rfl rfl size_api_Mod rfl (own_ptr rfl rfl (by simp) rfl) (sq_in 3 rfl rfl (by simp) rfl (fun v w h => fitv_st h)) (fun _ _ => trivial) (old_ne rfl) (newi_ne rfl)
 intro L vs w5 nb hL hC hn E5
 have e4 : vs 4 = .pointer (some ⟨nb 4, 0, none⟩) := hn _ (mq 0 rfl)
 have E : Fr w [(nb 4, 6, Fq.st [.n (1), .n (1), .n (35)]), (b3_4, 6, Fq.st [.n (1), .n (1), .n (5)])] w5 := E5
 rw [lay_all hL]
 simp only [putAll, dstOf, List.length_cons, List.length_nil, Nat.zero_add, Nat.reduceAdd, List.getElem?_toArray, List.getElem?_cons_zero, List.getElem?_cons_succ, Option.bind_some, Act.put, List.setIfInBounds_toArray, List.set_cons_succ, List.set_cons_zero]
 rw [e4]
 generalize nb 4 = b5_4 at E ⊢
 generalize vs 0 = u5_0
 generalize vs 1 = u5_1
 generalize vs 2 = u5_2
 generalize vs 3 = u5_3
 clear e4 hC hn E5 hL vs L nb
 go_upto_region 3 with (fail)
 refine region_fr (C := [Fq.st [.n (0), .n (1), .v (.bool false)], Fq.any, Fq.any]) (ks := [none, none]) (new := [⟨1, 2, 5, Fq.st [.n 0, .n 0, .v (.bool false)], Fq.st [.n (0), .n (1), .v (.bool false)], none⟩]) E rfl (by kernel_rfl) rfl rfl (fun hp => ⟨?_, ?_, ?_, trivial⟩) ?_
 ·exact q_call2 (F := (Fq.is (.int .i64 0)).P) (G := (Fq.is (.int .i64 1)).P) hp (free_of rfl) trivial (enq_f_algorist_algoristlaw06_at) (sq_const (fun _ => rfl)) (sq_const (fun _ => rfl)) (fun v v' w h h' => (by subst h h'; exact exAt (x := 0) (y := 1) (by omega) (by omega)))
 ·exact q_allocSt (us := [.bool false, .slice none 0 0, .bool false, .slice none 0 0, .bool false]) (fs := [.n 0, .n 0, .v (.bool false)]) hp (mq 0 rfl) rfl rfl rfl (Nat.lt_of_sub_eq_succ rfl) rfl fits0_api_Point (fun ρ w => ralloc_api_Point ρ w) rfl (Nat.ne_of_beq_eq_false rfl) (fun _ _ => trivial) (old_ne rfl) (newk_ne rfl)
 ·exact q_storeNewSt (fs := [.n 0, .n 0, .v (.bool false)]) (gs := [.n (0), .n (1), .v (.bool false)]) hp (mq 0 rfl) rfl rfl rfl rfl size_api_Point rfl (own_ptr rfl rfl (by simp) rfl) (sq_in 0 rfl rfl (by simp) rfl (fun v w h => fitv_st h)) (fun _ _ => trivial) (old_ne rfl) (newi_ne rfl)
 intro L vs w6 nb hL hC hn E6
 have e1 : vs 1 = .pointer (some ⟨nb 1, 0, none⟩) := hn _ (mq 0 rfl)
 have E : Fr w [(nb 1, 5, Fq.st [.n (0), .n (1), .v (.bool false)]), (b5_4, 6, Fq.st [.n (1), .n (1), .n (35)]), (b3_4, 6, Fq.st [.n (1), .n (1), .n (5)])] w6 := E6
 rw [lay_all hL]
 simp only [putAll, dstOf, List.length_cons, List.length_nil, Nat.zero_add, Nat.reduceAdd, List.getElem?_toArray, List.getElem?_cons_zero, List.getElem?_cons_succ, Option.bind_some, Act.put, List.setIfInBounds_toArray, List.set_cons_succ, List.set_cons_zero]
 rw [e1]
 generalize nb 1 = b6_1 at E ⊢
 generalize vs 0 = u6_0
 clear e1 hC hn E6 hL vs L nb
 go_upto_region 4 with (fail)
 have B7 : Hid (ab ((3)) < pw 3) := ab_lit (by decide)
 have B8 : Hid (ab ((9)) < pw 3) := ab_lit (by decide)
 refine region_fr (C := [Fq.st [.n (1), .n (1), .n (5)], Fq.st [.n (0), .n (1), .v (.bool false)], Fq.st [.n (0), .n (1), .v (.bool false)], Fq.st [.n (4), .n (2), .v (.bool false), .n (0), .v (.int .i64 0)], Fq.st [.n (1), .n (1), .n (5)], Fq.num (3), Fq.st [.n (0), .n (1), .v (.bool false)], Fq.st [.n (2), .n (1), .v (.bool false), .n (0), .v (.int .i64 0)], Fq.st [.n (1), .n (1), .n (5)], Fq.num (9), Fq.st [.n (0), .n (1), .v (.bool false)], Fq.st [.n (0), .n (0), .v (.bool true), .n (0), .v (.int .i64 0)], Fq.any, Fq.any, Fq.any, Fq.any, Fq.any, Fq.any]) (ks := [none, none, none]) (new := [⟨12, 15, 8, Fq.st [.n 0, .n 0, .v (.bool false), .n 0, .v (.int .i64 0)], Fq.st [.n (4), .n (2), .v (.bool false), .n (0), .v (.int .i64 0)], none⟩, ⟨13, 16, 8, Fq.st [.n 0, .n 0, .v (.bool false), .n 0, .v (.int .i64 0)], Fq.st [.n (2), .n (1), .v (.bool false), .n (0), .v (.int .i64 0)], none⟩, ⟨14, 17, 8, Fq.st [.n 0, .n 0, .v (.bool false), .n 0, .v (.int .i64 0)], Fq.st [.n (0), .n (0), .v (.bool true), .n (0), .v (.int .i64 0)], none⟩]) E rfl (by kernel_rfl) rfl rfl (fun hp => ⟨?_, ?_, ?_, ?_, ?_, ?_, ?_, ?_, ?_, ?_, ?_, ?_, ?_, ?_, ?_, ?_, ?_, ?_, trivial⟩) ?_
 ·exact q_loadSt (off := 0) (l := 6) (fs := [.n (1), .n (1), .n (5)]) (gs := [.n (1), .n (1), .n (5)]) hp (free_of rfl) trivial (mq 2 rfl) (.inl rfl) rfl row_api_Mod rfl (sqo 1) (fun v w h => h)
 ·exact q_loadSt (off := 0) (l := 5) (fs := [.n (0), .n (1), .v (.bool false)]) (gs := [.n (0), .n (1), .v (.bool false)]) hp (free_of rfl) trivial (mq 0 rfl) (.inl rfl) rfl row_api_Point rfl (sqo 3) (fun v w h => h)
 ·exact q_loadSt (off := 0) (l := 5) (fs := [.n (0), .n (1), .v (.bool false)]) (gs := [.n (0), .n (1), .v (.bool false)]) hp (free_of rfl) trivial (mq 0 rfl) (.inl rfl) rfl row_api_Point rfl (sqo 3) (fun v w h => h)
 ·exact q_call3 (F := (Fq.st [.n (1), .n (1), .n (5)]).P) (G := (Fq.st [.n (0), .n (1), .v (.bool false)]).P) (F3 := (Fq.st [.n (0), .n (1), .v (.bool false)]).P) hp (free_of rfl) trivial (enq_f_algorist_algoristlaw06_add) (sqi 0) (sqi 1) (sqi 2) (fun v v' u w h h' g => exLAdd (P := ⟨(0), (1), false⟩) (Q := ⟨(0), (1), false⟩) (R := (⟨4, 2, false⟩, 0, 0)) h h' g (lit5 (by decide)) (lit5 (by decide)) (lit5 (by decide)) ⟨(lit5 (by decide)), (lit5 (by decide))⟩ ⟨(lit5 (by decide)), (lit5 (by decide))⟩ ex6_two)
 ·exact q_loadSt (off := 0) (l := 6) (fs := [.n (1), .n (1), .n (5)]) (gs := [.n (1), .n (1), .n (5)]) hp (free_of rfl) trivial (mq 2 rfl) (.inl rfl) rfl row_api_Mod rfl (sqo 1) (fun v w h => h)
 ·exact q_call1 (F := (Fq.is (.int .i64 3)).P) hp (free_of rfl) trivial (enq_R_Of) (sq_const (fun _ => rfl)) (fun v w h => (by subst h; exact rOfK w (3) (by omega) (by omega)))
 ·exact q_loadSt (off := 0) (l := 5) (fs := [.n (0), .n (1), .v (.bool false)]) (gs := [.n (0), .n (1), .v (.bool false)]) hp (free_of rfl) trivial (mq 0 rfl) (.inl rfl) rfl row_api_Point rfl (sqo 3) (fun v w h => h)
 ·exact q_call3 (F := (Fq.st [.n (1), .n (1), .n (5)]).P) (G := (Fq.num (3)).P) (F3 := (Fq.st [.n (0), .n (1), .v (.bool false)]).P) hp (free_of rfl) trivial (enq_f_algorist_algoristlaw06_times) (sqi 4) (sqi 5) (sqi 6) (fun v v' u w h h' g => exLTimes (P := ⟨(0), (1), false⟩) (R := (⟨2, 1, false⟩, 0, 0)) h h' g (lit5 (by decide)) (lit5 (by decide)) (lit5 (by decide)) (Int.lt_of_lt_of_le (lit5 (by decide)) (pw_le (by omega))) ⟨(lit5 (by decide)), (lit5 (by decide))⟩ ex6_three)
 ·exact q_loadSt (off := 0) (l := 6) (fs := [.n (1), .n (1), .n (5)]) (gs := [.n (1), .n (1), .n (5)]) hp (free_of rfl) trivial (mq 2 rfl) (.inl rfl) rfl row_api_Mod rfl (sqo 1) (fun v w h => h)
 ·exact q_call1 (F := (Fq.is (.int .i64 9)).P) hp (free_of rfl) trivial (enq_R_Of) (sq_const (fun _ => rfl)) (fun v w h => (by subst h; exact rOfK w (9) (by omega) (by omega)))
 ·exact q_loadSt (off := 0) (l := 5) (fs := [.n (0), .n (1), .v (.bool false)]) (gs := [.n (0), .n (1), .v (.bool false)]) hp (free_of rfl) trivial (mq 0 rfl) (.inl rfl) rfl row_api_Point rfl (sqo 3) (fun v w h => h)
 ·exact q_call3 (F := (Fq.st [.n (1), .n (1), .n (5)]).P) (G := (Fq.num (9)).P) (F3 := (Fq.st [.n (0), .n (1), .v (.bool false)]).P) hp (free_of rfl) trivial (enq_f_algorist_algoristlaw06_times) (sqi 8) (sqi 9) (sqi 10) (fun v v' u w h h' g => exLTimes (P := ⟨(0), (1), false⟩) (R := (⟨0, 0, true⟩, 0, 0)) h h' g (lit5 (by decide)) (lit5 (by decide)) (lit5 (by decide)) (Int.lt_of_lt_of_le (lit5 (by decide)) (pw_le (by omega))) ⟨(lit5 (by decide)), (lit5 (by decide))⟩ ex6_nine)
 ·exact q_allocSt (us := [.bool false, .slice none 0 0, .bool false, .slice none 0 0, .bool false, .bool false, .slice none 0 0, .int .i64 0]) (fs := [.n 0, .n 0, .v (.bool false), .n 0, .v (.int .i64 0)]) hp (mq 0 rfl) rfl rfl rfl (Nat.lt_of_sub_eq_succ rfl) rfl fits0_algoristref06_Sum (fun ρ w => ralloc_algoristref06_Sum ρ w) rfl (Nat.ne_of_beq_eq_false rfl) (fun _ _ => trivial) (old_ne rfl) (newk_ne rfl)
 ·exact q_allocSt (us := [.bool false, .slice none 0 0, .bool false, .slice none 0 0, .bool false, .bool false, .slice none 0 0, .int .i64 0]) (fs := [.n 0, .n 0, .v (.bool false), .n 0, .v (.int .i64 0)]) hp (mq 1 rfl) rfl rfl rfl (Nat.lt_of_sub_eq_succ rfl) rfl fits0_algoristref06_Sum (fun ρ w => ralloc_algoristref06_Sum ρ w) rfl (Nat.ne_of_beq_eq_false rfl) (fun _ _ => trivial) (old_ne rfl) (newk_ne rfl)
 ·exact q_allocSt (us := [.bool false, .slice none 0 0, .bool false, .slice none 0 0, .bool false, .bool false, .slice none 0 0, .int .i64 0]) (fs := [.n 0, .n 0, .v (.bool false), .n 0, .v (.int .i64 0)]) hp (mq 2 rfl) rfl rfl rfl (Nat.lt_of_sub_eq_succ rfl) rfl fits0_algoristref06_Sum (fun ρ w => ralloc_algoristref06_Sum ρ w) rfl (Nat.ne_of_beq_eq_false rfl) (fun _ _ => trivial) (old_ne rfl) (newk_ne rfl)
 ·exact q_storeNewSt (fs := [.n 0, .n 0, .v (.bool false), .n 0, .v (.int .i64 0)]) (gs := [.n (4), .n (2), .v (.bool false), .n (0), .v (.int .i64 0)]) hp (mq 0 rfl) rfl rfl rfl rfl size_algoristref06_Sum rfl (own_ptr rfl rfl (by simp) rfl) (sq_in 3 rfl rfl (by simp) rfl (fun v w h => fitv_st h)) (fun _ _ => trivial) (old_ne rfl) (newi_ne rfl)
 ·exact q_storeNewSt (fs := [.n 0, .n 0, .v (.bool false), .n 0, .v (.int .i64 0)]) (gs := [.n (2), .n (1), .v (.bool false), .n (0), .v (.int .i64 0)]) hp (mq 1 rfl) rfl rfl rfl rfl size_algoristref06_Sum rfl (own_ptr rfl rfl (by simp) rfl) (sq_in 7 rfl rfl (by simp) rfl (fun v w h => fitv_st h)) (fun _ _ => trivial) (old_ne rfl) (newi_ne rfl)
 ·exact q_storeNewSt (fs := [.n 0, .n 0, .v (.bool false), .n 0, .v (.int .i64 0)]) (gs := [.n (0), .n (0), .v (.bool true), .n (0), .v (.int .i64 0)]) hp (mq 2 rfl) rfl rfl rfl rfl size_algoristref06_Sum rfl (own_ptr rfl rfl (by simp) rfl) (sq_in 11 rfl rfl (by simp) rfl (fun v w h => fitv_st h)) (fun _ _ => trivial) (old_ne rfl) (newi_ne rfl)
 intro L vs w9 nb hL hC hn E9
 have e12 : vs 12 = .pointer (some ⟨nb 12, 0, none⟩) := hn _ (mq 0 rfl)
 have e13 : vs 13 = .pointer (some ⟨nb 13, 0, none⟩) := hn _ (mq 1 rfl)
 have e14 : vs 14 = .pointer (some ⟨nb 14, 0, none⟩) := hn _ (mq 2 rfl)
 have E : Fr w [(nb 12, 8, Fq.st [.n (4), .n (2), .v (.bool false), .n (0), .v (.int .i64 0)]), (nb 13, 8, Fq.st [.n (2), .n (1), .v (.bool false), .n (0), .v (.int .i64 0)]), (nb 14, 8, Fq.st [.n (0), .n (0), .v (.bool true), .n (0), .v (.int .i64 0)]), (b6_1, 5, Fq.st [.n (0), .n (1), .v (.bool false)]), (b5_4, 6, Fq.st [.n (1), .n (1), .n (35)]), (b3_4, 6, Fq.st [.n (1), .n (1), .n (5)])] w9 := E9
 rw [lay_all hL]
 simp only [putAll, dstOf, List.length_cons, List.length_nil, Nat.zero_add, Nat.reduceAdd, List.getElem?_toArray, List.getElem?_cons_zero, List.getElem?_cons_succ, Option.bind_some, Act.put, List.setIfInBounds_toArray, List.set_cons_succ, List.set_cons_zero]
 rw [e12, e13, e14]
 generalize nb 12 = b9_12 at E ⊢
 generalize nb 13 = b9_13 at E ⊢
 generalize nb 14 = b9_14 at E ⊢
 generalize vs 0 = u9_0
 generalize vs 1 = u9_1
 generalize vs 2 = u9_2
 generalize vs 3 = u9_3
 generalize vs 4 = u9_4
 generalize vs 5 = u9_5
 generalize vs 6 = u9_6
 generalize vs 7 = u9_7
 generalize vs 8 = u9_8
 generalize vs 9 = u9_9
 generalize vs 10 = u9_10
 generalize vs 11 = u9_11
 clear e12 e13 e14 hC hn E9 hL vs L nb
 go_upto_region 5 with (fail)
 refine region_fr (C := [Fq.st [.n (1), .n (1), .n (35)], Fq.st [.n (0), .n (1), .v (.bool false)], Fq.st [.n (7), .n (6), .v (.bool false)], Fq.st [.n (0), .n (0), .v (.bool false), .n (7), .v (.int .i64 6)], Fq.any, Fq.any]) (ks := [none, none, none, none, none, none]) (new := [⟨4, 5, 8, Fq.st [.n 0, .n 0, .v (.bool false), .n 0, .v (.int .i64 0)], Fq.st [.n (0), .n (0), .v (.bool false), .n (7), .v (.int .i64 6)], none⟩]) E rfl (by kernel_rfl) rfl rfl (fun hp => ⟨?_, ?_, ?_, ?_, ?_, ?_, trivial⟩) ?_
 ·exact q_loadSt (off := 0) (l := 6) (fs := [.n (1), .n (1), .n (35)]) (gs := [.n (1), .n (1), .n (35)]) hp (free_of rfl) trivial (mq 4 rfl) (.inl rfl) rfl row_api_Mod rfl (sqo 2) (fun v w h => h)
 ·exact q_loadSt (off := 0) (l := 5) (fs := [.n (0), .n (1), .v (.bool false)]) (gs := [.n (0), .n (1), .v (.bool false)]) hp (free_of rfl) trivial (mq 3 rfl) (.inl rfl) rfl row_api_Point rfl (sqo 3) (fun v w h => h)
 ·exact q_call2 (F := (Fq.is (.int .i64 7)).P) (G := (Fq.is (.int .i64 6)).P) hp (free_of rfl) trivial (enq_f_algorist_algoristlaw06_at) (sq_const (fun _ => rfl)) (sq_const (fun _ => rfl)) (fun v v' w h h' => (by subst h h'; exact exAt (x := 7) (y := 6) (by omega) (by omega)))
 ·exact q_call3 (F := (Fq.st [.n (1), .n (1), .n (35)]).P) (G := (Fq.st [.n (0), .n (1), .v (.bool false)]).P) (F3 := (Fq.st [.n (7), .n (6), .v (.bool false)]).P) hp (free_of rfl) trivial (enq_f_algorist_algoristlaw06_add) (sqi 0) (sqi 1) (sqi 2) (fun v v' u w h h' g => exLAdd (P := ⟨(0), (1), false⟩) (Q := ⟨(7), (6), false⟩) (R := (⟨0, 0, false⟩, 7, 6)) h h' g (lit5 (by decide)) (lit5 (by decide)) (lit5 (by decide)) ⟨(lit5 (by decide)), (lit5 (by decide))⟩ ⟨(lit5 (by decide)), (lit5 (by decide))⟩ ex6_none)
 ·exact q_allocSt (us := [.bool false, .slice none 0 0, .bool false, .slice none 0 0, .bool false, .bool false, .slice none 0 0, .int .i64 0]) (fs := [.n 0, .n 0, .v (.bool false), .n 0, .v (.int .i64 0)]) hp (mq 0 rfl) rfl rfl rfl (Nat.lt_of_sub_eq_succ rfl) rfl fits0_algoristref06_Sum (fun ρ w => ralloc_algoristref06_Sum ρ w) rfl (Nat.ne_of_beq_eq_false rfl) (fun _ _ => trivial) (old_ne rfl) (newk_ne rfl)
 ·exact q_storeNewSt (fs := [.n 0, .n 0, .v (.bool false), .n 0, .v (.int .i64 0)]) (gs := [.n (0), .n (0), .v (.bool false), .n (7), .v (.int .i64 6)]) hp (mq 0 rfl) rfl rfl rfl rfl size_algoristref06_Sum rfl (own_ptr rfl rfl (by simp) rfl) (sq_in 3 rfl rfl (by simp) rfl (fun v w h => fitv_st h)) (fun _ _ => trivial) (old_ne rfl) (newi_ne rfl)
 intro L vs w10 nb hL hC hn E10
 have e4 : vs 4 = .pointer (some ⟨nb 4, 0, none⟩) := hn _ (mq 0 rfl)
 have E : Fr w [(nb 4, 8, Fq.st [.n (0), .n (0), .v (.bool false), .n (7), .v (.int .i64 6)]), (b9_12, 8, Fq.st [.n (4), .n (2), .v (.bool false), .n (0), .v (.int .i64 0)]), (b9_13, 8, Fq.st [.n (2), .n (1), .v (.bool false), .n (0), .v (.int .i64 0)]), (b9_14, 8, Fq.st [.n (0), .n (0), .v (.bool true), .n (0), .v (.int .i64 0)]), (b6_1, 5, Fq.st [.n (0), .n (1), .v (.bool false)]), (b5_4, 6, Fq.st [.n (1), .n (1), .n (35)]), (b3_4, 6, Fq.st [.n (1), .n (1), .n (5)])] w10 := E10
 rw [lay_all hL]
 simp only [putAll, dstOf, List.length_cons, List.length_nil, Nat.zero_add, Nat.reduceAdd, List.getElem?_toArray, List.getElem?_cons_zero, List.getElem?_cons_succ, Option.bind_some, Act.put, List.setIfInBounds_toArray, List.set_cons_succ, List.set_cons_zero]
 rw [e4]
 generalize nb 4 = b10_4 at E ⊢
 generalize vs 0 = u10_0
 generalize vs 1 = u10_1
 generalize vs 2 = u10_2
 generalize vs 3 = u10_3
 clear e4 hC hn E10 hL vs L nb
 go_upto_region 6 with (fail)
 refine region_fr (C := [Fq.st [.n (1), .n (1), .n (5)], Fq.st [.n (1), .n (1), .v (.bool false)], Fq.st [.n (0), .n (1), .v (.bool false)], Fq.st [.n (0), .n (0), .v (.bool false), .n (0), .v (.int .i64 1)], Fq.any, Fq.any]) (ks := [none, none, none, none, none, none, none]) (new := [⟨4, 5, 8, Fq.st [.n 0, .n 0, .v (.bool false), .n 0, .v (.int .i64 0)], Fq.st [.n (0), .n (0), .v (.bool false), .n (0), .v (.int .i64 1)], none⟩]) E rfl (by kernel_rfl) rfl rfl (fun hp => ⟨?_, ?_, ?_, ?_, ?_, ?_, trivial⟩) ?_
 ·exact q_loadSt (off := 0) (l := 6) (fs := [.n (1), .n (1), .n (5)]) (gs := [.n (1), .n (1), .n (5)]) hp (free_of rfl) trivial (mq 6 rfl) (.inl rfl) rfl row_api_Mod rfl (sqo 1) (fun v w h => h)
 ·exact q_call2 (F := (Fq.is (.int .i64 1)).P) (G := (Fq.is (.int .i64 1)).P) hp (free_of rfl) trivial (enq_f_algorist_algoristlaw06_at) (sq_const (fun _ => rfl)) (sq_const (fun _ => rfl)) (fun v v' w h h' => (by subst h h'; exact exAt (x := 1) (y := 1) (by omega) (by omega)))
 ·exact q_loadSt (off := 0) (l := 5) (fs := [.n (0), .n (1), .v (.bool false)]) (gs := [.n (0), .n (1), .v (.bool false)]) hp (free_of rfl) trivial (mq 4 rfl) (.inl rfl) rfl row_api_Point rfl (sqo 3) (fun v w h => h)
 ·exact q_call3 (F := (Fq.st [.n (1), .n (1), .n (5)]).P) (G := (Fq.st [.n (1), .n (1), .v (.bool false)]).P) (F3 := (Fq.st [.n (0), .n (1), .v (.bool false)]).P) hp (free_of rfl) trivial (enq_f_algorist_algoristlaw06_add) (sqi 0) (sqi 1) (sqi 2) (fun v v' u w h h' g => exLAdd (P := ⟨(1), (1), false⟩) (Q := ⟨(0), (1), false⟩) (R := (⟨0, 0, false⟩, 0, 1)) h h' g (lit5 (by decide)) (lit5 (by decide)) (lit5 (by decide)) ⟨(lit5 (by decide)), (lit5 (by decide))⟩ ⟨(lit5 (by decide)), (lit5 (by decide))⟩ ex6_bad)
 ·exact q_allocSt (us := [.bool false, .slice none 0 0, .bool false, .slice none 0 0, .bool false, .bool false, .slice none 0 0, .int .i64 0]) (fs := [.n 0, .n 0, .v (.bool false), .n 0, .v (.int .i64 0)]) hp (mq 0 rfl) rfl rfl rfl (Nat.lt_of_sub_eq_succ rfl) rfl fits0_algoristref06_Sum (fun ρ w => ralloc_algoristref06_Sum ρ w) rfl (Nat.ne_of_beq_eq_false rfl) (fun _ _ => trivial) (old_ne rfl) (newk_ne rfl)
 ·exact q_storeNewSt (fs := [.n 0, .n 0, .v (.bool false), .n 0, .v (.int .i64 0)]) (gs := [.n (0), .n (0), .v (.bool false), .n (0), .v (.int .i64 1)]) hp (mq 0 rfl) rfl rfl rfl rfl size_algoristref06_Sum rfl (own_ptr rfl rfl (by simp) rfl) (sq_in 3 rfl rfl (by simp) rfl (fun v w h => fitv_st h)) (fun _ _ => trivial) (old_ne rfl) (newi_ne rfl)
 intro L vs w11 nb hL hC hn E11
 have e4 : vs 4 = .pointer (some ⟨nb 4, 0, none⟩) := hn _ (mq 0 rfl)
 have E : Fr w [(nb 4, 8, Fq.st [.n (0), .n (0), .v (.bool false), .n (0), .v (.int .i64 1)]), (b10_4, 8, Fq.st [.n (0), .n (0), .v (.bool false), .n (7), .v (.int .i64 6)]), (b9_12, 8, Fq.st [.n (4), .n (2), .v (.bool false), .n (0), .v (.int .i64 0)]), (b9_13, 8, Fq.st [.n (2), .n (1), .v (.bool false), .n (0), .v (.int .i64 0)]), (b9_14, 8, Fq.st [.n (0), .n (0), .v (.bool true), .n (0), .v (.int .i64 0)]), (b6_1, 5, Fq.st [.n (0), .n (1), .v (.bool false)]), (b5_4, 6, Fq.st [.n (1), .n (1), .n (35)]), (b3_4, 6, Fq.st [.n (1), .n (1), .n (5)])] w11 := E11
 rw [lay_all hL]
 simp only [putAll, dstOf, List.length_cons, List.length_nil, Nat.zero_add, Nat.reduceAdd, List.getElem?_toArray, List.getElem?_cons_zero, List.getElem?_cons_succ, Option.bind_some, Act.put, List.setIfInBounds_toArray, List.set_cons_succ, List.set_cons_zero]
 rw [e4]
 generalize nb 4 = b11_4 at E ⊢
 generalize vs 0 = u11_0
 generalize vs 1 = u11_1
 generalize vs 2 = u11_2
 generalize vs 3 = u11_3
 clear e4 hC hn E11 hL vs L nb
 go_upto_region 7 with (fail)
 refine region_fr (C := [Fq.st [.n (1), .n (1), .n (5)], Fq.st [.n (0), .n (1), .v (.bool false)], Fq.tup2 (Fq.st [.n (0), .n (4), .v (.bool false)]) (Fq.is (.int .i64 0)), Fq.tup2 (Fq.st [.n (0), .n (4), .v (.bool false)]) (Fq.is (.int .i64 0)), Fq.st [.n (0), .n (4), .v (.bool false)], Fq.is (.int .i64 0), Fq.any, Fq.any, Fq.is (.int .i64 0)]) (ks := [none, none, none, none, none, none, none, none]) (new := [⟨6, 7, 5, Fq.st [.n 0, .n 0, .v (.bool false)], Fq.st [.n (0), .n (4), .v (.bool false)], none⟩]) E rfl (by kernel_rfl) rfl rfl (fun hp => ⟨?_, ?_, ?_, ?_, ?_, ?_, ?_, ?_, ?_, trivial⟩) ?_
 ·exact q_loadSt (off := 0) (l := 6) (fs := [.n (1), .n (1), .n (5)]) (gs := [.n (1), .n (1), .n (5)]) hp (free_of rfl) trivial (mq 7 rfl) (.inl rfl) rfl row_api_Mod rfl (sqo 1) (fun v w h => h)
 ·exact q_loadSt (off := 0) (l := 5) (fs := [.n (0), .n (1), .v (.bool false)]) (gs := [.n (0), .n (1), .v (.bool false)]) hp (free_of rfl) trivial (mq 5 rfl) (.inl rfl) rfl row_api_Point rfl (sqo 3) (fun v w h => h)
 ·exact q_call2 (F := (Fq.st [.n (1), .n (1), .n (5)]).P) (G := (Fq.st [.n (0), .n (1), .v (.bool false)]).P) hp (free_of rfl) trivial (enq_f_algorist_point_Neg) (sqi 0) (sqi 1) (fun v v' w h h' => exNegN (P := ⟨0, 1, false⟩) h h' (lit5 (by decide)) (lit5 (by decide)) (lit5 (by decide)) ⟨(lit5 (by decide)), (lit5 (by decide))⟩ (by decide))
 ·exact q_move hp (free_of rfl) trivial (sqi 2)
 ·exact q_extract2 hp (free_of rfl) trivial (sqi 3) (fun v1 v2 w h1 h2 => ⟨_, rfl, h1⟩)
 ·exact q_extract2 hp (free_of rfl) trivial (sqi 3) (fun v1 v2 w h1 h2 => ⟨_, rfl, h2⟩)
 ·exact q_allocSt (us := [.bool false, .slice none 0 0, .bool false, .slice none 0 0, .bool false]) (fs := [.n 0, .n 0, .v (.bool false)]) hp (mq 0 rfl) rfl rfl rfl (Nat.lt_of_sub_eq_succ rfl) rfl fits0_api_Point (fun ρ w => ralloc_api_Point ρ w) rfl (Nat.ne_of_beq_eq_false rfl) (fun _ _ => trivial) (old_ne rfl) (newk_ne rfl)
 ·exact q_storeNewSt (fs := [.n 0, .n 0, .v (.bool false)]) (gs := [.n (0), .n (4), .v (.bool false)]) hp (mq 0 rfl) rfl rfl rfl rfl size_api_Point rfl (own_ptr rfl rfl (by simp) rfl) (sq_in 4 rfl rfl (by simp) rfl (fun v w h => fitv_st h)) (fun _ _ => trivial) (old_ne rfl) (newi_ne rfl)
 ·exact q_assign hp (free_of rfl) trivial (sqi 5)
 intro L vs w12 nb hL hC hn E12
 have e5 : vs 5 = .int .i64 0 := hC 5 (by simp)
 have e8 : vs 8 = .int .i64 0 := hC 8 (by simp)
 have e6 : vs 6 = .pointer (some ⟨nb 6, 0, none⟩) := hn _ (mq 0 rfl)
 have E : Fr w [(nb 6, 5, Fq.st [.n (0), .n (4), .v (.bool false)]), (b11_4, 8, Fq.st [.n (0), .n (0), .v (.bool false), .n (0), .v (.int .i64 1)]), (b10_4, 8, Fq.st [.n (0), .n (0), .v (.bool false), .n (7), .v (.int .i64 6)]), (b9_12, 8, Fq.st [.n (4), .n (2), .v (.bool false), .n (0), .v (.int .i64 0)]), (b9_13, 8, Fq.st [.n (2), .n (1), .v (.bool false), .n (0), .v (.int .i64 0)]), (b9_14, 8, Fq.st [.n (0), .n (0), .v (.bool true), .n (0), .v (.int .i64 0)]), (b6_1, 5, Fq.st [.n (0), .n (1), .v (.bool false)]), (b5_4, 6, Fq.st [.n (1), .n (1), .n (35)]), (b3_4, 6, Fq.st [.n (1), .n (1), .n (5)])] w12 := E12
 rw [lay_all hL]
 simp only [putAll, dstOf, List.length_cons, List.length_nil, Nat.zero_add, Nat.reduceAdd, List.getElem?_toArray, List.getElem?_cons_zero, List.getElem?_cons_succ, Option.bind_some, Act.put, List.setIfInBounds_toArray, List.set_cons_succ, List.set_cons_zero]
 rw [e5, e8, e6]
 generalize nb 6 = b12_6 at E ⊢
 generalize vs 0 = u12_0
 generalize vs 1 = u12_1
 generalize vs 2 = u12_2
 generalize vs 3 = u12_3
 generalize vs 4 = u12_4
 clear e5 e8 e6 hC hn E12 hL vs L nb
 go_upto_region 8 with (fail)
 refine region_fr (C := [Fq.is (.pointer (some ⟨b9_12, 7, none⟩)), Fq.is (.int .i64 0), Fq.is (.bool false), Fq.is (.bool false), Fq.is (.pointer (some ⟨b9_13, 7, none⟩)), Fq.is (.int .i64 0), Fq.is (.bool false), Fq.is (.bool false), Fq.is (.bool false), Fq.is (.pointer (some ⟨b9_14, 7, none⟩)), Fq.is (.int .i64 0), Fq.is (.bool false), Fq.is (.bool false), Fq.is (.bool false), Fq.is (.pointer (some ⟨b10_4, 7, none⟩)), Fq.is (.int .i64 6), Fq.is (.bool false), Fq.is (.bool false), Fq.is (.bool false), Fq.is (.pointer (some ⟨b11_4, 7, none⟩)), Fq.is (.int .i64 1), Fq.is (.bool false), Fq.is (.bool false), Fq.is (.bool false), Fq.is (.int .i64 0), Fq.is (.bool false), Fq.is (.bool false)]) (ks := [none, none, none, none, none, none, none, none, none]) (new := []) E rfl (by kernel_rfl) rfl rfl (fun hp => ⟨?_, ?_, ?_, ?_, ?_, ?_, ?_, ?_, ?_, ?_, ?_, ?_, ?_, ?_, ?_, ?_, ?_, ?_, ?_, ?_, ?_, ?_, ?_, ?_, ?_, ?_, ?_, trivial⟩) ?_
 ·exact q_addr (b := b9_12) (off := 0) (off' := 7) hp (free_of rfl) trivial (sqo 4) (fun ρ w h => by simp [execOp, go_sem, h]) (fun _ => rfl)
 ·exact q_load1 (off := 7) (fs := [.n (4), .n (2), .v (.bool false), .n (0), .v (.int .i64 0)]) (u := .int .i64 0) hp (free_of rfl) trivial (mq 3 rfl) (.inl rfl) rfl rfl (fun ρ w b h1 h2 => by simp [execOp, go_sem, h1, h2]) (sqi 0) (fun _ => rfl)
 ·exact q_one (F := fun v _ => v = .int .i64 0) hp (free_of rfl) trivial (sqi 1) (fun ρ w hc h => ⟨.bool false, by simp [execOp, go_sem, h, hc], rfl⟩)
 ·exact q_move hp (free_of rfl) trivial (sqi 2)
 ·exact q_addr (b := b9_13) (off := 0) (off' := 7) hp (free_of rfl) gqi (sqo 5) (fun ρ w h => by simp [execOp, go_sem, h]) (fun _ => rfl)
 ·exact q_load1 (off := 7) (fs := [.n (2), .n (1), .v (.bool false), .n (0), .v (.int .i64 0)]) (u := .int .i64 0) hp (free_of rfl) gqi (mq 4 rfl) (.inl rfl) rfl rfl (fun ρ w b h1 h2 => by simp [execOp, go_sem, h1, h2]) (sqi 4) (fun _ => rfl)
 ·exact q_one (F := fun v _ => v = .int .i64 0) hp (free_of rfl) gqi (sqi 5) (fun ρ w hc h => ⟨.bool false, by simp [execOp, go_sem, h, hc], rfl⟩)
 ·exact q_two (F := fun v _ => v = .bool false) (G := fun v _ => v = .bool false) hp (free_of rfl) trivial (sqi 3) (sqi 6) (fun ρ w hc h h' => ⟨_, by simp [execOp, go_sem, h, h'], rfl⟩)
 ·exact q_move hp (free_of rfl) trivial (sqi 7)
 ·exact q_addr (b := b9_14) (off := 0) (off' := 7) hp (free_of rfl) gqi (sqo 6) (fun ρ w h => by simp [execOp, go_sem, h]) (fun _ => rfl)
 ·exact q_load1 (off := 7) (fs := [.n (0), .n (0), .v (.bool true), .n (0), .v (.int .i64 0)]) (u := .int .i64 0) hp (free_of rfl) gqi (mq 5 rfl) (.inl rfl) rfl rfl (fun ρ w b h1 h2 => by simp [execOp, go_sem, h1, h2]) (sqi 9) (fun _ => rfl)
 ·exact q_one (F := fun v _ => v = .int .i64 0) hp (free_of rfl) gqi (sqi 10) (fun ρ w hc h => ⟨.bool false, by simp [execOp, go_sem, h, hc], rfl⟩)
 ·exact q_two (F := fun v _ => v = .bool false) (G := fun v _ => v = .bool false) hp (free_of rfl) trivial (sqi 8) (sqi 11) (fun ρ w hc h h' => ⟨_, by simp [execOp, go_sem, h, h'], rfl⟩)
 ·exact q_move hp (free_of rfl) trivial (sqi 12)
 ·exact q_addr (b := b10_4) (off := 0) (off' := 7) hp (free_of rfl) gqi (sqo 7) (fun ρ w h => by simp [execOp, go_sem, h]) (fun _ => rfl)
 ·exact q_load1 (off := 7) (fs := [.n (0), .n (0), .v (.bool false), .n (7), .v (.int .i64 6)]) (u := .int .i64 6) hp (free_of rfl) gqi (mq 2 rfl) (.inl rfl) rfl rfl (fun ρ w b h1 h2 => by simp [execOp, go_sem, h1, h2]) (sqi 14) (fun _ => rfl)
 ·exact q_one (F := fun v _ => v = .int .i64 6) hp (free_of rfl) gqi (sqi 15) (fun ρ w hc h => ⟨.bool false, by simp [execOp, go_sem, h, hc], rfl⟩)
 ·exact q_two (F := fun v _ => v = .bool false) (G := fun v _ => v = .bool false) hp (free_of rfl) trivial (sqi 13) (sqi 16) (fun ρ w hc h h' => ⟨_, by simp [execOp, go_sem, h, h'], rfl⟩)
 ·exact q_move hp (free_of rfl) trivial (sqi 17)
 ·exact q_addr (b := b11_4) (off := 0) (off' := 7) hp (free_of rfl) gqi (sqo 8) (fun ρ w h => by simp [execOp, go_sem, h]) (fun _ => rfl)
 ·exact q_load1 (off := 7) (fs := [.n (0), .n (0), .v (.bool false), .n (0), .v (.int .i64 1)]) (u := .int .i64 1) hp (free_of rfl) gqi (mq 1 rfl) (.inl rfl) rfl rfl (fun ρ w b h1 h2 => by simp [execOp, go_sem, h1, h2]) (sqi 19) (fun _ => rfl)
 ·exact q_one (F := fun v _ => v = .int .i64 1) hp (free_of rfl) gqi (sqi 20) (fun ρ w hc h => ⟨.bool false, by simp [execOp, go_sem, h, hc], rfl⟩)
 ·exact q_two (F := fun v _ => v = .bool false) (G := fun v _ => v = .bool false) hp (free_of rfl) trivial (sqi 18) (sqi 21) (fun ρ w hc h h' => ⟨_, by simp [execOp, go_sem, h, h'], rfl⟩)
 ·exact q_move hp (free_of rfl) trivial (sqi 22)
 ·exact q_move hp (free_of rfl) gqi (sqo 10)
 ·exact q_one (F := fun v _ => v = .int .i64 0) hp (free_of rfl) gqi (sqi 24) (fun ρ w hc h => ⟨.bool false, by simp [execOp, go_sem, h, hc], rfl⟩)
 ·exact q_two (F := fun v _ => v = .bool false) (G := fun v _ => v = .bool false) hp (free_of rfl) trivial (sqi 23) (sqi 25) (fun ρ w hc h h' => ⟨_, by simp [execOp, go_sem, h, h'], rfl⟩)
 intro L vs w13 nb hL hC hn E13
 have e0 : vs 0 = .pointer (some ⟨b9_12, 7, none⟩) := hC 0 (by simp)
 have e1 : vs 1 = .int .i64 0 := hC 1 (by simp)
 have e2 : vs 2 = .bool false := hC 2 (by simp)
 have e3 : vs 3 = .bool false := hC 3 (by simp)
 have e4 : vs 4 = .pointer (some ⟨b9_13, 7, none⟩) := hC 4 (by simp)
 have e5 : vs 5 = .int .i64 0 := hC 5 (by simp)
 have e6 : vs 6 = .bool false := hC 6 (by simp)
 have e7 : vs 7 = .bool false := hC 7 (by simp)
 have e8 : vs 8 = .bool false := hC 8 (by simp)
 have e9 : vs 9 = .pointer (some ⟨b9_14, 7, none⟩) := hC 9 (by simp)
 have e10 : vs 10 = .int .i64 0 := hC 10 (by simp)
 have e11 : vs 11 = .bool false := hC 11 (by simp)
 have e12 : vs 12 = .bool false := hC 12 (by simp)
 have e13 : vs 13 = .bool false := hC 13 (by simp)
 have e14 : vs 14 = .pointer (some ⟨b10_4, 7, none⟩) := hC 14 (by simp)
 have e15 : vs 15 = .int .i64 6 := hC 15 (by simp)
 have e16 : vs 16 = .bool false := hC 16 (by simp)
 have e17 : vs 17 = .bool false := hC 17 (by simp)
 have e18 : vs 18 = .bool false := hC 18 (by simp)
 have e19 : vs 19 = .pointer (some ⟨b11_4, 7, none⟩) := hC 19 (by simp)
 have e20 : vs 20 = .int .i64 1 := hC 20 (by simp)
 have e21 : vs 21 = .bool false := hC 21 (by simp)
 have e22 : vs 22 = .bool false := hC 22 (by simp)
 have e23 : vs 23 = .bool false := hC 23 (by simp)
 have e24 : vs 24 = .int .i64 0 := hC 24 (by simp)
 have e25 : vs 25 = .bool false := hC 25 (by simp)
 have e26 : vs 26 = .bool false := hC 26 (by simp)
 have E : Fr w [(b12_6, 5, Fq.st [.n (0), .n (4), .v (.bool false)]), (b11_4, 8, Fq.st [.n (0), .n (0), .v (.bool false), .n (0), .v (.int .i64 1)]), (b10_4, 8, Fq.st [.n (0), .n (0), .v (.bool false), .n (7), .v (.int .i64 6)]), (b9_12, 8, Fq.st [.n (4), .n (2), .v (.bool false), .n (0), .v (.int .i64 0)]), (b9_13, 8, Fq.st [.n (2), .n (1), .v (.bool false), .n (0), .v (.int .i64 0)]), (b9_14, 8, Fq.st [.n (0), .n (0), .v (.bool true), .n (0), .v (.int .i64 0)]), (b6_1, 5, Fq.st [.n (0), .n (1), .v (.bool false)]), (b5_4, 6, Fq.st [.n (1), .n (1), .n (35)]), (b3_4, 6, Fq.st [.n (1), .n (1), .n (5)])] w13 := E13
 rw [lay_all hL]
 simp only [putAll, dstOf, List.length_cons, List.length_nil, Nat.zero_add, Nat.reduceAdd, List.getElem?_toArray, List.getElem?_cons_zero, List.getElem?_cons_succ, Option.bind_some, Act.put, List.setIfInBounds_toArray, List.set_cons_succ, List.set_cons_zero]
 rw [e0, e1, e2, e3, e4, e5, e6, e7, e8, e9, e10, e11, e12, e13, e14, e15, e16, e17, e18, e19, e20, e21, e22, e23, e24, e25, e26]
 clear e0 e1 e2 e3 e4 e5 e6 e7 e8 e9 e10 e11 e12 e13 e14 e15 e16 e17 e18 e19 e20 e21 e22 e23 e24 e25 e26 hC hn E13 hL vs L nb
 go_upto_region 10 with (fail)
 have B14 : Hid (ab ((7)) < pw 3) := ab_lit (by decide)
 refine region_fr (C := [Fq.is (.pointer (some ⟨b9_12, 0, none⟩)), Fq.st [.n (4), .n (2), .v (.bool false)], Fq.st [.n (4), .n (2), .v (.bool false)], Fq.is (.bool true), Fq.is (.bool true), Fq.is (.pointer (some ⟨b9_13, 0, none⟩)), Fq.st [.n (2), .n (1), .v (.bool false)], Fq.st [.n (2), .n (1), .v (.bool false)], Fq.is (.bool true), Fq.is (.bool true), Fq.is (.bool true), Fq.is (.pointer (some ⟨b9_14, 0, none⟩)), Fq.is (.pointer (some ⟨b9_14, 4, none⟩)), Fq.is (.bool true), Fq.is (.bool true), Fq.is (.bool true), Fq.is (.pointer (some ⟨b10_4, 5, none⟩)), Fq.num (7), Fq.num (7), Fq.is (.bool true), Fq.is (.bool true), Fq.is (.bool true), Fq.st [.n (0), .n (4), .v (.bool false)], Fq.st [.n (0), .n (4), .v (.bool false)], Fq.is (.bool true), Fq.is (.bool true), Fq.is (.bool true), Fq.st [.n (1), .n (1), .n (5)], Fq.st [.n (0), .n (1), .v (.bool false)], Fq.is (.bool true), Fq.is (.bool true), Fq.is (.bool true), Fq.st [.n (1), .n (1), .n (5)], Fq.st [.n (1), .n (1), .v (.bool false)], Fq.is (.bool false), Fq.is (.bool true), Fq.is (.bool true), Fq.is (.bool true)]) (ks := [none, none, none, none, none, none, none, none, none]) (new := []) E rfl (by kernel_rfl) rfl rfl (fun hp => ⟨?_, ?_, ?_, ?_, ?_, ?_, ?_, ?_, ?_, ?_, ?_, ?_, ?_, ?_, ?_, ?_, ?_, ?_, ?_, ?_, ?_, ?_, ?_, ?_, ?_, ?_, ?_, ?_, ?_, ?_, ?_, ?_, ?_, ?_, ?_, ?_, ?_, ?_, trivial⟩) ?_
 ·exact q_addr (b := b9_12) (off := 0) (off' := 0) hp (free_of rfl) trivial (sqo 4) (fun ρ w h => by simp [execOp, go_sem, h]) (fun _ => rfl)
 ·exact q_loadSt (off := 0) (l := 5) (fs := [.n (4), .n (2), .v (.bool false), .n (0), .v (.int .i64 0)]) (gs := [.n (4), .n (2), .v (.bool false)]) hp (free_of rfl) trivial (mq 3 rfl) (.inl rfl) rfl row_api_Point rfl (sqi 0) (fun v w h => h)
 ·exact q_call2 (F := (Fq.is (.int .i64 4)).P) (G := (Fq.is (.int .i64 2)).P) hp (free_of rfl) trivial (enq_f_algorist_algoristlaw06_at) (sq_const (fun _ => rfl)) (sq_const (fun _ => rfl)) (fun v v' w h h' => (by subst h h'; exact exAt (x := 4) (y := 2) (by omega) (by omega)))
 ·exact q_call2 (F := (Fq.st [.n (4), .n (2), .v (.bool false)]).P) (G := (Fq.st [.n (4), .n (2), .v (.bool false)]).P) hp (free_of rfl) trivial (enq_f_algorist_algoristref06_Same) (sqi 1) (sqi 2) (fun v v' w h h' => exPtSame (P := ⟨(4), (2), false⟩) (Q := ⟨(4), (2), false⟩) h h' rfl)
 ·exact q_move hp (free_of rfl) trivial (sqi 3)
 ·exact q_addr (b := b9_13) (off := 0) (off' := 0) hp (free_of rfl) gqi (sqo 5) (fun ρ w h => by simp [execOp, go_sem, h]) (fun _ => rfl)
 ·exact q_loadSt (off := 0) (l := 5) (fs := [.n (2), .n (1), .v (.bool false), .n (0), .v (.int .i64 0)]) (gs := [.n (2), .n (1), .v (.bool false)]) hp (free_of rfl) gqi (mq 4 rfl) (.inl rfl) rfl row_api_Point rfl (sqi 5) (fun v w h => h)
 ·exact q_call2 (F := (Fq.is (.int .i64 2)).P) (G := (Fq.is (.int .i64 1)).P) hp (free_of rfl) gqi (enq_f_algorist_algoristlaw06_at) (sq_const (fun _ => rfl)) (sq_const (fun _ => rfl)) (fun v v' w h h' => (by subst h h'; exact exAt (x := 2) (y := 1) (by omega) (by omega)))
 ·exact q_call2 (F := (Fq.st [.n (2), .n (1), .v (.bool false)]).P) (G := (Fq.st [.n (2), .n (1), .v (.bool false)]).P) hp (free_of rfl) gqi (enq_f_algorist_algoristref06_Same) (sqi 6) (sqi 7) (fun v v' w h h' => exPtSame (P := ⟨(2), (1), false⟩) (Q := ⟨(2), (1), false⟩) h h' rfl)
 ·exact q_two (F := fun v _ => v = .bool true) (G := fun v _ => v = .bool true) hp (free_of rfl) trivial (sqi 4) (sqi 8) (fun ρ w hc h h' => ⟨_, by simp [execOp, go_sem, h, h'], rfl⟩)
 ·exact q_move hp (free_of rfl) trivial (sqi 9)
 ·exact q_addr (b := b9_14) (off := 0) (off' := 0) hp (free_of rfl) gqi (sqo 6) (fun ρ w h => by simp [execOp, go_sem, h]) (fun _ => rfl)
 ·exact q_addr (b := b9_14) (off := 0) (off' := 4) hp (free_of rfl) gqi (sqi 11) (fun ρ w h => by simp [execOp, go_sem, h]) (fun _ => rfl)
 ·exact q_load1 (off := 4) (fs := [.n (0), .n (0), .v (.bool true), .n (0), .v (.int .i64 0)]) (u := .bool true) hp (free_of rfl) gqi (mq 5 rfl) (.inl rfl) rfl rfl (fun ρ w b h1 h2 => by simp [execOp, go_sem, h1, h2]) (sqi 12) (fun _ => rfl)
 ·exact q_two (F := fun v _ => v = .bool true) (G := fun v _ => v = .bool true) hp (free_of rfl) trivial (sqi 10) (sqi 13) (fun ρ w hc h h' => ⟨_, by simp [execOp, go_sem, h, h'], rfl⟩)
 ·exact q_move hp (free_of rfl) trivial (sqi 14)
 ·exact q_addr (b := b10_4) (off := 0) (off' := 5) hp (free_of rfl) gqi (sqo 7) (fun ρ w h => by simp [execOp, go_sem, h]) (fun _ => rfl)
 ·exact q_loadSt (off := 5) (l := 2) (fs := [.n (0), .n (0), .v (.bool false), .n (7), .v (.int .i64 6)]) (gs := [.n (7)]) hp (free_of rfl) gqi (mq 2 rfl) (.inl rfl) rfl row_api_Int rfl (sqi 16) (fun v w h => st_num h)
 ·exact q_call1 (F := (Fq.is (.int .i64 7)).P) hp (free_of rfl) gqi (enq_R_Of) (sq_const (fun _ => rfl)) (fun v w h => (by subst h; exact rOfK w (7) (by omega) (by omega)))
 ·exact q_call2 (F := (Fq.num (7)).P) (G := (Fq.num (7)).P) hp (free_of rfl) gqi (enq_R_Same) (sqi 17) (sqi 18) (fun v v' w h h' => exRSameB h h' rfl)
 ·exact q_two (F := fun v _ => v = .bool true) (G := fun v _ => v = .bool true) hp (free_of rfl) trivial (sqi 15) (sqi 19) (fun ρ w hc h h' => ⟨_, by simp [execOp, go_sem, h, h'], rfl⟩)
 ·exact q_move hp (free_of rfl) trivial (sqi 20)
 ·exact q_loadSt (off := 0) (l := 5) (fs := [.n (0), .n (4), .v (.bool false)]) (gs := [.n (0), .n (4), .v (.bool false)]) hp (free_of rfl) gqi (mq 0 rfl) (.inl rfl) rfl row_api_Point rfl (sqo 9) (fun v w h => h)
 ·exact q_call2 (F := (Fq.is (.int .i64 0)).P) (G := (Fq.is (.int .i64 4)).P) hp (free_of rfl) gqi (enq_f_algorist_algoristlaw06_at) (sq_const (fun _ => rfl)) (sq_const (fun _ => rfl)) (fun v v' w h h' => (by subst h h'; exact exAt (x := 0) (y := 4) (by omega) (by omega)))
 ·exact q_call2 (F := (Fq.st [.n (0), .n (4), .v (.bool false)]).P) (G := (Fq.st [.n (0), .n (4), .v (.bool false)]).P) hp (free_of rfl) gqi (enq_f_algorist_algoristref06_Same) (sqi 22) (sqi 23) (fun v v' w h h' => exPtSame (P := ⟨(0), (4), false⟩) (Q := ⟨(0), (4), false⟩) h h' rfl)
 ·exact q_two (F := fun v _ => v = .bool true) (G := fun v _ => v = .bool true) hp (free_of rfl) trivial (sqi 21) (sqi 24) (fun ρ w hc h h' => ⟨_, by simp [execOp, go_sem, h, h'], rfl⟩)
 ·exact q_move hp (free_of rfl) trivial (sqi 25)
 ·exact q_loadSt (off := 0) (l := 6) (fs := [.n (1), .n (1), .n (5)]) (gs := [.n (1), .n (1), .n (5)]) hp (free_of rfl) gqi (mq 8 rfl) (.inl rfl) rfl row_api_Mod rfl (sqo 1) (fun v w h => h)
 ·exact q_loadSt (off := 0) (l := 5) (fs := [.n (0), .n (1), .v (.bool false)]) (gs := [.n (0), .n (1), .v (.bool false)]) hp (free_of rfl) gqi (mq 6 rfl) (.inl rfl) rfl row_api_Point rfl (sqo 3) (fun v w h => h)
 ·exact q_call2 (F := (Fq.st [.n (1), .n (1), .n (5)]).P) (G := (Fq.st [.n (0), .n (1), .v (.bool false)]).P) hp (free_of rfl) gqi (enq_f_algorist_point_On) (sqi 27) (sqi 28) (fun v v' w h h' => exOn (x := 0) (y := 1) (i := false) h h' (lit5 (by decide)) (lit5 (by decide)) (lit5 (by decide)) (lit5 (by decide)) (lit5 (by decide)) (by decide))
 ·exact q_two (F := fun v _ => v = .bool true) (G := fun v _ => v = .bool true) hp (free_of rfl) trivial (sqi 26) (sqi 29) (fun ρ w hc h h' => ⟨_, by simp [execOp, go_sem, h, h'], rfl⟩)
 ·exact q_move hp (free_of rfl) trivial (sqi 30)
 ·exact q_loadSt (off := 0) (l := 6) (fs := [.n (1), .n (1), .n (5)]) (gs := [.n (1), .n (1), .n (5)]) hp (free_of rfl) gqi (mq 8 rfl) (.inl rfl) rfl row_api_Mod rfl (sqo 1) (fun v w h => h)
 ·exact q_call2 (F := (Fq.is (.int .i64 1)).P) (G := (Fq.is (.int .i64 1)).P) hp (free_of rfl) gqi (enq_f_algorist_algoristlaw06_at) (sq_const (fun _ => rfl)) (sq_const (fun _ => rfl)) (fun v v' w h h' => (by subst h h'; exact exAt (x := 1) (y := 1) (by omega) (by omega)))
 ·exact q_call2 (F := (Fq.st [.n (1), .n (1), .n (5)]).P) (G := (Fq.st [.n (1), .n (1), .v (.bool false)]).P) hp (free_of rfl) gqi (enq_f_algorist_point_On) (sqi 32) (sqi 33) (fun v v' w h h' => exOn (x := 1) (y := 1) (i := false) h h' (lit5 (by decide)) (lit5 (by decide)) (lit5 (by decide)) (lit5 (by decide)) (lit5 (by decide)) (by decide))
 ·exact q_one (F := fun v _ => v = .bool false) hp (free_of rfl) gqi (sqi 34) (fun ρ w _ h => ⟨.bool true, by simp [execOp, go_sem, h], rfl⟩)
 ·exact q_two (F := fun v _ => v = .bool true) (G := fun v _ => v = .bool true) hp (free_of rfl) trivial (sqi 31) (sqi 35) (fun ρ w hc h h' => ⟨_, by simp [execOp, go_sem, h, h'], rfl⟩)
 ·exact q_assign hp (free_of rfl) trivial (sqi 36)
 intro L vs w15 nb hL hC hn E15
 have e0 : vs 0 = .pointer (some ⟨b9_12, 0, none⟩) := hC 0 (by simp)
 have e3 : vs 3 = .bool true := hC 3 (by simp)
 have e4 : vs 4 = .bool true := hC 4 (by simp)
 have e5 : vs 5 = .pointer (some ⟨b9_13, 0, none⟩) := hC 5 (by simp)
 have e8 : vs 8 = .bool true := hC 8 (by simp)
 have e9 : vs 9 = .bool true := hC 9 (by simp)
 have e10 : vs 10 = .bool true := hC 10 (by simp)
 have e11 : vs 11 = .pointer (some ⟨b9_14, 0, none⟩) := hC 11 (by simp)
 have e12 : vs 12 = .pointer (some ⟨b9_14, 4, none⟩) := hC 12 (by simp)
 have e13 : vs 13 = .bool true := hC 13 (by simp)
 have e14 : vs 14 = .bool true := hC 14 (by simp)
 have e15 : vs 15 = .bool true := hC 15 (by simp)
 have e16 : vs 16 = .pointer (some ⟨b10_4, 5, none⟩) := hC 16 (by simp)
 have e19 : vs 19 = .bool true := hC 19 (by simp)
 have e20 : vs 20 = .bool true := hC 20 (by simp)
 have e21 : vs 21 = .bool true := hC 21 (by simp)
 have e24 : vs 24 = .bool true := hC 24 (by simp)
 have e25 : vs 25 = .bool true := hC 25 (by simp)
 have e26 : vs 26 = .bool true := hC 26 (by simp)
 have e29 : vs 29 = .bool true := hC 29 (by simp)
 have e30 : vs 30 = .bool true := hC 30 (by simp)
 have e31 : vs 31 = .bool true := hC 31 (by simp)
 have e34 : vs 34 = .bool false := hC 34 (by simp)
 have e35 : vs 35 = .bool true := hC 35 (by simp)
 have e36 : vs 36 = .bool true := hC 36 (by simp)
 have e37 : vs 37 = .bool true := hC 37 (by simp)
 have E : Fr w [(b12_6, 5, Fq.st [.n (0), .n (4), .v (.bool false)]), (b11_4, 8, Fq.st [.n (0), .n (0), .v (.bool false), .n (0), .v (.int .i64 1)]), (b10_4, 8, Fq.st [.n (0), .n (0), .v (.bool false), .n (7), .v (.int .i64 6)]), (b9_12, 8, Fq.st [.n (4), .n (2), .v (.bool false), .n (0), .v (.int .i64 0)]), (b9_13, 8, Fq.st [.n (2), .n (1), .v (.bool false), .n (0), .v (.int .i64 0)]), (b9_14, 8, Fq.st [.n (0), .n (0), .v (.bool true), .n (0), .v (.int .i64 0)]), (b6_1, 5, Fq.st [.n (0), .n (1), .v (.bool false)]), (b5_4, 6, Fq.st [.n (1), .n (1), .n (35)]), (b3_4, 6, Fq.st [.n (1), .n (1), .n (5)])] w15 := E15
 rw [lay_all hL]
 simp only [putAll, dstOf, List.length_cons, List.length_nil, Nat.zero_add, Nat.reduceAdd, List.getElem?_toArray, List.getElem?_cons_zero, List.getElem?_cons_succ, Option.bind_some, Act.put, List.setIfInBounds_toArray, List.set_cons_succ, List.set_cons_zero]
 rw [e0, e3, e4, e5, e8, e9, e10, e11, e12, e13, e14, e15, e16, e19, e20, e21, e24, e25, e26, e29, e30, e31, e34, e35, e36, e37]
 generalize vs 1 = u15_1
 generalize vs 2 = u15_2
 generalize vs 6 = u15_6
 generalize vs 7 = u15_7
 generalize vs 17 = u15_17
 generalize vs 18 = u15_18
 generalize vs 22 = u15_22
 generalize vs 23 = u15_23
 generalize vs 27 = u15_27
 generalize vs 28 = u15_28
 generalize vs 32 = u15_32
 generalize vs 33 = u15_33
 clear e0 e3 e4 e5 e8 e9 e10 e11 e12 e13 e14 e15 e16 e19 e20 e21 e24 e25 e26 e29 e30 e31 e34 e35 e36 e37 hC hn E15 hL vs L nb
 clear B1 B2 B4 B7 B8 B14
 go_wp2
 refine bodyPost_ret (v := .bool true) ?_ rfl ⟨_, rfl, E.below, rfl⟩
 simp [results, Try.results7, go_sem]

end Go.Proofs.Ytihhlaagndingaa

namespace Go.Proofs.Ytihhlaagndingaa
open Go Go.RowKit

theorem least_pr {K : Nat} (hK : Pr K) : ∀ j n, n + j = K → ∃ p, Pr p ∧ n ≤ p ∧ p ≤ K ∧ ∀ q, n ≤ q → q < p → ¬ Pr q
 | 0, n, h => ⟨K, hK, by omega, Nat.le_refl _, fun q _ _ => by omega⟩
 | j + 1, n, h => by
  by_cases hp : Pr n
  ·exact ⟨n, hp, Nat.le_refl _, by omega, fun q _ _ => by omega⟩
  ·obtain ⟨p, h1, h2, h3, h4⟩ := least_pr hK j (n + 1) (by omega)
   refine ⟨p, h1, by omega, h3, fun q g1 g2 => ?_⟩
   rcases Nat.lt_or_ge n q with g | g
   ·exact h4 q g g2
   ·rw [show q = n by omega]; exact hp
theorem prime_odd {p : Nat} (h : Pr p) (h5 : 5 ≤ p) : p % 2 = 1 := by
 rcases Nat.mod_two_eq_zero_or_one p with e | e
 ·have := h.2 2 (Nat.dvd_of_mod_eq_zero e); omega
 ·exact e
theorem curve_on {m A X Y : Int} (h3 : 3 < m) (ho : m % 2 = 1) (hA : 0 ≤ A ∧ A < m) (hX : 0 ≤ X ∧ X < m) (hY : 0 ≤ Y ∧ Y < m) : onB A ((Y * Y - ((X * X) + A) * X) % m) m X Y false = true := by
 have h1 := Int.emod_nonneg (Y * Y - ((X * X) + A) * X) (show m ≠ 0 by omega)
 have h2 := Int.emod_lt_of_pos (Y * Y - ((X * X) + A) * X) (show 0 < m by omega)
 refine on_of ?_ (fun e => by cases e) fun _ => ⟨⟨hX.1, hX.2, hY.1, hY.2⟩, ?_⟩
 ·simp only [curveB, resB, Bool.and_eq_true, decide_eq_true_eq]; omega
 ·have h4 := cg_mod m (Y * Y - ((X * X) + A) * X)
  obtain ⟨k, hk⟩ := h4
  exact ⟨-k, by rw [Int.mul_neg]; omega⟩
theorem sameP_refl (P : Pt) : sameP P P = true := by simp [sameP]
theorem ab5 {z : Int} (h : -4294967296 ≤ z ∧ z ≤ 4294967296) : ab z < pw 5 := Int.lt_of_lt_of_le (ab_i64 (by omega) (by omega)) (pw_le (by omega))
end Go.Proofs.Ytihhlaagndingaa

namespace Go.Proofs.Ytihhlaagndingaa
open Go Go.RowKit

def noSl : List Fd → Bool
 | [] => true
 | .v (.slice _ _ _) :: _ => false
 | _ :: r => noSl r
def FarC (own : Option Nat) (es : List Value) : Prop := ∀ a k c, Value.slice (some a) k c ∈ es → k ≠ 0 → some a.block ≠ own
theorem FarC.tail {own : Option Nat} {u : Value} {es : List Value} (h : FarC own (u :: es)) : FarC own es := fun a k c hm hk => h a k c (List.mem_cons_of_mem _ hm) hk
theorem Fits.grown {w w' : World} {row : Option Nat} (hg : w.grownBy w' row) : ∀ {fs : List Fd} {es : List Value}, Fits w fs es → FarC row es → Fits w' fs es
 | [], _, h, _ => h
 | .n z :: fs, _, ⟨a, b, r, e, h1, h2⟩, hf => by
  subst e
  refine ⟨a, b, r, rfl, ?_, Fits.grown hg h2 hf.tail.tail⟩
  obtain ⟨n, ao, k, c, e⟩ := h1.parts
  rw [e] at h1 ⊢
  injection e with e
  have e2 := congrArg Array.toList e
  simp at e2
  obtain ⟨rfl, rfl⟩ := e2
  exact h1.grown hg fun x hx hk => hf x k c (by rw [hx]; simp) hk
 | .v u :: fs, _, ⟨r, e, h1, h2⟩, hf => by
  subst e
  exact ⟨r, rfl, h1, Fits.grown hg h2 hf.tail⟩
 | .r n ao k c xs z :: fs, _, ⟨r, e, h1, h2⟩, hf => by
  subst e
  refine ⟨r, rfl, ⟨?_, h1.2.grown hg fun x hx hk => hf x k c (by rw [hx]; simp) hk⟩, Fits.grown hg h2 hf.tail.tail⟩
  have hs := h1.1
  refine ⟨hs.len, hs.cap, hs.cells.1, ?_⟩
  rcases hs.cells.2 with h0 | ⟨b, off, rfl, hlt, hc⟩
  ·exact .inl h0
  ·rcases Nat.eq_zero_or_pos k with h0 | h0
   ·exact .inl (List.eq_nil_of_length_eq_zero (hs.len.trans h0))
   ·exact .inr ⟨b, off, rfl, Nat.lt_of_lt_of_le hlt hg.size, fun j hj => hg.cell (hc j hj) (show some b ≠ row from hf ⟨b, off, none⟩ k c (by simp) (by omega))⟩
theorem Fits.blk {w : World} : ∀ {fs : List Fd} {es : List Value}, Fits w fs es → noSl fs = true → ∀ {a : Addr} {k c : Nat}, Value.slice (some a) k c ∈ es → k ≠ 0 → a.block < w.heap.size
 | [], _, h, _, _, _, _, hm, _ => by rw [show _ = [] from h] at hm; simp at hm
 | .n z :: fs, _, ⟨x, y, r, e, h1, h2⟩, hn, a, k, c, hm, hk => by
  subst e
  obtain ⟨n, ao, k', c', e⟩ := h1.parts
  have h3 := h1
  rw [e] at h3
  injection e with e
  have e2 := congrArg Array.toList e
  simp at e2
  obtain ⟨rfl, rfl⟩ := e2
  simp only [List.mem_cons, reduceCtorEq, false_or] at hm
  rcases hm with hm | hm
  ·injection hm with hm1 hm2 hm3
   subst hm1 hm2 hm3
   exact h3.blk hk
  ·exact Fits.blk h2 hn hm hk
 | .v u :: fs, _, ⟨r, e, h1, h2⟩, hn, a, k, c, hm, hk => by
  subst e
  rcases List.mem_cons.1 hm with hm | hm
  ·subst hm; simp [noSl] at hn
  ·refine Fits.blk h2 ?_ hm hk
   cases u <;> first | exact hn | simp [noSl] at hn
 | .r n ao k' c' xs z :: fs, _, ⟨r, e, h1, h2⟩, hn, a, k, c, hm, hk => by
  subst e
  simp only [List.mem_cons, reduceCtorEq, false_or] at hm
  rcases hm with hm | hm
  ·injection hm with hm1 hm2 hm3
   subst hm1 hm2 hm3
   exact h1.2.blk hk
  ·exact Fits.blk h2 hn hm hk
def StAt (w : World) (g o : Nat) (fs : List Fd) : Prop := ∃ es, Fits w fs es ∧ ∀ j, j < es.length → w.cell? ⟨g, o + j, none⟩ = some (es.getD j undef)
theorem StAt.mono {w w' : World} {g o : Nat} {fs : List Fd} (h : StAt w g o fs) (hl : g < w.heap.size) (hb : Below w.heap.size w w') : StAt w' g o fs := by
 obtain ⟨es, h1, h2⟩ := h
 exact ⟨es, h1.mono hb, fun j hj => (hb.cell (p := ⟨g, o + j, none⟩) hl).trans (h2 j hj)⟩
def Sts (m : Nat) (w : World) (v : Value) (fss : List (List Fd)) : Prop := ∃ g cap, v = .slice (some ⟨g, 0, none⟩) fss.length cap ∧ g < w.heap.size ∧ ∀ i fs, fss[i]? = some fs → StAt w g (i * m) fs
theorem Sts.mono {m : Nat} {w w' : World} {v : Value} {fss : List (List Fd)} (h : Sts m w v fss) (hb : Below w.heap.size w w') : Sts m w' v fss := by
 obtain ⟨g, cap, e, h1, h2⟩ := h
 exact ⟨g, cap, e, Nat.lt_of_lt_of_le h1 hb.size, fun i fs hi => (h2 i fs hi).mono h1 hb⟩
def StCell (m : Nat) (us : List Value) (w : World) (own : Option Nat) (i : Nat) (fs : List Fd) : Prop := ∃ es, es.length = m ∧ (∀ j, j < m → us[i * m + j]? = es[j]?) ∧ FarC own es ∧ Fits w fs es ∧ noSl fs = true
def Ls (T m : Nat) (W : World) (B : Nat) (v : Value) (fss : List (List Fd)) : Prop := ∃ us, W.ownsRow B T m v fss.length us ∧ ∀ i fs, fss[i]? = some fs → StCell m us W v.ownBlock i fs
theorem Ls.shape {T m : Nat} {W : World} {B : Nat} {v : Value} {fss : List (List Fd)} (h : Ls T m W B v fss) : ∃ ao cap, v = .slice ao fss.length cap := by
 obtain ⟨us, h, _⟩ := h
 rcases h.2 with ⟨rfl, h0⟩ | ⟨g, cap, cur, rfl, _⟩
 ·exact ⟨none, 0, by rw [h0]⟩
 ·exact ⟨_, _, rfl⟩
theorem Ls.mono {T m : Nat} {w w' : World} {B : Nat} {v : Value} {fss : List (List Fd)} (h : Ls T m w B v fss) (hb : Below w.heap.size w w') : Ls T m w' B v fss := by
 obtain ⟨us, h, hE⟩ := h
 refine ⟨us, ⟨h.1, ?_⟩, fun i z hi => ?_⟩
 ·rcases h.2 with h2 | ⟨g, cap, cur, h1, h2, h3, h4⟩
  ·exact .inl h2
  ·exact .inr ⟨g, cap, cur, h1, h2, by rw [hb.block g (Array.getElem?_eq_some_iff.1 h3).1]; exact h3, h4⟩
 ·obtain ⟨es, g1, g2, g3, g4, g5⟩ := hE i z hi
  exact ⟨es, g1, g2, g3, g4.mono hb, g5⟩
theorem Ls.one {T m : Nat} (w : World) {B : Nat} {fs : List Fd} {es : List Value} (hB : B ≤ w.heap.size) (hm : es.length = m) (hF : Fits w fs es) (hn : noSl fs = true) : Ls T m (w.alloc (.cells es.toArray T)) B (.slice (some ⟨w.heap.size, 0, none⟩) 1 1) [fs] := by
 refine ⟨es, ⟨by simp [hm], .inr ⟨w.heap.size, 1, es.toArray, rfl, hB, ?_, ?_⟩⟩, fun i z hi => ?_⟩
 ·exact heap_alloc_new w _
 ·simp [hm]
  exact ⟨by unfold maxLen; omega, by rw [← hm, List.take_length]⟩
 ·match i, hi with
  | 0, hi =>
   simp at hi
   subst hi
   refine ⟨es, hm, fun j _ => by rw [Nat.zero_mul, Nat.zero_add], fun a k c hs hk e => ?_, hF.mono (alloc_below _ _), hn⟩
   have h1 := hF.blk hn hs hk
   simp [Value.ownBlock] at e
   omega
  | i + 1, hi => simp at hi
theorem Ls.step {T m B : Nat} {w wr w1 w2 : World} {v : Value} {fss : List (List Fd)} {us es : List Value} {fs : List Fd} {o : Obj} {g cap H : Nat}
  (hO : wr.ownsRow B T m v fss.length us) (hE : ∀ i z, fss[i]? = some z → StCell m us wr v.ownBlock i z) (hB : B ≤ wr.heap.size) (hnx : Below B w wr) (hb : Below wr.heap.size wr w1)
  (hnew : ∀ a k c, Value.slice (some a) k c ∈ es → k ≠ 0 → wr.heap.size ≤ a.block) (hF : Fits w1 fs es) (hn : noSl fs = true) (hm : es.length = m)
  (hown' : w2.ownsRow B T m (.slice (some ⟨g, 0, none⟩) (fss.length + 1) cap) (fss.length + 1) (us ++ es)) (hgrow : (w1.alloc o).grownBy w2 v.ownBlock) (hat : v.ownBlock = some g ∨ g = H) (hH : (w1.alloc o).heap.size = H) :
  Ls T m w2 B (.slice (some ⟨g, 0, none⟩) (fss.length + 1) cap) (fss ++ [fs]) ∧ Below B w w2 := by
 have hsz := hb.size
 have hH2 : w1.heap.size + 1 = H := by rw [← hH]; simp
 have hlt := hO.lt
 have hul := hO.1
 refine ⟨⟨us ++ es, by simpa using hown', fun i y hi => ?_⟩, ?_⟩
 ·have hne : ∀ {a : Addr} {k c : Nat} {xs : List Value} {gs : List Fd}, Fits w1 gs xs → noSl gs = true → Value.slice (some a) k c ∈ xs → k ≠ 0 → some a.block ≠ v.ownBlock → a.block ≠ g := by
   intro a k c xs gs hx hnx2 hmx hk hr e
   have h1 := hx.blk hnx2 hmx hk
   rcases hat with h | h
   ·rw [h, e] at hr; exact hr rfl
   ·omega
  by_cases hil : i < fss.length
  ·rw [List.getElem?_append_left hil] at hi
   obtain ⟨xs, g1, g2, g3, g4, g5⟩ := hE i y hi
   refine ⟨xs, g1, fun j hj => ?_, fun a k c hs hk e => ?_, ((g4.mono hb).mono (alloc_below w1 o)).grown hgrow g3, g5⟩
   ·have hm1 : (i + 1) * m ≤ fss.length * m := Nat.mul_le_mul_right m (by omega)
    rw [Nat.add_mul, Nat.one_mul] at hm1
    rw [List.getElem?_append_left (by omega)]
    exact g2 j hj
   ·exact hne (g4.mono hb) g5 hs hk (g3 a k c hs hk) (by simpa [Value.ownBlock] using e)
  ·have hi2 : i = fss.length := by
    rcases Nat.lt_or_ge i (fss ++ [fs]).length with h | h
    ·simp at h; omega
    ·rw [List.getElem?_eq_none h] at hi; cases hi
   subst hi2
   rw [List.getElem?_append_right (Nat.le_refl _), Nat.sub_self] at hi
   simp only [List.getElem?_cons_zero, Option.some.injEq] at hi
   subst hi
   have hfar : FarC v.ownBlock es := fun a k c hs hk e => by
    have h1 := hnew a k c hs hk
    have h2 := (hlt a.block e.symm).2
    omega
   refine ⟨es, hm, fun j hj => ?_, fun a k c hs hk e => ?_, (hF.mono (alloc_below w1 o)).grown hgrow hfar, hn⟩
   ·rw [List.getElem?_append_right (by omega), show fss.length * m + j - us.length = j by omega]
   ·exact hne hF hn hs hk (hfar a k c hs hk) (by simpa [Value.ownBlock] using e)
 ·exact ((hnx.trans (hb.mono hB)).alloc (by omega) o).grown hgrow (by simp; omega) (fun j hj => (hO.lt j hj).1)
section
variable {os : List Oper} {Q : Exit → Act → World → Prop} {a : Act} {p : Pq} {B B0 : Nat} {w0 : World}
variable {i s : Nat} {d : Option Tmp} {ty : TypeId} {ps : String} {af : Array Edge} {gd : Option (Nat × Bool)}
theorem q_loadStOut {b off l T : Nat} {fs : List Fd} {x : Operand} (hp : p.Ok B B0) (hF : p.Free i) (hg : GdQ os a p B B0 w0 af gd) (hn : ∀ w, Below B w0 w → StAt w b off fs) (hT : rowB T l = true) (hl : sz fs = l)
  (hx : SrcQ os a p B B0 w0 af x fun u _ => u = .pointer (some ⟨b, off, none⟩)) (hC : ∀ v w, (Fq.st fs).P v w → (p.c i).P v w) :
  StepQ os Q a p B B0 w0 i { dst := d, op := .load T x, type := ty, pos := ps, after := af, guard := gd } := by
 refine stq_val hp hF hg fun L vs w hG hL hc hd => ?_
 obtain ⟨es, hfit, hat⟩ := hn w hG.below
 have e := hx L vs w hG hd
 obtain ⟨⟨dd, hu, hd'⟩, hi⟩ := rowB_of hT
 refine ⟨.agg es.toArray, ?_, hC _ _ ⟨_, rfl, hfit⟩⟩
 have hr : w.rangeAt b off es := by
  intro j v hv
  have hj := (List.getElem?_eq_some_iff.1 hv).1
  rw [hat j hj, List.getD, hv]
  rfl
 have := run_loadVar_mid (P := Try.prog) w b off T _ dd hr hu hd' (by rw [hfit.length, hl]; exact hi)
 generalize (lay os.toArray L vs os.toArray.size a).eval = ρ at e
 simp only [execOp, e, Instr.loadAt, Instr.sureAddr, Sem.run_bind, Sem.run_pure, Result.andThen_ok, this]
end
def TameRow (w : World) (v : Value) : Prop := ∃ g n cap cur e, v = .slice (some ⟨g, 0, none⟩) n cap ∧ w.heap[g]? = some (.cells cur e (0, 0)) ∧ ∀ u ∈ cur.toList, tameB u = true
theorem TameRow.mono {w w' : World} {v : Value} (h : TameRow w v) (hb : Below w.heap.size w w') : TameRow w' v := by
 obtain ⟨g, n, cap, cur, e, h1, h2, h3⟩ := h
 exact ⟨g, n, cap, cur, e, h1, by rw [hb.block g (Array.getElem?_eq_some_iff.1 h2).1]; exact h2, h3⟩
theorem TameRow.num {w : World} {v : Value} (h : TameRow w v) {n : Bool} {ao : Option Addr} {k c : Nat} {z : Int} (hN : Num w (.agg #[.bool n, .slice ao k c]) z) : ∀ a, ao = some a → k ≠ 0 → some a.block ≠ v.ownBlock := by
 intro a ha hk e
 obtain ⟨g, n', cap, cur, et, rfl, h2, h3⟩ := h
 obtain ⟨neg, ao', k', c', xs, hv, hs, hn, hz⟩ := hN
 injection hv with hv
 have hv2 := congrArg Array.toList hv
 simp at hv2
 obtain ⟨rfl, rfl, rfl, rfl⟩ := hv2
 subst ha
 rcases hs.cells.2 with h0 | ⟨b, off, e1, hlt, hc⟩
 ·have := hs.len; rw [h0] at this; simp at this; omega
 ·injection e1 with e1
  subst e1
  simp [Value.ownBlock] at e
  subst e
  have h4 := hc 0 (by have := hs.len; omega)
  rw [cell_of_row w b _ cur et _ h2] at h4
  have h5 := List.mem_of_getElem? (l := cur.toList) (i := off + 0) (by rw [Array.getElem?_toList]; exact h4)
  have h6 := h3 _ h5
  simp [tameB] at h6
set_option maxRecDepth 20000 in
theorem run_append_tame {w : World} (t ty : TypeId) (base : Nat) (e : TypeId) (i : TypeInfo) (z : Value) (size bytes : Nat) (ht : Try.prog.underlying t = some (.slice e)) (hi : Try.prog.info? e = some i) (hz : i.zero = some z)
  (hsize : i.size = size) (hby : i.bytes = bytes) (hzs : z.cells.size = size) (hsz : 0 < size)
  (v : Value) (n : Nat) (xs : List Value) (hown : w.ownsRow base e size v n xs) (htm : TameRow w v) (hzt : ∀ u ∈ z.cells.toList, tameB u = true)
  (ad : Addr) (m c : Nat) (news : List Value) (hl : news.length = m * size) (hnews : ∀ j u, news[j]? = some u → w.cell? (ad.add j) = some u) (h1 : ∀ u ∈ news, tameB u = true)
  (hm : 0 < m) (h63 : n + m ≤ maxLen) (hbytes : (n + m) * bytes ≤ 140737488355328) (hbase : base ≤ w.heap.size) (H : Nat) (hH : w.heap.size = H) :
  ∃ g cap w', (Builtin.append_ #[t, t] ty #[v, .slice (some ad) m c]).run Try.prog w = .ok (.slice (some ⟨g, 0, none⟩) (n + m) cap) w' ∧
   w'.ownsRow base e size (.slice (some ⟨g, 0, none⟩) (n + m) cap) (n + m) (xs ++ news) ∧ w.grownBy w' v.ownBlock ∧ (v.ownBlock = some g ∨ g = H) ∧ g < w'.heap.size ∧ TameRow w' (.slice (some ⟨g, 0, none⟩) (n + m) cap) := by
 have hone : ∀ u ∈ news, u.oneCell' = true := fun u hu => by
  have := h1 u hu
  simp only [tameB, Bool.and_eq_true] at this
  exact this.1
 obtain ⟨g, cap, w', hr, h2, h3, h4, h5⟩ := run_append_lies (P := Try.prog) w t ty base e i z size bytes ht hi hz hsize hby hzs hsz v n xs hown ad m c news hl hnews hone hm h63 hbytes hbase H hH
 refine ⟨g, cap, w', hr, h2, h3, h4, h5, ?_⟩
 subst hsize
 subst hby
 obtain ⟨g0, n0, cap0, cur0, e0, rfl, hg0, ht0⟩ := htm
 rcases hown.2 with ⟨h6, _⟩ | ⟨g6, cap6, cur, h7, hbg, hg, hnc, hcm, hcs, htake⟩
 ·cases h6
 ·injection h7 with h7 h8 h9
  injection h7 with h7
  injection h7 with h7
  subst h7 h8 h9
  have hcur : cur = cur0 := by rw [hg0] at hg; injection hg with hg; injection hg with hg; exact hg.symm
  subst hcur
  by_cases hroom : n0 + m ≤ cap0
  ·have hfit : n0 * i.size + news.length ≤ cur.size := by rw [hl, hcs, ← Nat.add_mul]; exact Nat.mul_le_mul_right _ hroom
   have hr2 := run_append_room (P := Try.prog) w t ty e i ht hi g0 n0 cap0 cur hg ad m c news hl hnews hone hroom hfit
   rw [hr] at hr2
   injection hr2 with e1 e2
   injection e1 with e1 _ e3
   injection e1 with e1
   injection e1 with e1
   subst e1 e2 e3
   refine ⟨g, _, _, _, e, rfl, setRow_heap w g cur _ e _ hg, fun u hu => ?_⟩
   simp only [List.mem_append] at hu
   rcases hu with (hu | hu) | hu
   ·exact ht0 u (List.mem_of_mem_take hu)
   ·exact h1 u hu
   ·exact ht0 u (List.mem_of_mem_drop hu)
  ·have holds : ∀ j u, xs[j]? = some u → w.cell? ((⟨g0, 0, none⟩ : Addr).add j) = some u := hown.cells (g := g0) rfl
   have hsmall : n0 + m ≤ 9223372036854775807 := by simp only [maxLen] at h63; omega
   have hr2 := run_append_grow (P := Try.prog) w t ty e i z ht hi hz ⟨g0, 0, none⟩ n0 cap0 xs hown.1 holds ad m c news hl hnews (by omega) (by omega) (growslice_fits (by omega) hbytes)
   rw [hr] at hr2
   injection hr2 with e1 e2
   injection e1 with e1 _ e3
   injection e1 with e1
   injection e1 with e1
   subst e1 e2 e3
   refine ⟨_, _, _, _, e, rfl, heap_alloc_new w.drew _, fun u hu => ?_⟩
   simp only [Array.toList_append, List.mem_append] at hu
   rcases hu with (hu | hu) | hu
   ·rw [← htake] at hu
    exact ht0 u (List.mem_of_mem_take hu)
   ·exact h1 u hu
   ·simp only [Builtin.zeroCells, Array.toList_map, Array.toList_range, List.mem_map, List.mem_range] at hu
    obtain ⟨j, hj, rfl⟩ := hu
    have hlt : j % z.cells.size < z.cells.size := Nat.mod_lt _ (by rw [hzs]; exact hsz)
    rw [getElem!_pos z.cells (j % z.cells.size) hlt]
    exact hzt _ (by simp)
theorem wpList_append_tame {w : World} {ops : Array Oper} {rest : List Oper} {o : Oper} {a : Act} {Q : Exit → Act → World → Prop} (hgd : o.guard = none) (s x : Operand) (t : TypeId)
  (ho : o.op = .call { callee := .builtin .append, args := #[s, x], argTypes := #[t, t] })
  (base : Nat) (e : TypeId) (i : TypeInfo) (z : Value) (size bytes : Nat) (ht : Try.prog.underlying t = some (.slice e)) (hi : Try.prog.info? e = some i) (hz : i.zero = some z)
  (hsize : i.size = size) (hby : i.bytes = bytes) (hzs : z.cells.size = size) (hsz : 0 < size)
  (v : Value) (n : Nat) (xs : List Value) (hs : a.eval s = v) (hown : w.ownsRow base e size v n xs) (htm : TameRow w v) (hzt : ∀ u ∈ z.cells.toList, tameB u = true)
  (ad : Addr) (m c : Nat) (news : List Value) (hx : a.eval x = .slice (some ad) m c) (hl : news.length = m * size) (hnews : ∀ j u, news[j]? = some u → w.cell? (ad.add j) = some u) (h1 : ∀ u ∈ news, tameB u = true)
  (hm : 0 < m) (h63 : n + m ≤ maxLen) (hbytes : (n + m) * bytes ≤ 140737488355328) (hbase : base ≤ w.heap.size) (H : Nat) (hH : w.heap.size = H)
  (h : ∀ g cap w', w'.ownsRow base e size (.slice (some ⟨g, 0, none⟩) (n + m) cap) (n + m) (xs ++ news) → w.grownBy w' v.ownBlock → (v.ownBlock = some g ∨ g = H) → g < w'.heap.size → TameRow w' (.slice (some ⟨g, 0, none⟩) (n + m) cap) → wpList Try.prog ops Q rest (a.put o.dst (.slice (some ⟨g, 0, none⟩) (n + m) cap)) w') : wpList Try.prog ops Q (o :: rest) a w := by
 refine wpList_plain hgd fun K hK => ?_
 obtain ⟨g, cap, w', hr, h2, h3, h4, h5, h6⟩ := run_append_tame (w := w) t o.type base e i z size bytes ht hi hz hsize hby hzs hsz v n xs hown htm hzt ad m c news hl hnews h1 hm h63 hbytes hbase H hH
 unfold Oper.wp execOp
 simp only [ho, resolve, invoke, builtin, Sem.run_bind, Sem.run_pure, Result.andThen_ok, List.map_toArray, List.map_cons, List.map_nil, hs, hx, hr]
 exact hK _ _ (h g cap w' h2 h3 h4 h5 h6)
def RBox (W : World) (own : Option Nat) (br : Nat) (z : Int) : Prop := br < W.heap.size ∧ some br ≠ own ∧ ∃ n ao k c, W.cell? ⟨br, 0, none⟩ = some (.bool n) ∧ W.cell? ⟨br, 1, none⟩ = some (.slice ao k c) ∧ Num W (.agg #[.bool n, .slice ao k c]) z
theorem RBox.mono {W W' : World} {own : Option Nat} {br : Nat} {z : Int} (h : RBox W own br z) (hb : Below W.heap.size W W') : RBox W' own br z := by
 obtain ⟨h1, h2, n, ao, k, c, g1, g2, g3⟩ := h
 exact ⟨Nat.lt_of_lt_of_le h1 hb.size, h2, n, ao, k, c, (hb.cell (p := ⟨br, 0, none⟩) h1).trans g1, (hb.cell (p := ⟨br, 1, none⟩) h1).trans g2, g3.mono hb⟩
theorem RBox.st {W : World} {own : Option Nat} {br : Nat} {z : Int} (h : RBox W own br z) : StAt W br 0 [.n z] := by
 obtain ⟨h1, h2, n, ao, k, c, g1, g2, g3⟩ := h
 refine ⟨[.bool n, .slice ao k c], ⟨_, _, _, rfl, g3, rfl⟩, fun j hj => ?_⟩
 match j, hj with
 | 0, _ => exact g1
 | 1, _ => exact g2
theorem RBox.step {wr w1 w2 : World} {v : Value} {br g H n cap : Nat} {z : Int} {o : Obj} (h : RBox wr v.ownBlock br z) (hb : Below wr.heap.size wr w1) (ht : TameRow (w1.alloc o) v) (hgrow : (w1.alloc o).grownBy w2 v.ownBlock) (hat : v.ownBlock = some g ∨ g = H) (hH : (w1.alloc o).heap.size = H) : RBox w2 (Value.slice (some ⟨g, 0, none⟩) n cap).ownBlock br z := by
 obtain ⟨h1, h2, m, ao, k, c, g1, g2, g3⟩ := (h.mono hb).mono (alloc_below w1 o)
 have hlt : br < H := by rw [← hH]; exact h1
 refine ⟨Nat.lt_of_lt_of_le h1 hgrow.size, ?_, m, ao, k, c, hgrow.cell g1 h2, hgrow.cell g2 h2, g3.grown hgrow (ht.num g3)⟩
 intro e
 simp [Value.ownBlock] at e
 rcases hat with h3 | h3
 ·rw [h3, e] at h2; exact h2 rfl
 ·omega
theorem TameRow.made {w : World} {es : List Value} {T : Nat} (h : ∀ u ∈ es, tameB u = true) : TameRow (w.alloc (.cells es.toArray T)) (.slice (some ⟨w.heap.size, 0, none⟩) 1 1) := ⟨_, _, _, es.toArray, T, rfl, heap_alloc_new w _, fun u hu => h u (by simpa using hu)⟩
end Go.Proofs.Ytihhlaagndingaa

namespace Go.Proofs.Ytihhlaagndingaa
open Go Go.RowKit

set_option maxRecDepth 100000 in
set_option maxHeartbeats 4000000 in
theorem exRight {w : World} {v v' : Value} {A B M x : Int} (h : (Fq.st [.n A, .n B, .n M]).P v w) (h' : Num w v' x) (hM : ab M < pw 5) (hA : ab A < pw 5) (hB : ab B < pw 5) (hx : ab x < pw 5) (h0 : 0 < M) :
  Calls Try.prog 33 #[v, v'] w fun e w' => ∃ v', e = .returned v' ∧ Below w.heap.size w w' ∧ Num w' v' (((x * (x * x)) + (A * x) + B) % M) := by
 replace hM := hidd hM
 replace hA := hidd hA
 replace hB := hidd hB
 replace hx := hidd hx
 replace h0 := hidd h0
 obtain ⟨_, rfl, hf0⟩ := h
 have hF0 := hf0
 obtain ⟨y0_p0, y0_q0, _, rfl, _y0_n0, y0_p1, y0_q1, _, rfl, _y0_n1, y0_p2, y0_q2, _, rfl, _y0_n2, rfl⟩ := hf0
 obtain ⟨n1, ao1, k1, c1, rfl⟩ := h'.parts
 obtain ⟨w1, b1, hw1, hb1, hs1, E⟩ := fr_start w (F := Fq.st [.n A, .n B, .n M]) (us := [y0_p0, y0_q0, y0_p1, y0_q1, y0_p2, y0_q2]) 31 rfl (by simp) (hF0.tame) (show (Fq.st [.n A, .n B, .n M]).P _ w from ⟨_, rfl, hF0⟩)
 obtain ⟨w2, b2, hw2, hb2, hs2, E⟩ := fr_more E hs1 (F := Fq.num x) (us := [.bool n1, .slice ao1 k1 c1]) 29 rfl (by simp) (tame_int _ _ _ _) (h'.mono E.below)
 obtain ⟨w3, b3, hw3, hb3, hs3, E⟩ := fr_more E hs2 (F := Fq.num 0) (us := [.bool false, .slice none 0 0]) 29 rfl (by simp) (tame_int _ _ _ _) (Num.zero _)
 go_enter Try.func33, Try.ntmps33
 go_upto_region 1 with (fail)
 rw [← hw1]
 rw [← hw2]
 rw [← hw3]
 rw [← hb3]
 rw [← hb2]
 rw [← hb1]
 clear hw1 hw2 hw3 hb1 hb2 hb3 hs3 hs1 hs2
 have B4 : Hid (ab ((x * x)) < pw 10) := ab_mulM hx.out hx.out (by omega)
 have B5 : Hid (ab ((x * (x * x))) < pw 15) := ab_mulM hx.out B4.out (by omega)
 refine region_fr (C := [Fq.num x, Fq.num x, Fq.num x, Fq.num (x * x), Fq.num (x * (x * x)), Fq.any, Fq.any]) (ks := [none, none, none]) (new := [⟨5, 6, 2, Fq.num 0, Fq.num (x * (x * x)), none⟩]) E rfl (by kernel_rfl) rfl rfl (fun hp => ⟨?_, ?_, ?_, ?_, ?_, ?_, ?_, trivial⟩) ?_
 ·exact q_loadInt (off := 0) hp (free_of rfl) trivial (mq 1 rfl) (.inl rfl) (Nat.le_of_ble_eq_true rfl) (sqo 3) (fun us w hl h => ld_num hl h)
 ·exact q_loadInt (off := 0) hp (free_of rfl) trivial (mq 1 rfl) (.inl rfl) (Nat.le_of_ble_eq_true rfl) (sqo 3) (fun us w hl h => ld_num hl h)
 ·exact q_loadInt (off := 0) hp (free_of rfl) trivial (mq 1 rfl) (.inl rfl) (Nat.le_of_ble_eq_true rfl) (sqo 3) (fun us w hl h => ld_num hl h)
 ·exact q_call2 (F := (Fq.num x).P) (G := (Fq.num x).P) hp (free_of rfl) trivial (enq_R_Mul) (sqi 1) (sqi 2) (fun v v' w h h' => exK (RMulV h h') B4.out (by omega))
 ·exact q_call2 (F := (Fq.num x).P) (G := (Fq.num (x * x)).P) hp (free_of rfl) trivial (enq_R_Mul) (sqi 0) (sqi 3) (fun v v' w h h' => exK (RMulV h h') B5.out (by omega))
 ·exact q_allocInt hp (mq 0 rfl) rfl rfl rfl rfl (Nat.ne_of_beq_eq_false rfl) (fun _ _ => trivial) (old_ne rfl) (newk_ne rfl) (fun w => Num.zero w)
 ·exact q_storeNewInt hp (mq 0 rfl) rfl rfl rfl (own_ptr rfl rfl (by simp) rfl) (sq_in 4 rfl rfl (by simp) rfl (fun v w h => intV_num h)) (fun _ _ => trivial) (old_ne rfl) (newi_ne rfl)
 intro L vs w6 nb hL hC hn E6
 have e5 : vs 5 = .pointer (some ⟨nb 5, 0, none⟩) := hn _ (mq 0 rfl)
 have E : Fr w [(nb 5, 2, Fq.num (x * (x * x))), (b3, 2, Fq.num 0), (b2, 2, Fq.num x), (b1, 6, Fq.st [.n A, .n B, .n M])] w6 := E6
 rw [lay_all hL]
 simp only [putAll, dstOf, List.length_cons, List.length_nil, Nat.zero_add, Nat.reduceAdd, List.getElem?_toArray, List.getElem?_cons_zero, List.getElem?_cons_succ, Option.bind_some, Act.put, List.setIfInBounds_toArray, List.set_cons_succ, List.set_cons_zero]
 rw [e5]
 generalize nb 5 = b6_5 at E ⊢
 generalize vs 0 = u6_0
 generalize vs 1 = u6_1
 generalize vs 2 = u6_2
 generalize vs 3 = u6_3
 generalize vs 4 = u6_4
 clear e5 hC hn E6 hL vs L nb
 go_upto_region 2 with (fail)
 have B7 : Hid (ab ((A * x)) < pw 10) := ab_mulM hA.out hx.out (by omega)
 have B8 : Hid (ab (((x * (x * x)) + (A * x))) < pw 16) := ab_addB B5.out B7.out (by omega) (by omega)
 have B9 : Hid (ab ((((x * (x * x)) + (A * x)) + B)) < pw 17) := ab_addB B8.out hB.out (by omega) (by omega)
 have B10 : Hid (ab (((((x * (x * x)) + (A * x)) + B) % M)) < pw 5) := ab_mod' h0.out hM.out
 refine region_fr (C := [Fq.num (x * (x * x)), Fq.is (.pointer (some ⟨b1, 0, none⟩)), Fq.num A, Fq.num x, Fq.num (A * x), Fq.num ((x * (x * x)) + (A * x)), Fq.is (.pointer (some ⟨b1, 2, none⟩)), Fq.num B, Fq.num (((x * (x * x)) + (A * x)) + B), Fq.is (.pointer (some ⟨b1, 4, none⟩)), Fq.num M, Fq.num ((((x * (x * x)) + (A * x)) + B) % M), Fq.any]) (ks := [none, some (12, Fq.num ((((x * (x * x)) + (A * x)) + B) % M)), none, none]) (new := []) E rfl (by kernel_rfl) rfl rfl (fun hp => ⟨?_, ?_, ?_, ?_, ?_, ?_, ?_, ?_, ?_, ?_, ?_, ?_, ?_, trivial⟩) ?_
 ·exact q_loadInt (off := 0) hp (free_of rfl) trivial (mq 0 rfl) (.inl rfl) (Nat.le_of_ble_eq_true rfl) (sqo 5) (fun us w hl h => ld_num hl h)
 ·exact q_addr (b := b1) (off := 0) (off' := 0) hp (free_of rfl) trivial (sqo 2) (fun ρ w h => by simp [execOp, go_sem, h]) (fun _ => rfl)
 ·exact q_loadSt (off := 0) (l := 2) (fs := [.n A, .n B, .n M]) (gs := [.n A]) hp (free_of rfl) trivial (mq 3 rfl) (.inl rfl) rfl row_api_Int rfl (sqi 1) (fun v w h => st_num h)
 ·exact q_loadInt (off := 0) hp (free_of rfl) trivial (mq 2 rfl) (.inl rfl) (Nat.le_of_ble_eq_true rfl) (sqo 3) (fun us w hl h => ld_num hl h)
 ·exact q_call2 (F := (Fq.num A).P) (G := (Fq.num x).P) hp (free_of rfl) trivial (enq_R_Mul) (sqi 2) (sqi 3) (fun v v' w h h' => exK (RMulV h h') B7.out (by omega))
 ·exact q_call2 (F := (Fq.num (x * (x * x))).P) (G := (Fq.num (A * x)).P) hp (free_of rfl) trivial (enq_R_Add) (sqi 0) (sqi 4) (fun v v' w h h' => exK (RAddV h h') B8.out (by omega))
 ·exact q_addr (b := b1) (off := 0) (off' := 2) hp (free_of rfl) trivial (sqo 2) (fun ρ w h => by simp [execOp, go_sem, h]) (fun _ => rfl)
 ·exact q_loadSt (off := 2) (l := 2) (fs := [.n A, .n B, .n M]) (gs := [.n B]) hp (free_of rfl) trivial (mq 3 rfl) (.inl rfl) rfl row_api_Int rfl (sqi 6) (fun v w h => st_num h)
 ·exact q_call2 (F := (Fq.num ((x * (x * x)) + (A * x))).P) (G := (Fq.num B).P) hp (free_of rfl) trivial (enq_R_Add) (sqi 5) (sqi 7) (fun v v' w h h' => exK (RAddV h h') B9.out (by omega))
 ·exact q_addr (b := b1) (off := 0) (off' := 4) hp (free_of rfl) trivial (sqo 2) (fun ρ w h => by simp [execOp, go_sem, h]) (fun _ => rfl)
 ·exact q_loadSt (off := 4) (l := 2) (fs := [.n A, .n B, .n M]) (gs := [.n M]) hp (free_of rfl) trivial (mq 3 rfl) (.inl rfl) rfl row_api_Int rfl (sqi 9) (fun v w h => st_num h)
 ·exact q_call2 (F := (Fq.num (((x * (x * x)) + (A * x)) + B)).P) (G := (Fq.num M).P) hp (free_of rfl) trivial (enq_R_Mod) (sqi 8) (sqi 10) (fun v v' w h h' => exK (RModV h h' (Int.lt_of_lt_of_le B9.out (pw_le (by omega))) (Int.lt_of_lt_of_le hM.out (pw_le (by omega))) (by have := h0.out; omega)) (k := 5) (ab_mod' h0.out hM.out) (by omega))
 ·exact q_storeOldInt hp (mq 1 rfl) rfl rfl (sqo 4) (sq_in 11 rfl rfl (by simp) rfl (fun v w h => intV_num h)) (fun _ _ => trivial) (newik_ne rfl)
 intro L vs w11 nb hL hC hn E11
 have e1 : vs 1 = .pointer (some ⟨b1, 0, none⟩) := hC 1 (by simp)
 have e6 : vs 6 = .pointer (some ⟨b1, 2, none⟩) := hC 6 (by simp)
 have e9 : vs 9 = .pointer (some ⟨b1, 4, none⟩) := hC 9 (by simp)
 have E : Fr w [(b6_5, 2, Fq.num (x * (x * x))), (b3, 2, Fq.num ((((x * (x * x)) + (A * x)) + B) % M)), (b2, 2, Fq.num x), (b1, 6, Fq.st [.n A, .n B, .n M])] w11 := E11
 rw [lay_all hL]
 simp only [putAll, dstOf, List.length_cons, List.length_nil, Nat.zero_add, Nat.reduceAdd, List.getElem?_toArray, List.getElem?_cons_zero, List.getElem?_cons_succ, Option.bind_some, Act.put, List.setIfInBounds_toArray, List.set_cons_succ, List.set_cons_zero]
 rw [e1, e6, e9]
 generalize vs 0 = u11_0
 generalize vs 2 = u11_2
 generalize vs 3 = u11_3
 generalize vs 4 = u11_4
 generalize vs 5 = u11_5
 generalize vs 7 = u11_7
 generalize vs 8 = u11_8
 generalize vs 10 = u11_10
 generalize vs 11 = u11_11
 clear e1 e6 e9 hC hn E11 hL vs L nb
 clear h0
 obtain ⟨p0_0, p0_1, c0_0, c0_1, hP0⟩ := box_num (E.box 1 rfl)
 clear B4 B5 B7 B8 B9 B10 hM hA hB hx
 go_wp2
 refine bodyPost_ret (v := .agg #[p0_0, p0_1]) ?_ rfl ⟨_, rfl, E.below, hP0⟩
 simp [results, Try.results33, go_sem, c0_0, c0_1]

end Go.Proofs.Ytihhlaagndingaa

namespace Go.Proofs.Ytihhlaagndingaa
open Go Go.RowKit

def Fm.lst (zs : List Int) (e : Int) : Fm := ⟨fun v w => ∃ l, v = .tuple #[l, .int .i64 e] ∧ Nums w l zs, fun ⟨l, h1, h2⟩ hb => ⟨l, h1, h2.mono hb⟩⟩
def Fm.agg (zs : List Int) (e : Int) : Fm := ⟨fun v w => ∃ l, v = .agg #[l, .int .i64 e] ∧ Nums w l zs, fun ⟨l, h1, h2⟩ hb => ⟨l, h1, h2.mono hb⟩⟩
section
variable {os : List Oper} {Q : Exit → Act → World → Prop} {a : Act} {p : Plan} {B B0 : Nat} {w0 : World}
end

section
variable {os : List Oper} {Q : Exit → Act → World → Prop} {a : Act} {p : Plan} {B B0 : Nat} {w0 : World}
variable {i s : Nat} {d : Option Tmp} {ty : TypeId} {ps : String} {af : Array Edge} {gd : Option (Nat × Bool)}
end

set_option maxHeartbeats 1000000 in
theorem made_new (w : World) (neg : Bool) (ax : Option Addr) (n c : Nat) (xs : List Int) (hX : Sl w ax n c xs) (hb : n ≤ 4000000) :
  Calls Try.prog 38 #[.bool neg, .slice ax n c] w (GivesAt w ax (sgn neg (val xs))) := by
 obtain ⟨w0, hw0, hC, hCb⟩ : ∃ w0, w0 = w.alloc (.cells #[.bool false, .slice none 0 0] 29) ∧ IntBox w0 w.heap.size (.bool false) (.slice none 0 0) ∧ Below w.heap.size w w0 := ⟨_, rfl, box1 _ _, alloc_below _ _⟩
 go_enter Try.func38, Try.ntmps38
 go_wp2_with fail
 rw [← hw0]
 clear hw0
 refine (rtrim_any _ _ _ _ _ (hX.mono hCb) (by omega)).mono ?_
 rintro e w' ⟨m, rfl, hm, hsm, hvm, hcm, rfl⟩
 have hml := hsm.len
 have hz := hcm.zero
 rw [hml, hvm] at hz
 have HVM := hidd hvm
 clear hvm hml
 obtain ⟨e0, e1, e2, e3⟩ := hC
 by_cases hm0 : m = 0
 ·have HV : Hid (sgn neg (val xs) = 0) := sgn_zero neg (hz.1 hm0)
  clear hz
  subst hm0
  go_wp2
  refine bodyPost_ret (v := .agg #[.bool false, .slice none 0 0]) ?_ rfl ?_
  ·simp [results, Try.results38, go_sem, e0, e1]
  ·exact ⟨false, none, 0, 0, [], rfl, .inl rfl, Sl.nil _, ⟨fun _ hx => by simp at hx, .inl rfl⟩, by simp, by rw [HV.out]; rfl, (hCb.setCell (Nat.le_refl _) _).setCell (Nat.le_refl _) _⟩
 ·have hm1 : ((m : Int) == 0) = false := by simp; omega
  clear hz
  go_wp2
  refine bodyPost_ret (v := .agg #[.bool neg, .slice ax m c]) ?_ rfl ?_
  ·simp [results, Try.results38, go_sem, e0, e1]
  ·have h1 : (w0.setCell ⟨w.heap.size, 0, none⟩ (.bool neg)).cell? ⟨w.heap.size, 1, none⟩ = some (.slice none 0 0) := by
    rw [World.cell?_setCell_other _ _ _ _ (by intro e; cases e)]; exact e1
   exact ⟨neg, ax, m, c, _, rfl, .inr rfl, (hsm.setOther e0 (by intro q e; cases e) _).setOther h1 (by intro q e; cases e) _, hcm, fun _ => hm0, by rw [HVM.out], (hCb.setCell (Nat.le_refl _) _).setCell (Nat.le_refl _) _⟩

set_option maxHeartbeats 1000000 in
theorem rOfNew (w : World) (z : Int) (h0 : 0 ≤ z) (h1 : z ≤ 9223372036854775807) :
  Calls Try.prog 25 #[.int .i64 z] w fun e w' => ∃ ng ao n c, e = .returned (.agg #[.bool ng, .slice ao n c]) ∧ (∀ a, ao = some a → w.heap.size ≤ a.block) ∧ Num w' (.agg #[.bool ng, .slice ao n c]) z ∧ Below w.heap.size w w' := by
 obtain ⟨w0, hw0, hC, hCb⟩ : ∃ w0, w0 = w.alloc (.cells #[.bool false, .slice none 0 0] 29) ∧ IntBox w0 w.heap.size (.bool false) (.slice none 0 0) ∧ Below w.heap.size w w0 := ⟨_, rfl, box1 _ _, alloc_below _ _⟩
 have hz : ¬ z < 0 := by omega
 have hab := fun o => alloc_below w0 o
 have hq : IntKind.u64.wrap z = z := by rw [u64_wrap]; omega
 obtain ⟨hs, hv⟩ := halves_sl w0 82 rfl z (by omega) (by omega)
 have hsz : Hid (w.heap.size ≤ w0.heap.size) := hCb.size
 go_enter Try.func25, Try.ntmps25
 go_upto_region 1 with (fail)
 rw [← hw0]
 clear hw0
 go_wp2_with fail
 refine (made_new _ _ _ _ _ _ hs (by omega)).mono ?_
 rintro e w3 ⟨ng, ao, nn, cc, rs, rfl, hao, hrs, hrc, hrn, hrz, hb3⟩
 obtain ⟨e0, e1, e2, e3⟩ := (hC.mono (hab _) hC.lt).mono hb3 (Nat.lt_of_lt_of_le hC.lt (hab _).size)
 have HZ : Hid (z = sgn ng (val rs)) := by
  show _ = _
  rw [← hrz, hv.out]; simp [sgn]
 have HA : Hid (∀ a, ao = some a → w.heap.size ≤ a.block) := by
  show ∀ a, _
  rintro a rfl
  rcases hao with h | h
  ·cases h
  ·injection h with h
   rw [h]
   exact hsz.out
 have hb4 : Below w.heap.size w w3 := (hCb.trans ((hab _).mono hCb.size)).trans (hb3.mono (Nat.le_trans hCb.size (hab _).size))
 clear hrz hv hC hq hao
 go_wp2
 refine bodyPost_ret (v := .agg #[.bool ng, .slice ao nn cc]) ?_ rfl ?_
 ·simp [results, Try.results25, go_sem, e0, e1]
 ·obtain ⟨v, he, hI, hB⟩ := gives_store ⟨e0, e1, e2, e3⟩ hrs hrc hrn HZ.out hb4 (Nat.le_refl _)
  injection he with he
  subst he
  exact ⟨ng, ao, nn, cc, rfl, HA.out, num_of hI (k := 2) (by have e : pw 2 = 18446744073709551616 := rfl; rw [e]; unfold ab; omega) (by omega), hB⟩
end Go.Proofs.Ytihhlaagndingaa

namespace Go.Proofs.Ytihhlaagndingaa
open Go Go.RowKit

end Go.Proofs.Ytihhlaagndingaa

namespace Go.Proofs.Ytihhlaagndingaa
open Go Go.RowKit

section
variable {os : List Oper} {Q : Exit → Act → World → Prop} {a : Act} {p : Pq} {B B0 : Nat} {w0 : World}
variable {i s : Nat} {d : Option Tmp} {ty : TypeId} {ps : String} {af : Array Edge} {gd : Option (Nat × Bool)}
end
end Go.Proofs.Ytihhlaagndingaa

namespace Go.Proofs.Ytihhlaagndingaa
open Go Go.RowKit

theorem enq_R_word (args : Array Value) (w : World) : (callFunc 54 args).run Try.prog w = .ok (.enter 54 args) w := enter_of Try.func54 (by kernel_rfl) rfl args w
theorem enq_R_Low (args : Array Value) (w : World) : (callFunc 32 args).run Try.prog w = .ok (.enter 32 args) w := enter_of Try.func32 (by kernel_rfl) rfl args w
theorem ld_rawS {n : Bool} {a : Option Addr} {k c : Nat} {xs : List Int} {us : List Value} {w : World} (hl : us.length = 2) (h : (Fq.raw n a k c xs).P (.agg us.toArray) w) : us.getD 1 undef = .slice a k c := by
 match us, hl with
 | [p, q], _ =>
  obtain ⟨e, h1⟩ := h
  injection e with e
  have e2 := congrArg Array.toList e
  simp at e2
  simp [e2]
theorem box_raw1 {w : World} {b : Nat} {n : Bool} {a : Option Addr} {k c : Nat} {xs : List Int} (h : Bq w b 2 (Fq.raw n a k c xs)) : w.cell? ⟨b, 0, none⟩ = some (.bool n) ∧ w.cell? ⟨b, 1, none⟩ = some (.slice a k c) := by
 obtain ⟨us, hl, _, hat, _, hP⟩ := h
 obtain ⟨e, _⟩ := hP
 injection e with e
 have e2 := congrArg Array.toList e
 simp at e2
 subst e2
 exact ⟨(hat 0 (by simp)).1, (hat 1 (by simp)).1⟩
theorem exRWord0 {w : World} {ax : Option Addr} {n c : Nat} {xs : List Int} (hX : Sl w ax n c xs) (hb : n ≤ 2) : Calls Try.prog 54 #[.slice ax n c, .int .i64 0] w fun e w' => ∃ v', e = .returned v' ∧ Below w.heap.size w w' ∧ v' = .int .u64 (xs.getD 0 0) :=
 (word_any w ax n c xs hX (by omega) 0 (by omega) _ rfl).mono fun e w' ⟨h1, h2⟩ => ⟨_, h1, by rw [← h2]; exact Below.refl _ _, rfl⟩
theorem exRWord1 {w : World} {ax : Option Addr} {n c : Nat} {xs : List Int} (hX : Sl w ax n c xs) (hb : n ≤ 2) : Calls Try.prog 54 #[.slice ax n c, .int .i64 1] w fun e w' => ∃ v', e = .returned v' ∧ Below w.heap.size w w' ∧ v' = .int .u64 (xs.getD 1 0) :=
 (word_any w ax n c xs hX (by omega) 1 (by omega) _ rfl).mono fun e w' ⟨h1, h2⟩ => ⟨_, h1, by rw [← h2]; exact Below.refl _ _, rfl⟩
theorem val_xy {xs : List Int} (h : xs.length ≤ 2) : val xs = xs.getD 0 0 + xs.getD 1 0 * 4294967296 := by
 match xs, h with
 | [], _ => rfl
 | [x], _ => simp [val]
 | [x, y], _ => simp [val]; omega
theorem low_parts {w : World} {v : Value} {z : Int} (h : Num w v z) (h0 : 0 ≤ z) (h1 : z ≤ 9223372036854775807) : ∃ ao n c xs, v = .agg #[.bool false, .slice ao n c] ∧ Sl w ao n c xs ∧ n ≤ 2 ∧ z = xs.getD 0 0 + xs.getD 1 0 * 4294967296 ∧ 0 ≤ xs.getD 0 0 ∧ xs.getD 0 0 < 4294967296 ∧ 0 ≤ xs.getD 1 0 ∧ xs.getD 1 0 < 4294967296 := by
 have hp : pw 2 = 18446744073709551616 := by decide
 obtain ⟨neg, ao, n, c, xs, hv, hs, hn, hz, hc, hnn⟩ := h
 have hz0 := val_nonneg hs.digs
 have hv2 : val xs < pw 2 := by
  rw [hp]
  cases neg <;> simp [sgn] at hz <;> omega
 have hl := hc.length_le hv2
 rw [hs.len] at hl
 have hneg : neg = false := by
  cases neg with
  | false => rfl
  | true =>
   have e0 : val xs = 0 := by simp [sgn] at hz; omega
   have e1 := hc.zero
   rw [hs.len] at e1
   exact absurd (e1.2 e0) (hnn rfl)
 subst hneg
 have g0 := hs.digs.getD 0
 have g1 := hs.digs.getD 1
 refine ⟨ao, n, c, xs, hv, hs, hl, ?_, g0.1, g0.2, g1.1, g1.2⟩
 rw [← val_xy (by rw [hs.len]; exact hl)]
 simpa [sgn] using hz

set_option maxRecDepth 100000 in
set_option maxHeartbeats 4000000 in
theorem exRLow {w : World} {v : Value} {z : Int} (h : Num w v z) (h0 : 0 ≤ z) (h1 : z ≤ 9223372036854775807) :
  Calls Try.prog 32 #[v] w fun e w' => ∃ v', e = .returned v' ∧ Below w.heap.size w w' ∧ (Fq.tup2 (Fq.is (.int .i64 z)) (Fq.is (.bool true))).P v' w' := by
 obtain ⟨ao, n, c, xs, rfl, hs, hn, hz, hx0, hx1, hy0, hy1⟩ := low_parts h h0 h1
 obtain ⟨x, hx⟩ : ∃ x, x = xs.getD 0 0 := ⟨_, rfl⟩
 obtain ⟨y, hy⟩ : ∃ y, y = xs.getD 1 0 := ⟨_, rfl⟩
 rw [← hx, ← hy] at hz
 rw [← hx] at hx0 hx1
 rw [← hy] at hy0 hy1
 have HX := hidd hx
 have HY := hidd hy
 have HS := hidd hs
 have HN := hidd hn
 have HZ := hidd hz
 have SH : Hid (IntKind.u64.wrap (y * 4294967296) = y * 4294967296) := by show _ = _; rw [u64_wrap]; omega
 have OR : Hid (bits .or .u64 x (y * 4294967296) = z) := by show _ = _; rw [(or_halves x y hx0 hx1 hy0 hy1).1]; exact hz.symm
 have H0 := hidd h0
 have H1 := hidd h1
 clear hx hy hn hz hx0 hx1 hy0 hy1 h0 h1 h
 obtain ⟨w1, b1, hw1, hb1, hs1, E⟩ := fr_start w (F := Fq.raw false ao n c xs) (us := [.bool false, .slice ao n c]) 29 rfl (by simp) (tame_int _ _ _ _) (show (Fq.raw false ao n c xs).P _ w from ⟨rfl, hs⟩)
 go_enter Try.func32, Try.ntmps32
 go_upto_region 1 with (fail)
 rw [← hw1]
 rw [← hb1]
 clear hw1 hb1 hs1
 clear hs
 refine region_fr (C := [Fq.is (.pointer (some ⟨b1, 1, none⟩)), Fq.is (.slice ao n c), Fq.is (.int .u64 x), Fq.is (.pointer (some ⟨b1, 1, none⟩)), Fq.is (.slice ao n c), Fq.is (.int .u64 y), Fq.is (.int .u64 (y * 4294967296)), Fq.is (.int .u64 z), Fq.is (.int .u64 z)]) (ks := [none]) (new := []) E rfl (by kernel_rfl) rfl rfl (fun hp => ⟨?_, ?_, ?_, ?_, ?_, ?_, ?_, ?_, ?_, trivial⟩) ?_
 ·exact q_addr (b := b1) (off := 0) (off' := 1) hp (free_of rfl) trivial (sqo 1) (fun ρ w h => by simp [execOp, go_sem, h]) (fun _ => rfl)
 ·exact q_loadSl (off := 1) (v := .slice ao n c) hp (free_of rfl) trivial (mq 0 rfl) (.inl rfl) (Nat.le_of_ble_eq_true rfl) (sqi 0) (fun us w hl h => ⟨ld_rawS hl h, rfl⟩)
 ·exact q_call2W (F := (Fq.is (.slice ao n c)).P) (G := (Fq.is (.int .i64 0)).P) hp (free_of rfl) trivial (enq_R_word) rfl (sqi 1) (sq_const (fun _ => rfl)) (fun v v' w hbw h h' => (by subst h; subst h'; rw [HX.out]; exact exRWord0 (HS.out.mono hbw) HN.out))
 ·exact q_addr (b := b1) (off := 0) (off' := 1) hp (free_of rfl) trivial (sqo 1) (fun ρ w h => by simp [execOp, go_sem, h]) (fun _ => rfl)
 ·exact q_loadSl (off := 1) (v := .slice ao n c) hp (free_of rfl) trivial (mq 0 rfl) (.inl rfl) (Nat.le_of_ble_eq_true rfl) (sqi 3) (fun us w hl h => ⟨ld_rawS hl h, rfl⟩)
 ·exact q_call2W (F := (Fq.is (.slice ao n c)).P) (G := (Fq.is (.int .i64 1)).P) hp (free_of rfl) trivial (enq_R_word) rfl (sqi 4) (sq_const (fun _ => rfl)) (fun v v' w hbw h h' => (by subst h; subst h'; rw [HY.out]; exact exRWord1 (HS.out.mono hbw) HN.out))
 ·exact q_one (F := fun v _ => v = .int .u64 y) hp (free_of rfl) trivial (sqi 5) (fun ρ w hc h => ⟨.int .u64 (y * 4294967296), by simp [execOp, go_sem, h, hc, SH.out], rfl⟩)
 ·exact q_two (F := fun v _ => v = .int .u64 x) (G := fun v _ => v = .int .u64 (y * 4294967296)) hp (free_of rfl) trivial (sqi 2) (sqi 6) (fun ρ w hc h h' => ⟨.int .u64 z, by simp [execOp, go_sem, h, h', OR.out], rfl⟩)
 ·exact q_assign hp (free_of rfl) trivial (sqi 7)
 intro L vs w2 nb hL hC hn E2
 have e0 : vs 0 = .pointer (some ⟨b1, 1, none⟩) := hC 0 (by simp)
 have e1 : vs 1 = .slice ao n c := hC 1 (by simp)
 have e2 : vs 2 = .int .u64 x := hC 2 (by simp)
 have e3 : vs 3 = .pointer (some ⟨b1, 1, none⟩) := hC 3 (by simp)
 have e4 : vs 4 = .slice ao n c := hC 4 (by simp)
 have e5 : vs 5 = .int .u64 y := hC 5 (by simp)
 have e6 : vs 6 = .int .u64 (y * 4294967296) := hC 6 (by simp)
 have e7 : vs 7 = .int .u64 z := hC 7 (by simp)
 have e8 : vs 8 = .int .u64 z := hC 8 (by simp)
 have E : Fr w [(b1, 2, Fq.raw false ao n c xs)] w2 := E2
 rw [lay_all hL]
 simp only [putAll, dstOf, List.length_cons, List.length_nil, Nat.zero_add, Nat.reduceAdd, List.getElem?_toArray, List.getElem?_cons_zero, List.getElem?_cons_succ, Option.bind_some, Act.put, List.setIfInBounds_toArray, List.set_cons_succ, List.set_cons_zero]
 rw [e0, e1, e2, e3, e4, e5, e6, e7, e8]
 clear e0 e1 e2 e3 e4 e5 e6 e7 e8 hC hn E2 hL vs L nb
 obtain ⟨c0, c1⟩ := box_raw1 (E.box 0 rfl)
 have t1 : decide ((n : Int) > 2) = false := by have := HN.out; simp; omega
 have t2 : decide (z > 9223372036854775808) = false := by have := H1.out; simp; omega
 have t3 : (z == 9223372036854775808) = false := by have := H1.out; simp; omega
 have t4 : IntKind.i64.wrap z = z := IntWalk.i64_in _ (by have := H1.out; have := H0.out; omega)
 clear HX HY HS HN HZ SH OR H0 H1
 go_wp2
 refine bodyPost_ret (v := .tuple #[.int .i64 z, .bool true]) ?_ rfl ⟨_, rfl, E.below, _, _, rfl, rfl, rfl⟩
 simp [results, Try.results32, go_sem]

end Go.Proofs.Ytihhlaagndingaa
