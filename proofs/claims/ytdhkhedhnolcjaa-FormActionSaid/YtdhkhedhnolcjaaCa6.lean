/- Uk, Ul. -/
import Derived.Test.YtdhkhedhnolcjaaCa5
namespace Go.Proofs.Ytdhkhedhnolcjaa
open Go Go.RowKit

theorem enq_f_algorist_algoristlaw08_examples (args : Array Value) (w : World) : (callFunc 9 args).run Try.prog w = .ok (.enter 9 args) w := enter_of Try.func9 (by kernel_rfl) rfl args w
theorem redT_eq {a b c p q r s a' b' c' : Int} (ha : ab a < pw 5) (hb : ab b < pw 5) (hc : ab c < pw 5) (h : redE a b c = 0) (hu : Und a b c p q r s a' b' c') (hr : Rdf a' b' c') : (redT a b c).fa = a' ∧ (redT a b c).fb = b' ∧ (redT a b c).fc = c' := by
 obtain ⟨h1, h2⟩ := redT_in ha hb hc h
 exact Und.same hu h1 hr h2
theorem lit5 {z : Int} (h : -9223372036854775808 ≤ z) (h' : z ≤ 9223372036854775807) : ab z < pw 5 := Int.lt_of_lt_of_le (ab_i64 h h') (pw_le (by omega))
theorem red_ex : redE 10 34 29 = 0 ∧ ((redT 10 34 29).fa = 1 ∧ (redT 10 34 29).fb = 0 ∧ (redT 10 34 29).fc = 1) ∧ (redT 10 34 29).x1 * (redT 10 34 29).x4 - (redT 10 34 29).x2 * (redT 10 34 29).x3 = 1 := by
 have h : redE 10 34 29 = 0 := redE_zero (by decide) (by decide)
 have ha : ab (10 : Int) < pw 5 := lit5 (by decide) (by decide)
 have hb : ab (34 : Int) < pw 5 := lit5 (by decide) (by decide)
 have hc : ab (29 : Int) < pw 5 := lit5 (by decide) (by decide)
 exact ⟨h, redT_eq (p := -2) (q := 5) (r := 1) (s := -3) ha hb hc h ⟨by decide, by decide, by decide, by decide⟩ ⟨by decide, by decide, by decide, by decide, by decide⟩, (redT_in ha hb hc h).1.d⟩
theorem inv_ex : redE 2 1 3 = 0 ∧ ((invT 2 1 3).fa = 2 ∧ (invT 2 1 3).fb = -1 ∧ (invT 2 1 3).fc = 3) := by
 have h : redE 2 1 3 = 0 := redE_zero (by decide) (by decide)
 refine ⟨h, ?_⟩
 unfold invT
 rw [if_pos h]
 exact redT_eq (lit5 (by decide) (by decide)) (lit5 (by decide) (by decide)) (lit5 (by decide) (by decide)) (redE_opp h) (Und.one 2 (-1) 3) ⟨by decide, by decide, by decide, by decide, by decide⟩
theorem ind_ex : redE 1 0 (-2) = 5 ∧ redT 1 0 (-2) = ⟨0, 0, 0, 0, 0, 0, 0⟩ := by
 have h : redE 1 0 (-2) = 5 := by decide
 exact ⟨h, redT_no (by rw [h]; decide)⟩
set_option maxRecDepth 100000 in
set_option maxHeartbeats 4000000 in
theorem exEightExamples (w : World) :
  Calls Try.prog 9 #[] w fun e w' => ∃ v', e = .returned v' ∧ Below w.heap.size w w' ∧ v' = .bool true := by
 obtain ⟨S, hS⟩ : ∃ S, S = redT 10 34 29 := ⟨_, rfl⟩
 have hre := red_ex
 rw [← hS] at hre
 have HS := hidd hS
 have HR0 := hidd hre.1
 have HRA := hidd hre.2.1.1
 have HRB := hidd hre.2.1.2.1
 have HRC := hidd hre.2.1.2.2
 have HRD := hidd hre.2.2
 have BS := hidd (redT_RB (a := 10) (b := 34) (c := 29) (lit5 (by decide) (by decide)) (lit5 (by decide) (by decide)) (lit5 (by decide) (by decide)))
 rw [← hS] at BS
 clear hS hre
 go_enter Try.func9, Try.ntmps9
 go_upto_region 1 with (fail)
 have E := Fr.start w
 refine region_fr (C := [Fq.st [.n 2, .n 1, .n 3], Fq.any, Fq.any]) (ks := []) (new := [⟨1, 2, 6, Fq.st [.n 0, .n 0, .n 0], Fq.st [.n 2, .n 1, .n 3], none⟩]) E rfl (by kernel_rfl) rfl rfl (fun hp => ⟨?_, ?_, ?_, trivial⟩) ?_
 ·exact q_call3 (F := (Fq.is (.int .i64 2)).P) (G := (Fq.is (.int .i64 1)).P) (F3 := (Fq.is (.int .i64 3)).P) hp (free_of rfl) trivial (enq_f_algorist_algoristref08_Of) (sq_const (fun _ => rfl)) (sq_const (fun _ => rfl)) (sq_const (fun _ => rfl)) (fun v v' u w h h' g => (by subst h h' g; exact exQOf (by decide) (by decide) (by decide)))
 ·exact q_allocSt (us := [.bool false, .slice none 0 0, .bool false, .slice none 0 0, .bool false, .slice none 0 0]) (fs := [.n 0, .n 0, .n 0]) hp (mq 0 rfl) rfl rfl rfl (Nat.lt_of_sub_eq_succ rfl) rfl fits0_api_Form (fun ρ w => ralloc_api_Form ρ w) rfl (Nat.ne_of_beq_eq_false rfl) (fun _ _ => trivial) (old_ne rfl) (newk_ne rfl)
 ·exact q_storeNewSt (fs := [.n 0, .n 0, .n 0]) (gs := [.n 2, .n 1, .n 3]) hp (mq 0 rfl) rfl rfl rfl rfl size_api_Form rfl (own_ptr rfl rfl (by simp) rfl) (sq_in 0 rfl rfl (by simp) rfl (fun v w h => fitv_st h)) (fun _ _ => trivial) (old_ne rfl) (newi_ne rfl)
 intro L vs w1 nb hL hC hn E1
 have e1 : vs 1 = .pointer (some ⟨nb 1, 0, none⟩) := hn _ (mq 0 rfl)
 have E : Fr w [(nb 1, 6, Fq.st [.n 2, .n 1, .n 3])] w1 := E1
 rw [lay_all hL]
 simp only [putAll, dstOf, List.length_cons, List.length_nil, Nat.zero_add, Nat.reduceAdd, List.getElem?_toArray, List.getElem?_cons_zero, List.getElem?_cons_succ, Option.bind_some, Act.put, List.setIfInBounds_toArray, List.set_cons_succ, List.set_cons_zero]
 rw [e1]
 generalize nb 1 = b1_1 at E ⊢
 generalize vs 0 = u1_0
 clear e1 hC hn E1 hL vs L nb
 go_upto_region 2 with (fail)
 refine region_fr (C := [Fq.st [.n 10, .n 34, .n 29], Fq.tup3 (Fq.st [.n 1, .n 0, .n 1]) (Fq.st [.n S.x1, .n S.x2, .n S.x3, .n S.x4]) (Fq.is (.int .i64 0)), Fq.tup3 (Fq.st [.n 1, .n 0, .n 1]) (Fq.st [.n S.x1, .n S.x2, .n S.x3, .n S.x4]) (Fq.is (.int .i64 0)), Fq.st [.n 1, .n 0, .n 1], Fq.st [.n S.x1, .n S.x2, .n S.x3, .n S.x4], Fq.is (.int .i64 0), Fq.any, Fq.any, Fq.any, Fq.any, Fq.is (.int .i64 0)]) (ks := [none]) (new := [⟨6, 8, 6, Fq.st [.n 0, .n 0, .n 0], Fq.st [.n 1, .n 0, .n 1], none⟩, ⟨7, 9, 8, Fq.st [.n 0, .n 0, .n 0, .n 0], Fq.st [.n S.x1, .n S.x2, .n S.x3, .n S.x4], none⟩]) E rfl (by kernel_rfl) rfl rfl (fun hp => ⟨?_, ?_, ?_, ?_, ?_, ?_, ?_, ?_, ?_, ?_, ?_, trivial⟩) ?_
 ·exact q_call3 (F := (Fq.is (.int .i64 10)).P) (G := (Fq.is (.int .i64 34)).P) (F3 := (Fq.is (.int .i64 29)).P) hp (free_of rfl) trivial (enq_f_algorist_algoristref08_Of) (sq_const (fun _ => rfl)) (sq_const (fun _ => rfl)) (sq_const (fun _ => rfl)) (fun v v' u w h h' g => (by subst h h' g; exact exQOf (by decide) (by decide) (by decide)))
 ·exact q_call1 (F := (Fq.st [.n 10, .n 34, .n 29]).P) hp (free_of rfl) trivial (enq_f_algorist_quadratic_Reduce) (sqi 0) (fun v w h => (by have hh := exPReduce h (lit5 (by decide) (by decide)) (lit5 (by decide) (by decide)) (lit5 (by decide) (by decide)); rw [← HS.out, HR0.out, HRA.out, HRB.out, HRC.out] at hh; exact hh))
 ·exact q_move hp (free_of rfl) trivial (sqi 1)
 ·exact q_extract3 hp (free_of rfl) trivial (sqi 2) (fun v1 v2 v3 w h1 h2 h3 => ⟨_, rfl, h1⟩)
 ·exact q_extract3 hp (free_of rfl) trivial (sqi 2) (fun v1 v2 v3 w h1 h2 h3 => ⟨_, rfl, h2⟩)
 ·exact q_extract3 hp (free_of rfl) trivial (sqi 2) (fun v1 v2 v3 w h1 h2 h3 => ⟨_, rfl, h3⟩)
 ·exact q_allocSt (us := [.bool false, .slice none 0 0, .bool false, .slice none 0 0, .bool false, .slice none 0 0]) (fs := [.n 0, .n 0, .n 0]) hp (mq 0 rfl) rfl rfl rfl (Nat.lt_of_sub_eq_succ rfl) rfl fits0_api_Form (fun ρ w => ralloc_api_Form ρ w) rfl (Nat.ne_of_beq_eq_false rfl) (fun _ _ => trivial) (old_ne rfl) (newk_ne rfl)
 ·exact q_allocSt (us := [.bool false, .slice none 0 0, .bool false, .slice none 0 0, .bool false, .slice none 0 0, .bool false, .slice none 0 0]) (fs := [.n 0, .n 0, .n 0, .n 0]) hp (mq 1 rfl) rfl rfl rfl (Nat.lt_of_sub_eq_succ rfl) rfl fits0_api_Mat (fun ρ w => ralloc_api_Mat ρ w) rfl (Nat.ne_of_beq_eq_false rfl) (fun _ _ => trivial) (old_ne rfl) (newk_ne rfl)
 ·exact q_storeNewSt (fs := [.n 0, .n 0, .n 0]) (gs := [.n 1, .n 0, .n 1]) hp (mq 0 rfl) rfl rfl rfl rfl size_api_Form rfl (own_ptr rfl rfl (by simp) rfl) (sq_in 3 rfl rfl (by simp) rfl (fun v w h => fitv_st h)) (fun _ _ => trivial) (old_ne rfl) (newi_ne rfl)
 ·exact q_storeNewSt (fs := [.n 0, .n 0, .n 0, .n 0]) (gs := [.n S.x1, .n S.x2, .n S.x3, .n S.x4]) hp (mq 1 rfl) rfl rfl rfl rfl size_api_Mat rfl (own_ptr rfl rfl (by simp) rfl) (sq_in 4 rfl rfl (by simp) rfl (fun v w h => fitv_st h)) (fun _ _ => trivial) (old_ne rfl) (newi_ne rfl)
 ·exact q_assign hp (free_of rfl) trivial (sqi 5)
 intro L vs w2 nb hL hC hn E2
 have e5 : vs 5 = .int .i64 0 := hC 5 (by simp)
 have e10 : vs 10 = .int .i64 0 := hC 10 (by simp)
 have e6 : vs 6 = .pointer (some ⟨nb 6, 0, none⟩) := hn _ (mq 0 rfl)
 have e7 : vs 7 = .pointer (some ⟨nb 7, 0, none⟩) := hn _ (mq 1 rfl)
 have E : Fr w [(nb 6, 6, Fq.st [.n 1, .n 0, .n 1]), (nb 7, 8, Fq.st [.n S.x1, .n S.x2, .n S.x3, .n S.x4]), (b1_1, 6, Fq.st [.n 2, .n 1, .n 3])] w2 := E2
 rw [lay_all hL]
 simp only [putAll, dstOf, List.length_cons, List.length_nil, Nat.zero_add, Nat.reduceAdd, List.getElem?_toArray, List.getElem?_cons_zero, List.getElem?_cons_succ, Option.bind_some, Act.put, List.setIfInBounds_toArray, List.set_cons_succ, List.set_cons_zero]
 rw [e5, e10, e6, e7]
 generalize nb 6 = b2_6 at E ⊢
 generalize nb 7 = b2_7 at E ⊢
 generalize vs 0 = u2_0
 generalize vs 1 = u2_1
 generalize vs 2 = u2_2
 generalize vs 3 = u2_3
 generalize vs 4 = u2_4
 clear e5 e10 e6 e7 hC hn E2 hL vs L nb
 go_upto_region 3 with (fail)
 refine region_fr (C := [Fq.st [.n 2, .n 1, .n 3], Fq.tup2 (Fq.st [.n 2, .n (-1), .n 3]) (Fq.is (.int .i64 0)), Fq.tup2 (Fq.st [.n 2, .n (-1), .n 3]) (Fq.is (.int .i64 0)), Fq.st [.n 2, .n (-1), .n 3], Fq.is (.int .i64 0), Fq.any, Fq.any, Fq.is (.int .i64 0)]) (ks := [none, none, none]) (new := [⟨5, 6, 6, Fq.st [.n 0, .n 0, .n 0], Fq.st [.n 2, .n (-1), .n 3], none⟩]) E rfl (by kernel_rfl) rfl rfl (fun hp => ⟨?_, ?_, ?_, ?_, ?_, ?_, ?_, ?_, trivial⟩) ?_
 ·exact q_loadSt (off := 0) (l := 6) (fs := [.n 2, .n 1, .n 3]) (gs := [.n 2, .n 1, .n 3]) hp (free_of rfl) trivial (mq 2 rfl) (.inl rfl) rfl row_api_Form rfl (sqo 1) (fun v w h => h)
 ·exact q_call1 (F := (Fq.st [.n 2, .n 1, .n 3]).P) hp (free_of rfl) trivial (enq_f_algorist_quadratic_Inverse) (sqi 0) (fun v w h => (by have hh := exPInverseT h (lit5 (by decide) (by decide)) (lit5 (by decide) (by decide)) (lit5 (by decide) (by decide)); rw [inv_ex.1, inv_ex.2.1, inv_ex.2.2.1, inv_ex.2.2.2] at hh; exact hh))
 ·exact q_move hp (free_of rfl) trivial (sqi 1)
 ·exact q_extract2 hp (free_of rfl) trivial (sqi 2) (fun v1 v2 w h1 h2 => ⟨_, rfl, h1⟩)
 ·exact q_extract2 hp (free_of rfl) trivial (sqi 2) (fun v1 v2 w h1 h2 => ⟨_, rfl, h2⟩)
 ·exact q_allocSt (us := [.bool false, .slice none 0 0, .bool false, .slice none 0 0, .bool false, .slice none 0 0]) (fs := [.n 0, .n 0, .n 0]) hp (mq 0 rfl) rfl rfl rfl (Nat.lt_of_sub_eq_succ rfl) rfl fits0_api_Form (fun ρ w => ralloc_api_Form ρ w) rfl (Nat.ne_of_beq_eq_false rfl) (fun _ _ => trivial) (old_ne rfl) (newk_ne rfl)
 ·exact q_storeNewSt (fs := [.n 0, .n 0, .n 0]) (gs := [.n 2, .n (-1), .n 3]) hp (mq 0 rfl) rfl rfl rfl rfl size_api_Form rfl (own_ptr rfl rfl (by simp) rfl) (sq_in 3 rfl rfl (by simp) rfl (fun v w h => fitv_st h)) (fun _ _ => trivial) (old_ne rfl) (newi_ne rfl)
 ·exact q_assign hp (free_of rfl) trivial (sqi 4)
 intro L vs w3 nb hL hC hn E3
 have e4 : vs 4 = .int .i64 0 := hC 4 (by simp)
 have e7 : vs 7 = .int .i64 0 := hC 7 (by simp)
 have e5 : vs 5 = .pointer (some ⟨nb 5, 0, none⟩) := hn _ (mq 0 rfl)
 have E : Fr w [(nb 5, 6, Fq.st [.n 2, .n (-1), .n 3]), (b2_6, 6, Fq.st [.n 1, .n 0, .n 1]), (b2_7, 8, Fq.st [.n S.x1, .n S.x2, .n S.x3, .n S.x4]), (b1_1, 6, Fq.st [.n 2, .n 1, .n 3])] w3 := E3
 rw [lay_all hL]
 simp only [putAll, dstOf, List.length_cons, List.length_nil, Nat.zero_add, Nat.reduceAdd, List.getElem?_toArray, List.getElem?_cons_zero, List.getElem?_cons_succ, Option.bind_some, Act.put, List.setIfInBounds_toArray, List.set_cons_succ, List.set_cons_zero]
 rw [e4, e7, e5]
 generalize nb 5 = b3_5 at E ⊢
 generalize vs 0 = u3_0
 generalize vs 1 = u3_1
 generalize vs 2 = u3_2
 generalize vs 3 = u3_3
 clear e4 e7 e5 hC hn E3 hL vs L nb
 go_upto_region 4 with (fail)
 have B4 : Hid (ab ((-23)) < pw 3) := ab_lit (by decide)
 refine region_fr (C := [Fq.num (-23), Fq.tup2 (Fq.st [.n 1, .n 1, .n 6]) (Fq.is (.int .i64 0)), Fq.tup2 (Fq.st [.n 1, .n 1, .n 6]) (Fq.is (.int .i64 0)), Fq.st [.n 1, .n 1, .n 6], Fq.is (.int .i64 0), Fq.any, Fq.any, Fq.is (.int .i64 0)]) (ks := [none, none, none, none]) (new := [⟨5, 6, 6, Fq.st [.n 0, .n 0, .n 0], Fq.st [.n 1, .n 1, .n 6], none⟩]) E rfl (by kernel_rfl) rfl rfl (fun hp => ⟨?_, ?_, ?_, ?_, ?_, ?_, ?_, ?_, trivial⟩) ?_
 ·exact q_call1 (F := (Fq.is (.int .i64 (-23))).P) hp (free_of rfl) trivial (enq_R_Of) (sq_const (fun _ => rfl)) (fun v w h => (by subst h; exact rOfK w (-23) (by omega) (by omega)))
 ·exact q_call1 (F := (Fq.num (-23)).P) hp (free_of rfl) trivial (enq_f_algorist_quadratic_Principal) (sqi 0) (fun v w h => (by have hh := exPPrinc_ok h (Int.lt_of_lt_of_le B4.out (pw_le (by omega))) (by decide) (by decide); rw [show ((-23 : Int) % 4) = 1 by decide, show (-((-23 : Int) / 4)) = 6 by decide] at hh; exact hh))
 ·exact q_move hp (free_of rfl) trivial (sqi 1)
 ·exact q_extract2 hp (free_of rfl) trivial (sqi 2) (fun v1 v2 w h1 h2 => ⟨_, rfl, h1⟩)
 ·exact q_extract2 hp (free_of rfl) trivial (sqi 2) (fun v1 v2 w h1 h2 => ⟨_, rfl, h2⟩)
 ·exact q_allocSt (us := [.bool false, .slice none 0 0, .bool false, .slice none 0 0, .bool false, .slice none 0 0]) (fs := [.n 0, .n 0, .n 0]) hp (mq 0 rfl) rfl rfl rfl (Nat.lt_of_sub_eq_succ rfl) rfl fits0_api_Form (fun ρ w => ralloc_api_Form ρ w) rfl (Nat.ne_of_beq_eq_false rfl) (fun _ _ => trivial) (old_ne rfl) (newk_ne rfl)
 ·exact q_storeNewSt (fs := [.n 0, .n 0, .n 0]) (gs := [.n 1, .n 1, .n 6]) hp (mq 0 rfl) rfl rfl rfl rfl size_api_Form rfl (own_ptr rfl rfl (by simp) rfl) (sq_in 3 rfl rfl (by simp) rfl (fun v w h => fitv_st h)) (fun _ _ => trivial) (old_ne rfl) (newi_ne rfl)
 ·exact q_assign hp (free_of rfl) trivial (sqi 4)
 intro L vs w5 nb hL hC hn E5
 have e4 : vs 4 = .int .i64 0 := hC 4 (by simp)
 have e7 : vs 7 = .int .i64 0 := hC 7 (by simp)
 have e5 : vs 5 = .pointer (some ⟨nb 5, 0, none⟩) := hn _ (mq 0 rfl)
 have E : Fr w [(nb 5, 6, Fq.st [.n 1, .n 1, .n 6]), (b3_5, 6, Fq.st [.n 2, .n (-1), .n 3]), (b2_6, 6, Fq.st [.n 1, .n 0, .n 1]), (b2_7, 8, Fq.st [.n S.x1, .n S.x2, .n S.x3, .n S.x4]), (b1_1, 6, Fq.st [.n 2, .n 1, .n 3])] w5 := E5
 rw [lay_all hL]
 simp only [putAll, dstOf, List.length_cons, List.length_nil, Nat.zero_add, Nat.reduceAdd, List.getElem?_toArray, List.getElem?_cons_zero, List.getElem?_cons_succ, Option.bind_some, Act.put, List.setIfInBounds_toArray, List.set_cons_succ, List.set_cons_zero]
 rw [e4, e7, e5]
 generalize nb 5 = b5_5 at E ⊢
 generalize vs 0 = u5_0
 generalize vs 1 = u5_1
 generalize vs 2 = u5_2
 generalize vs 3 = u5_3
 clear e4 e7 e5 hC hn E5 hL vs L nb
 go_upto_region 5 with (fail)
 have B6 : Hid (ab ((-20)) < pw 3) := ab_lit (by decide)
 refine region_fr (C := [Fq.num (-20), Fq.tup2 (Fq.st [.n 1, .n 0, .n 5]) (Fq.is (.int .i64 0)), Fq.tup2 (Fq.st [.n 1, .n 0, .n 5]) (Fq.is (.int .i64 0)), Fq.st [.n 1, .n 0, .n 5], Fq.is (.int .i64 0), Fq.any, Fq.any, Fq.is (.int .i64 0)]) (ks := [none, none, none, none, none]) (new := [⟨5, 6, 6, Fq.st [.n 0, .n 0, .n 0], Fq.st [.n 1, .n 0, .n 5], none⟩]) E rfl (by kernel_rfl) rfl rfl (fun hp => ⟨?_, ?_, ?_, ?_, ?_, ?_, ?_, ?_, trivial⟩) ?_
 ·exact q_call1 (F := (Fq.is (.int .i64 (-20))).P) hp (free_of rfl) trivial (enq_R_Of) (sq_const (fun _ => rfl)) (fun v w h => (by subst h; exact rOfK w (-20) (by omega) (by omega)))
 ·exact q_call1 (F := (Fq.num (-20)).P) hp (free_of rfl) trivial (enq_f_algorist_quadratic_Principal) (sqi 0) (fun v w h => (by have hh := exPPrinc_ok h (Int.lt_of_lt_of_le B6.out (pw_le (by omega))) (by decide) (by decide); rw [show ((-20 : Int) % 4) = 0 by decide, show (-((-20 : Int) / 4)) = 5 by decide] at hh; exact hh))
 ·exact q_move hp (free_of rfl) trivial (sqi 1)
 ·exact q_extract2 hp (free_of rfl) trivial (sqi 2) (fun v1 v2 w h1 h2 => ⟨_, rfl, h1⟩)
 ·exact q_extract2 hp (free_of rfl) trivial (sqi 2) (fun v1 v2 w h1 h2 => ⟨_, rfl, h2⟩)
 ·exact q_allocSt (us := [.bool false, .slice none 0 0, .bool false, .slice none 0 0, .bool false, .slice none 0 0]) (fs := [.n 0, .n 0, .n 0]) hp (mq 0 rfl) rfl rfl rfl (Nat.lt_of_sub_eq_succ rfl) rfl fits0_api_Form (fun ρ w => ralloc_api_Form ρ w) rfl (Nat.ne_of_beq_eq_false rfl) (fun _ _ => trivial) (old_ne rfl) (newk_ne rfl)
 ·exact q_storeNewSt (fs := [.n 0, .n 0, .n 0]) (gs := [.n 1, .n 0, .n 5]) hp (mq 0 rfl) rfl rfl rfl rfl size_api_Form rfl (own_ptr rfl rfl (by simp) rfl) (sq_in 3 rfl rfl (by simp) rfl (fun v w h => fitv_st h)) (fun _ _ => trivial) (old_ne rfl) (newi_ne rfl)
 ·exact q_assign hp (free_of rfl) trivial (sqi 4)
 intro L vs w7 nb hL hC hn E7
 have e4 : vs 4 = .int .i64 0 := hC 4 (by simp)
 have e7 : vs 7 = .int .i64 0 := hC 7 (by simp)
 have e5 : vs 5 = .pointer (some ⟨nb 5, 0, none⟩) := hn _ (mq 0 rfl)
 have E : Fr w [(nb 5, 6, Fq.st [.n 1, .n 0, .n 5]), (b5_5, 6, Fq.st [.n 1, .n 1, .n 6]), (b3_5, 6, Fq.st [.n 2, .n (-1), .n 3]), (b2_6, 6, Fq.st [.n 1, .n 0, .n 1]), (b2_7, 8, Fq.st [.n S.x1, .n S.x2, .n S.x3, .n S.x4]), (b1_1, 6, Fq.st [.n 2, .n 1, .n 3])] w7 := E7
 rw [lay_all hL]
 simp only [putAll, dstOf, List.length_cons, List.length_nil, Nat.zero_add, Nat.reduceAdd, List.getElem?_toArray, List.getElem?_cons_zero, List.getElem?_cons_succ, Option.bind_some, Act.put, List.setIfInBounds_toArray, List.set_cons_succ, List.set_cons_zero]
 rw [e4, e7, e5]
 generalize nb 5 = b7_5 at E ⊢
 generalize vs 0 = u7_0
 generalize vs 1 = u7_1
 generalize vs 2 = u7_2
 generalize vs 3 = u7_3
 clear e4 e7 e5 hC hn E7 hL vs L nb
 go_upto_region 6 with (fail)
 have B8 : Hid (ab ((9)) < pw 3) := ab_lit (by decide)
 refine region_fr (C := [Fq.num (9), Fq.tup2 (Fq.st [.n 0, .n 0, .n 0]) (Fq.is (.int .i64 5)), Fq.tup2 (Fq.st [.n 0, .n 0, .n 0]) (Fq.is (.int .i64 5)), Fq.st [.n 0, .n 0, .n 0], Fq.is (.int .i64 5), Fq.any, Fq.any, Fq.is (.int .i64 5)]) (ks := [none, none, none, none, none, none]) (new := [⟨5, 6, 6, Fq.st [.n 0, .n 0, .n 0], Fq.st [.n 0, .n 0, .n 0], none⟩]) E rfl (by kernel_rfl) rfl rfl (fun hp => ⟨?_, ?_, ?_, ?_, ?_, ?_, ?_, ?_, trivial⟩) ?_
 ·exact q_call1 (F := (Fq.is (.int .i64 9)).P) hp (free_of rfl) trivial (enq_R_Of) (sq_const (fun _ => rfl)) (fun v w h => (by subst h; exact rOfK w (9) (by omega) (by omega)))
 ·exact q_call1 (F := (Fq.num (9)).P) hp (free_of rfl) trivial (enq_f_algorist_quadratic_Principal) (sqi 0) (fun v w h => exPPrinc_s h (Int.lt_of_lt_of_le B8.out (pw_le (by omega))) (by decide) (by decide))
 ·exact q_move hp (free_of rfl) trivial (sqi 1)
 ·exact q_extract2 hp (free_of rfl) trivial (sqi 2) (fun v1 v2 w h1 h2 => ⟨_, rfl, h1⟩)
 ·exact q_extract2 hp (free_of rfl) trivial (sqi 2) (fun v1 v2 w h1 h2 => ⟨_, rfl, h2⟩)
 ·exact q_allocSt (us := [.bool false, .slice none 0 0, .bool false, .slice none 0 0, .bool false, .slice none 0 0]) (fs := [.n 0, .n 0, .n 0]) hp (mq 0 rfl) rfl rfl rfl (Nat.lt_of_sub_eq_succ rfl) rfl fits0_api_Form (fun ρ w => ralloc_api_Form ρ w) rfl (Nat.ne_of_beq_eq_false rfl) (fun _ _ => trivial) (old_ne rfl) (newk_ne rfl)
 ·exact q_storeNewSt (fs := [.n 0, .n 0, .n 0]) (gs := [.n 0, .n 0, .n 0]) hp (mq 0 rfl) rfl rfl rfl rfl size_api_Form rfl (own_ptr rfl rfl (by simp) rfl) (sq_in 3 rfl rfl (by simp) rfl (fun v w h => fitv_st h)) (fun _ _ => trivial) (old_ne rfl) (newi_ne rfl)
 ·exact q_assign hp (free_of rfl) trivial (sqi 4)
 intro L vs w9 nb hL hC hn E9
 have e4 : vs 4 = .int .i64 5 := hC 4 (by simp)
 have e7 : vs 7 = .int .i64 5 := hC 7 (by simp)
 have e5 : vs 5 = .pointer (some ⟨nb 5, 0, none⟩) := hn _ (mq 0 rfl)
 have E : Fr w [(nb 5, 6, Fq.st [.n 0, .n 0, .n 0]), (b7_5, 6, Fq.st [.n 1, .n 0, .n 5]), (b5_5, 6, Fq.st [.n 1, .n 1, .n 6]), (b3_5, 6, Fq.st [.n 2, .n (-1), .n 3]), (b2_6, 6, Fq.st [.n 1, .n 0, .n 1]), (b2_7, 8, Fq.st [.n S.x1, .n S.x2, .n S.x3, .n S.x4]), (b1_1, 6, Fq.st [.n 2, .n 1, .n 3])] w9 := E9
 rw [lay_all hL]
 simp only [putAll, dstOf, List.length_cons, List.length_nil, Nat.zero_add, Nat.reduceAdd, List.getElem?_toArray, List.getElem?_cons_zero, List.getElem?_cons_succ, Option.bind_some, Act.put, List.setIfInBounds_toArray, List.set_cons_succ, List.set_cons_zero]
 rw [e4, e7, e5]
 generalize nb 5 = b9_5 at E ⊢
 generalize vs 0 = u9_0
 generalize vs 1 = u9_1
 generalize vs 2 = u9_2
 generalize vs 3 = u9_3
 clear e4 e7 e5 hC hn E9 hL vs L nb
 go_upto_region 7 with (fail)
 refine region_fr (C := [Fq.st [.n 1, .n 0, .n (-2)], Fq.tup3 (Fq.st [.n 0, .n 0, .n 0]) (Fq.st [.n 0, .n 0, .n 0, .n 0]) (Fq.is (.int .i64 5)), Fq.tup3 (Fq.st [.n 0, .n 0, .n 0]) (Fq.st [.n 0, .n 0, .n 0, .n 0]) (Fq.is (.int .i64 5)), Fq.st [.n 0, .n 0, .n 0], Fq.st [.n 0, .n 0, .n 0, .n 0], Fq.is (.int .i64 5), Fq.any, Fq.any, Fq.any, Fq.any, Fq.is (.int .i64 5)]) (ks := [none, none, none, none, none, none, none]) (new := [⟨6, 8, 6, Fq.st [.n 0, .n 0, .n 0], Fq.st [.n 0, .n 0, .n 0], none⟩, ⟨7, 9, 8, Fq.st [.n 0, .n 0, .n 0, .n 0], Fq.st [.n 0, .n 0, .n 0, .n 0], none⟩]) E rfl (by kernel_rfl) rfl rfl (fun hp => ⟨?_, ?_, ?_, ?_, ?_, ?_, ?_, ?_, ?_, ?_, ?_, trivial⟩) ?_
 ·exact q_call3 (F := (Fq.is (.int .i64 1)).P) (G := (Fq.is (.int .i64 0)).P) (F3 := (Fq.is (.int .i64 (-2))).P) hp (free_of rfl) trivial (enq_f_algorist_algoristref08_Of) (sq_const (fun _ => rfl)) (sq_const (fun _ => rfl)) (sq_const (fun _ => rfl)) (fun v v' u w h h' g => (by subst h h' g; exact exQOf (by decide) (by decide) (by decide)))
 ·exact q_call1 (F := (Fq.st [.n 1, .n 0, .n (-2)]).P) hp (free_of rfl) trivial (enq_f_algorist_quadratic_Reduce) (sqi 0) (fun v w h => (by have hh := exPReduce h (lit5 (by decide) (by decide)) (lit5 (by decide) (by decide)) (lit5 (by decide) (by decide)); rw [ind_ex.1, ind_ex.2] at hh; exact hh))
 ·exact q_move hp (free_of rfl) trivial (sqi 1)
 ·exact q_extract3 hp (free_of rfl) trivial (sqi 2) (fun v1 v2 v3 w h1 h2 h3 => ⟨_, rfl, h1⟩)
 ·exact q_extract3 hp (free_of rfl) trivial (sqi 2) (fun v1 v2 v3 w h1 h2 h3 => ⟨_, rfl, h2⟩)
 ·exact q_extract3 hp (free_of rfl) trivial (sqi 2) (fun v1 v2 v3 w h1 h2 h3 => ⟨_, rfl, h3⟩)
 ·exact q_allocSt (us := [.bool false, .slice none 0 0, .bool false, .slice none 0 0, .bool false, .slice none 0 0]) (fs := [.n 0, .n 0, .n 0]) hp (mq 0 rfl) rfl rfl rfl (Nat.lt_of_sub_eq_succ rfl) rfl fits0_api_Form (fun ρ w => ralloc_api_Form ρ w) rfl (Nat.ne_of_beq_eq_false rfl) (fun _ _ => trivial) (old_ne rfl) (newk_ne rfl)
 ·exact q_allocSt (us := [.bool false, .slice none 0 0, .bool false, .slice none 0 0, .bool false, .slice none 0 0, .bool false, .slice none 0 0]) (fs := [.n 0, .n 0, .n 0, .n 0]) hp (mq 1 rfl) rfl rfl rfl (Nat.lt_of_sub_eq_succ rfl) rfl fits0_api_Mat (fun ρ w => ralloc_api_Mat ρ w) rfl (Nat.ne_of_beq_eq_false rfl) (fun _ _ => trivial) (old_ne rfl) (newk_ne rfl)
 ·exact q_storeNewSt (fs := [.n 0, .n 0, .n 0]) (gs := [.n 0, .n 0, .n 0]) hp (mq 0 rfl) rfl rfl rfl rfl size_api_Form rfl (own_ptr rfl rfl (by simp) rfl) (sq_in 3 rfl rfl (by simp) rfl (fun v w h => fitv_st h)) (fun _ _ => trivial) (old_ne rfl) (newi_ne rfl)
 ·exact q_storeNewSt (fs := [.n 0, .n 0, .n 0, .n 0]) (gs := [.n 0, .n 0, .n 0, .n 0]) hp (mq 1 rfl) rfl rfl rfl rfl size_api_Mat rfl (own_ptr rfl rfl (by simp) rfl) (sq_in 4 rfl rfl (by simp) rfl (fun v w h => fitv_st h)) (fun _ _ => trivial) (old_ne rfl) (newi_ne rfl)
 ·exact q_assign hp (free_of rfl) trivial (sqi 5)
 intro L vs w10 nb hL hC hn E10
 have e5 : vs 5 = .int .i64 5 := hC 5 (by simp)
 have e10 : vs 10 = .int .i64 5 := hC 10 (by simp)
 have e6 : vs 6 = .pointer (some ⟨nb 6, 0, none⟩) := hn _ (mq 0 rfl)
 have e7 : vs 7 = .pointer (some ⟨nb 7, 0, none⟩) := hn _ (mq 1 rfl)
 have E : Fr w [(nb 6, 6, Fq.st [.n 0, .n 0, .n 0]), (nb 7, 8, Fq.st [.n 0, .n 0, .n 0, .n 0]), (b9_5, 6, Fq.st [.n 0, .n 0, .n 0]), (b7_5, 6, Fq.st [.n 1, .n 0, .n 5]), (b5_5, 6, Fq.st [.n 1, .n 1, .n 6]), (b3_5, 6, Fq.st [.n 2, .n (-1), .n 3]), (b2_6, 6, Fq.st [.n 1, .n 0, .n 1]), (b2_7, 8, Fq.st [.n S.x1, .n S.x2, .n S.x3, .n S.x4]), (b1_1, 6, Fq.st [.n 2, .n 1, .n 3])] w10 := E10
 rw [lay_all hL]
 simp only [putAll, dstOf, List.length_cons, List.length_nil, Nat.zero_add, Nat.reduceAdd, List.getElem?_toArray, List.getElem?_cons_zero, List.getElem?_cons_succ, Option.bind_some, Act.put, List.setIfInBounds_toArray, List.set_cons_succ, List.set_cons_zero]
 rw [e5, e10, e6, e7]
 generalize nb 6 = b10_6 at E ⊢
 generalize nb 7 = b10_7 at E ⊢
 generalize vs 0 = u10_0
 generalize vs 1 = u10_1
 generalize vs 2 = u10_2
 generalize vs 3 = u10_3
 generalize vs 4 = u10_4
 clear e5 e10 e6 e7 hC hn E10 hL vs L nb
 go_upto_region 8 with (fail)
 refine region_fr (C := [Fq.is (.int .i64 0), Fq.is (.bool false), Fq.is (.bool false), Fq.is (.int .i64 0), Fq.is (.bool false), Fq.is (.bool false), Fq.is (.bool false), Fq.is (.int .i64 0), Fq.is (.bool false), Fq.is (.bool false), Fq.is (.bool false), Fq.is (.int .i64 0), Fq.is (.bool false), Fq.is (.bool false), Fq.is (.bool false), Fq.is (.int .i64 5), Fq.is (.bool false), Fq.is (.bool false), Fq.is (.bool false), Fq.is (.int .i64 5), Fq.is (.bool false), Fq.is (.bool false), Fq.is (.bool false), Fq.st [.n (-1), .n 0, .n (-1)], Fq.is (.int .i64 1), Fq.is (.bool false), Fq.is (.bool false), Fq.is (.bool false), Fq.st [.n 2, .n 1, .n 3], Fq.is (.int .i64 0), Fq.is (.bool false), Fq.is (.bool false)]) (ks := [none, none, none, none, none, none, none, none, none]) (new := []) E rfl (by kernel_rfl) rfl rfl (fun hp => ⟨?_, ?_, ?_, ?_, ?_, ?_, ?_, ?_, ?_, ?_, ?_, ?_, ?_, ?_, ?_, ?_, ?_, ?_, ?_, ?_, ?_, ?_, ?_, ?_, ?_, ?_, ?_, ?_, ?_, ?_, ?_, ?_, trivial⟩) ?_
 ·exact q_move hp (free_of rfl) trivial (sqo 4)
 ·exact q_one (F := fun v _ => v = .int .i64 0) hp (free_of rfl) trivial (sqi 0) (fun ρ w hc h => ⟨.bool false, by simp [execOp, go_sem, h, hc], rfl⟩)
 ·exact q_move hp (free_of rfl) trivial (sqi 1)
 ·exact q_move hp (free_of rfl) gqi (sqo 6)
 ·exact q_one (F := fun v _ => v = .int .i64 0) hp (free_of rfl) gqi (sqi 3) (fun ρ w hc h => ⟨.bool false, by simp [execOp, go_sem, h, hc], rfl⟩)
 ·exact q_two (F := fun v _ => v = .bool false) (G := fun v _ => v = .bool false) hp (free_of rfl) trivial (sqi 2) (sqi 4) (fun ρ w hc h h' => ⟨_, by simp [execOp, go_sem, h, h'], rfl⟩)
 ·exact q_move hp (free_of rfl) trivial (sqi 5)
 ·exact q_move hp (free_of rfl) gqi (sqo 8)
 ·exact q_one (F := fun v _ => v = .int .i64 0) hp (free_of rfl) gqi (sqi 7) (fun ρ w hc h => ⟨.bool false, by simp [execOp, go_sem, h, hc], rfl⟩)
 ·exact q_two (F := fun v _ => v = .bool false) (G := fun v _ => v = .bool false) hp (free_of rfl) trivial (sqi 6) (sqi 8) (fun ρ w hc h h' => ⟨_, by simp [execOp, go_sem, h, h'], rfl⟩)
 ·exact q_move hp (free_of rfl) trivial (sqi 9)
 ·exact q_move hp (free_of rfl) gqi (sqo 10)
 ·exact q_one (F := fun v _ => v = .int .i64 0) hp (free_of rfl) gqi (sqi 11) (fun ρ w hc h => ⟨.bool false, by simp [execOp, go_sem, h, hc], rfl⟩)
 ·exact q_two (F := fun v _ => v = .bool false) (G := fun v _ => v = .bool false) hp (free_of rfl) trivial (sqi 10) (sqi 12) (fun ρ w hc h h' => ⟨_, by simp [execOp, go_sem, h, h'], rfl⟩)
 ·exact q_move hp (free_of rfl) trivial (sqi 13)
 ·exact q_move hp (free_of rfl) gqi (sqo 12)
 ·exact q_one (F := fun v _ => v = .int .i64 5) hp (free_of rfl) gqi (sqi 15) (fun ρ w hc h => ⟨.bool false, by simp [execOp, go_sem, h, hc], rfl⟩)
 ·exact q_two (F := fun v _ => v = .bool false) (G := fun v _ => v = .bool false) hp (free_of rfl) trivial (sqi 14) (sqi 16) (fun ρ w hc h h' => ⟨_, by simp [execOp, go_sem, h, h'], rfl⟩)
 ·exact q_move hp (free_of rfl) trivial (sqi 17)
 ·exact q_move hp (free_of rfl) gqi (sqo 15)
 ·exact q_one (F := fun v _ => v = .int .i64 5) hp (free_of rfl) gqi (sqi 19) (fun ρ w hc h => ⟨.bool false, by simp [execOp, go_sem, h, hc], rfl⟩)
 ·exact q_two (F := fun v _ => v = .bool false) (G := fun v _ => v = .bool false) hp (free_of rfl) trivial (sqi 18) (sqi 20) (fun ρ w hc h h' => ⟨_, by simp [execOp, go_sem, h, h'], rfl⟩)
 ·exact q_move hp (free_of rfl) trivial (sqi 21)
 ·exact q_call3 (F := (Fq.is (.int .i64 (-1))).P) (G := (Fq.is (.int .i64 0)).P) (F3 := (Fq.is (.int .i64 (-1))).P) hp (free_of rfl) gqi (enq_f_algorist_algoristref08_Of) (sq_const (fun _ => rfl)) (sq_const (fun _ => rfl)) (sq_const (fun _ => rfl)) (fun v v' u w h h' g => (by subst h h' g; exact exQOf (by decide) (by decide) (by decide)))
 ·exact q_call1 (F := (Fq.st [.n (-1), .n 0, .n (-1)]).P) hp (free_of rfl) gqi (enq_f_algorist_quadratic_Check) (sqi 23) (fun v w h => exPCheck h (Int.lt_of_lt_of_le (ab_i64 (by decide) (by decide)) (pw_le (by omega))) (Int.lt_of_lt_of_le (ab_i64 (by decide) (by decide)) (pw_le (by omega))) (Int.lt_of_lt_of_le (ab_i64 (by decide) (by decide)) (pw_le (by omega))) (by decide))
 ·exact q_one (F := fun v _ => v = .int .i64 1) hp (free_of rfl) gqi (sqi 24) (fun ρ w hc h => ⟨.bool false, by simp [execOp, go_sem, h, hc], rfl⟩)
 ·exact q_two (F := fun v _ => v = .bool false) (G := fun v _ => v = .bool false) hp (free_of rfl) trivial (sqi 22) (sqi 25) (fun ρ w hc h h' => ⟨_, by simp [execOp, go_sem, h, h'], rfl⟩)
 ·exact q_move hp (free_of rfl) trivial (sqi 26)
 ·exact q_loadSt (off := 0) (l := 6) (fs := [.n 2, .n 1, .n 3]) (gs := [.n 2, .n 1, .n 3]) hp (free_of rfl) gqi (mq 8 rfl) (.inl rfl) rfl row_api_Form rfl (sqo 1) (fun v w h => h)
 ·exact q_call1 (F := (Fq.st [.n 2, .n 1, .n 3]).P) hp (free_of rfl) gqi (enq_f_algorist_quadratic_Check) (sqi 28) (fun v w h => exPCheck h (Int.lt_of_lt_of_le (ab_i64 (by decide) (by decide)) (pw_le (by omega))) (Int.lt_of_lt_of_le (ab_i64 (by decide) (by decide)) (pw_le (by omega))) (Int.lt_of_lt_of_le (ab_i64 (by decide) (by decide)) (pw_le (by omega))) (by decide))
 ·exact q_one (F := fun v _ => v = .int .i64 0) hp (free_of rfl) gqi (sqi 29) (fun ρ w hc h => ⟨.bool false, by simp [execOp, go_sem, h, hc], rfl⟩)
 ·exact q_two (F := fun v _ => v = .bool false) (G := fun v _ => v = .bool false) hp (free_of rfl) trivial (sqi 27) (sqi 30) (fun ρ w hc h h' => ⟨_, by simp [execOp, go_sem, h, h'], rfl⟩)
 intro L vs w11 nb hL hC hn E11
 have e0 : vs 0 = .int .i64 0 := hC 0 (by simp)
 have e1 : vs 1 = .bool false := hC 1 (by simp)
 have e2 : vs 2 = .bool false := hC 2 (by simp)
 have e3 : vs 3 = .int .i64 0 := hC 3 (by simp)
 have e4 : vs 4 = .bool false := hC 4 (by simp)
 have e5 : vs 5 = .bool false := hC 5 (by simp)
 have e6 : vs 6 = .bool false := hC 6 (by simp)
 have e7 : vs 7 = .int .i64 0 := hC 7 (by simp)
 have e8 : vs 8 = .bool false := hC 8 (by simp)
 have e9 : vs 9 = .bool false := hC 9 (by simp)
 have e10 : vs 10 = .bool false := hC 10 (by simp)
 have e11 : vs 11 = .int .i64 0 := hC 11 (by simp)
 have e12 : vs 12 = .bool false := hC 12 (by simp)
 have e13 : vs 13 = .bool false := hC 13 (by simp)
 have e14 : vs 14 = .bool false := hC 14 (by simp)
 have e15 : vs 15 = .int .i64 5 := hC 15 (by simp)
 have e16 : vs 16 = .bool false := hC 16 (by simp)
 have e17 : vs 17 = .bool false := hC 17 (by simp)
 have e18 : vs 18 = .bool false := hC 18 (by simp)
 have e19 : vs 19 = .int .i64 5 := hC 19 (by simp)
 have e20 : vs 20 = .bool false := hC 20 (by simp)
 have e21 : vs 21 = .bool false := hC 21 (by simp)
 have e22 : vs 22 = .bool false := hC 22 (by simp)
 have e24 : vs 24 = .int .i64 1 := hC 24 (by simp)
 have e25 : vs 25 = .bool false := hC 25 (by simp)
 have e26 : vs 26 = .bool false := hC 26 (by simp)
 have e27 : vs 27 = .bool false := hC 27 (by simp)
 have e29 : vs 29 = .int .i64 0 := hC 29 (by simp)
 have e30 : vs 30 = .bool false := hC 30 (by simp)
 have e31 : vs 31 = .bool false := hC 31 (by simp)
 have E : Fr w [(b10_6, 6, Fq.st [.n 0, .n 0, .n 0]), (b10_7, 8, Fq.st [.n 0, .n 0, .n 0, .n 0]), (b9_5, 6, Fq.st [.n 0, .n 0, .n 0]), (b7_5, 6, Fq.st [.n 1, .n 0, .n 5]), (b5_5, 6, Fq.st [.n 1, .n 1, .n 6]), (b3_5, 6, Fq.st [.n 2, .n (-1), .n 3]), (b2_6, 6, Fq.st [.n 1, .n 0, .n 1]), (b2_7, 8, Fq.st [.n S.x1, .n S.x2, .n S.x3, .n S.x4]), (b1_1, 6, Fq.st [.n 2, .n 1, .n 3])] w11 := E11
 rw [lay_all hL]
 simp only [putAll, dstOf, List.length_cons, List.length_nil, Nat.zero_add, Nat.reduceAdd, List.getElem?_toArray, List.getElem?_cons_zero, List.getElem?_cons_succ, Option.bind_some, Act.put, List.setIfInBounds_toArray, List.set_cons_succ, List.set_cons_zero]
 rw [e0, e1, e2, e3, e4, e5, e6, e7, e8, e9, e10, e11, e12, e13, e14, e15, e16, e17, e18, e19, e20, e21, e22, e24, e25, e26, e27, e29, e30, e31]
 generalize vs 23 = u11_23
 generalize vs 28 = u11_28
 clear e0 e1 e2 e3 e4 e5 e6 e7 e8 e9 e10 e11 e12 e13 e14 e15 e16 e17 e18 e19 e20 e21 e22 e24 e25 e26 e27 e29 e30 e31 hC hn E11 hL vs L nb
 go_upto_region 10 with (fail)
 have B12 : Hid (ab ((1)) < pw 3) := ab_lit (by decide)
 refine region_fr (C := [Fq.st [.n 2, .n 1, .n 3], Fq.num (-23), Fq.num (-23), Fq.is (.bool true), Fq.is (.bool true), Fq.st [.n 2, .n 1, .n 3], Fq.is (.bool true), Fq.is (.bool true), Fq.is (.bool true), Fq.st [.n 2, .n (-2), .n 3], Fq.is (.bool false), Fq.is (.bool true), Fq.is (.bool true), Fq.is (.bool true), Fq.st [.n 1, .n 0, .n 1], Fq.st [.n 1, .n 0, .n 1], Fq.is (.bool true), Fq.is (.bool true), Fq.is (.bool true), Fq.st [.n S.x1, .n S.x2, .n S.x3, .n S.x4], Fq.num 1, Fq.num (1), Fq.is (.bool true), Fq.is (.bool true), Fq.is (.bool true), Fq.st [.n 2, .n (-1), .n 3], Fq.st [.n 2, .n (-1), .n 3], Fq.is (.bool true), Fq.is (.bool true), Fq.is (.bool true), Fq.st [.n 1, .n 1, .n 6], Fq.st [.n 1, .n 1, .n 6], Fq.is (.bool true), Fq.is (.bool true), Fq.is (.bool true), Fq.st [.n 1, .n 0, .n 5], Fq.st [.n 1, .n 0, .n 5], Fq.is (.bool true), Fq.is (.bool true), Fq.is (.bool true)]) (ks := [none, none, none, none, none, none, none, none, none]) (new := []) E rfl (by kernel_rfl) rfl rfl (fun hp => ⟨?_, ?_, ?_, ?_, ?_, ?_, ?_, ?_, ?_, ?_, ?_, ?_, ?_, ?_, ?_, ?_, ?_, ?_, ?_, ?_, ?_, ?_, ?_, ?_, ?_, ?_, ?_, ?_, ?_, ?_, ?_, ?_, ?_, ?_, ?_, ?_, ?_, ?_, ?_, ?_, trivial⟩) ?_
 ·exact q_loadSt (off := 0) (l := 6) (fs := [.n 2, .n 1, .n 3]) (gs := [.n 2, .n 1, .n 3]) hp (free_of rfl) trivial (mq 8 rfl) (.inl rfl) rfl row_api_Form rfl (sqo 1) (fun v w h => h)
 ·exact q_call1 (F := (Fq.st [.n 2, .n 1, .n 3]).P) hp (free_of rfl) trivial (enq_f_algorist_quadratic_Disc) (sqi 0) (fun v w h => (by have hh := exPDisc h (Int.lt_of_lt_of_le (ab_i64 (by decide) (by decide)) (pw_le (by omega))) (Int.lt_of_lt_of_le (ab_i64 (by decide) (by decide)) (pw_le (by omega))) (Int.lt_of_lt_of_le (ab_i64 (by decide) (by decide)) (pw_le (by omega))); rw [show ((1 : Int) * 1 - 4 * (2 * 3)) = -23 by decide] at hh; exact hh))
 ·exact q_call1 (F := (Fq.is (.int .i64 (-23))).P) hp (free_of rfl) trivial (enq_R_Of) (sq_const (fun _ => rfl)) (fun v w h => (by subst h; exact rOfK w (-23) (by omega) (by omega)))
 ·exact q_call2 (F := (Fq.num (-23)).P) (G := (Fq.num (-23)).P) hp (free_of rfl) trivial (enq_R_Same) (sqi 1) (sqi 2) (fun v v' w h h' => exRSameB h h' (by decide))
 ·exact q_move hp (free_of rfl) trivial (sqi 3)
 ·exact q_loadSt (off := 0) (l := 6) (fs := [.n 2, .n 1, .n 3]) (gs := [.n 2, .n 1, .n 3]) hp (free_of rfl) gqi (mq 8 rfl) (.inl rfl) rfl row_api_Form rfl (sqo 1) (fun v w h => h)
 ·exact q_call1 (F := (Fq.st [.n 2, .n 1, .n 3]).P) hp (free_of rfl) gqi (enq_f_algorist_quadratic_Reduced) (sqi 5) (fun v w h => exPReduced h (Int.lt_of_lt_of_le (ab_i64 (by decide) (by decide)) (pw_le (by omega))) (Int.lt_of_lt_of_le (ab_i64 (by decide) (by decide)) (pw_le (by omega))) (Int.lt_of_lt_of_le (ab_i64 (by decide) (by decide)) (pw_le (by omega))) (by decide))
 ·exact q_two (F := fun v _ => v = .bool true) (G := fun v _ => v = .bool true) hp (free_of rfl) trivial (sqi 4) (sqi 6) (fun ρ w hc h h' => ⟨_, by simp [execOp, go_sem, h, h'], rfl⟩)
 ·exact q_move hp (free_of rfl) trivial (sqi 7)
 ·exact q_call3 (F := (Fq.is (.int .i64 2)).P) (G := (Fq.is (.int .i64 (-2))).P) (F3 := (Fq.is (.int .i64 3)).P) hp (free_of rfl) gqi (enq_f_algorist_algoristref08_Of) (sq_const (fun _ => rfl)) (sq_const (fun _ => rfl)) (sq_const (fun _ => rfl)) (fun v v' u w h h' g => (by subst h h' g; exact exQOf (by decide) (by decide) (by decide)))
 ·exact q_call1 (F := (Fq.st [.n 2, .n (-2), .n 3]).P) hp (free_of rfl) gqi (enq_f_algorist_quadratic_Reduced) (sqi 9) (fun v w h => exPReduced h (Int.lt_of_lt_of_le (ab_i64 (by decide) (by decide)) (pw_le (by omega))) (Int.lt_of_lt_of_le (ab_i64 (by decide) (by decide)) (pw_le (by omega))) (Int.lt_of_lt_of_le (ab_i64 (by decide) (by decide)) (pw_le (by omega))) (by decide))
 ·exact q_one (F := fun v _ => v = .bool false) hp (free_of rfl) gqi (sqi 10) (fun ρ w _ h => ⟨.bool true, by simp [execOp, go_sem, h], rfl⟩)
 ·exact q_two (F := fun v _ => v = .bool true) (G := fun v _ => v = .bool true) hp (free_of rfl) trivial (sqi 8) (sqi 11) (fun ρ w hc h h' => ⟨_, by simp [execOp, go_sem, h, h'], rfl⟩)
 ·exact q_move hp (free_of rfl) trivial (sqi 12)
 ·exact q_loadSt (off := 0) (l := 6) (fs := [.n 1, .n 0, .n 1]) (gs := [.n 1, .n 0, .n 1]) hp (free_of rfl) gqi (mq 6 rfl) (.inl rfl) rfl row_api_Form rfl (sqo 2) (fun v w h => h)
 ·exact q_call3 (F := (Fq.is (.int .i64 1)).P) (G := (Fq.is (.int .i64 0)).P) (F3 := (Fq.is (.int .i64 1)).P) hp (free_of rfl) gqi (enq_f_algorist_algoristref08_Of) (sq_const (fun _ => rfl)) (sq_const (fun _ => rfl)) (sq_const (fun _ => rfl)) (fun v v' u w h h' g => (by subst h h' g; exact exQOf (by decide) (by decide) (by decide)))
 ·exact q_call2 (F := (Fq.st [.n 1, .n 0, .n 1]).P) (G := (Fq.st [.n 1, .n 0, .n 1]).P) hp (free_of rfl) gqi (enq_f_algorist_algoristref08_Equal) (sqi 14) (sqi 15) (fun v v' w h h' => exQEqual h h' (by decide))
 ·exact q_two (F := fun v _ => v = .bool true) (G := fun v _ => v = .bool true) hp (free_of rfl) trivial (sqi 13) (sqi 16) (fun ρ w hc h h' => ⟨_, by simp [execOp, go_sem, h, h'], rfl⟩)
 ·exact q_move hp (free_of rfl) trivial (sqi 17)
 ·exact q_loadSt (off := 0) (l := 8) (fs := [.n S.x1, .n S.x2, .n S.x3, .n S.x4]) (gs := [.n S.x1, .n S.x2, .n S.x3, .n S.x4]) hp (free_of rfl) gqi (mq 7 rfl) (.inl rfl) rfl row_api_Mat rfl (sqo 3) (fun v w h => h)
 ·exact q_call1 (F := (Fq.st [.n S.x1, .n S.x2, .n S.x3, .n S.x4]).P) hp (free_of rfl) gqi (enq_f_algorist_algoristref08_Det) (sqi 19) (fun v w h => (by have hh := exQDet h (Int.lt_of_lt_of_le BS.out.2.1 (pw_le (by omega))) (Int.lt_of_lt_of_le BS.out.2.2.1 (pw_le (by omega))) (Int.lt_of_lt_of_le BS.out.2.2.2.1 (pw_le (by omega))) (Int.lt_of_lt_of_le BS.out.2.2.2.2 (pw_le (by omega))); rw [HRD.out] at hh; exact hh))
 ·exact q_call1 (F := (Fq.is (.int .i64 1)).P) hp (free_of rfl) gqi (enq_R_Of) (sq_const (fun _ => rfl)) (fun v w h => (by subst h; exact rOfK w (1) (by omega) (by omega)))
 ·exact q_call2 (F := (Fq.num 1).P) (G := (Fq.num (1)).P) hp (free_of rfl) gqi (enq_R_Same) (sqi 20) (sqi 21) (fun v v' w h h' => exRSameB h h' (by decide))
 ·exact q_two (F := fun v _ => v = .bool true) (G := fun v _ => v = .bool true) hp (free_of rfl) trivial (sqi 18) (sqi 22) (fun ρ w hc h h' => ⟨_, by simp [execOp, go_sem, h, h'], rfl⟩)
 ·exact q_move hp (free_of rfl) trivial (sqi 23)
 ·exact q_loadSt (off := 0) (l := 6) (fs := [.n 2, .n (-1), .n 3]) (gs := [.n 2, .n (-1), .n 3]) hp (free_of rfl) gqi (mq 5 rfl) (.inl rfl) rfl row_api_Form rfl (sqo 5) (fun v w h => h)
 ·exact q_call3 (F := (Fq.is (.int .i64 2)).P) (G := (Fq.is (.int .i64 (-1))).P) (F3 := (Fq.is (.int .i64 3)).P) hp (free_of rfl) gqi (enq_f_algorist_algoristref08_Of) (sq_const (fun _ => rfl)) (sq_const (fun _ => rfl)) (sq_const (fun _ => rfl)) (fun v v' u w h h' g => (by subst h h' g; exact exQOf (by decide) (by decide) (by decide)))
 ·exact q_call2 (F := (Fq.st [.n 2, .n (-1), .n 3]).P) (G := (Fq.st [.n 2, .n (-1), .n 3]).P) hp (free_of rfl) gqi (enq_f_algorist_algoristref08_Equal) (sqi 25) (sqi 26) (fun v v' w h h' => exQEqual h h' (by decide))
 ·exact q_two (F := fun v _ => v = .bool true) (G := fun v _ => v = .bool true) hp (free_of rfl) trivial (sqi 24) (sqi 27) (fun ρ w hc h h' => ⟨_, by simp [execOp, go_sem, h, h'], rfl⟩)
 ·exact q_move hp (free_of rfl) trivial (sqi 28)
 ·exact q_loadSt (off := 0) (l := 6) (fs := [.n 1, .n 1, .n 6]) (gs := [.n 1, .n 1, .n 6]) hp (free_of rfl) gqi (mq 4 rfl) (.inl rfl) rfl row_api_Form rfl (sqo 7) (fun v w h => h)
 ·exact q_call3 (F := (Fq.is (.int .i64 1)).P) (G := (Fq.is (.int .i64 1)).P) (F3 := (Fq.is (.int .i64 6)).P) hp (free_of rfl) gqi (enq_f_algorist_algoristref08_Of) (sq_const (fun _ => rfl)) (sq_const (fun _ => rfl)) (sq_const (fun _ => rfl)) (fun v v' u w h h' g => (by subst h h' g; exact exQOf (by decide) (by decide) (by decide)))
 ·exact q_call2 (F := (Fq.st [.n 1, .n 1, .n 6]).P) (G := (Fq.st [.n 1, .n 1, .n 6]).P) hp (free_of rfl) gqi (enq_f_algorist_algoristref08_Equal) (sqi 30) (sqi 31) (fun v v' w h h' => exQEqual h h' (by decide))
 ·exact q_two (F := fun v _ => v = .bool true) (G := fun v _ => v = .bool true) hp (free_of rfl) trivial (sqi 29) (sqi 32) (fun ρ w hc h h' => ⟨_, by simp [execOp, go_sem, h, h'], rfl⟩)
 ·exact q_move hp (free_of rfl) trivial (sqi 33)
 ·exact q_loadSt (off := 0) (l := 6) (fs := [.n 1, .n 0, .n 5]) (gs := [.n 1, .n 0, .n 5]) hp (free_of rfl) gqi (mq 3 rfl) (.inl rfl) rfl row_api_Form rfl (sqo 9) (fun v w h => h)
 ·exact q_call3 (F := (Fq.is (.int .i64 1)).P) (G := (Fq.is (.int .i64 0)).P) (F3 := (Fq.is (.int .i64 5)).P) hp (free_of rfl) gqi (enq_f_algorist_algoristref08_Of) (sq_const (fun _ => rfl)) (sq_const (fun _ => rfl)) (sq_const (fun _ => rfl)) (fun v v' u w h h' g => (by subst h h' g; exact exQOf (by decide) (by decide) (by decide)))
 ·exact q_call2 (F := (Fq.st [.n 1, .n 0, .n 5]).P) (G := (Fq.st [.n 1, .n 0, .n 5]).P) hp (free_of rfl) gqi (enq_f_algorist_algoristref08_Equal) (sqi 35) (sqi 36) (fun v v' w h h' => exQEqual h h' (by decide))
 ·exact q_two (F := fun v _ => v = .bool true) (G := fun v _ => v = .bool true) hp (free_of rfl) trivial (sqi 34) (sqi 37) (fun ρ w hc h h' => ⟨_, by simp [execOp, go_sem, h, h'], rfl⟩)
 ·exact q_assign hp (free_of rfl) trivial (sqi 38)
 intro L vs w13 nb hL hC hn E13
 have e3 : vs 3 = .bool true := hC 3 (by simp)
 have e4 : vs 4 = .bool true := hC 4 (by simp)
 have e6 : vs 6 = .bool true := hC 6 (by simp)
 have e7 : vs 7 = .bool true := hC 7 (by simp)
 have e8 : vs 8 = .bool true := hC 8 (by simp)
 have e10 : vs 10 = .bool false := hC 10 (by simp)
 have e11 : vs 11 = .bool true := hC 11 (by simp)
 have e12 : vs 12 = .bool true := hC 12 (by simp)
 have e13 : vs 13 = .bool true := hC 13 (by simp)
 have e16 : vs 16 = .bool true := hC 16 (by simp)
 have e17 : vs 17 = .bool true := hC 17 (by simp)
 have e18 : vs 18 = .bool true := hC 18 (by simp)
 have e22 : vs 22 = .bool true := hC 22 (by simp)
 have e23 : vs 23 = .bool true := hC 23 (by simp)
 have e24 : vs 24 = .bool true := hC 24 (by simp)
 have e27 : vs 27 = .bool true := hC 27 (by simp)
 have e28 : vs 28 = .bool true := hC 28 (by simp)
 have e29 : vs 29 = .bool true := hC 29 (by simp)
 have e32 : vs 32 = .bool true := hC 32 (by simp)
 have e33 : vs 33 = .bool true := hC 33 (by simp)
 have e34 : vs 34 = .bool true := hC 34 (by simp)
 have e37 : vs 37 = .bool true := hC 37 (by simp)
 have e38 : vs 38 = .bool true := hC 38 (by simp)
 have e39 : vs 39 = .bool true := hC 39 (by simp)
 have E : Fr w [(b10_6, 6, Fq.st [.n 0, .n 0, .n 0]), (b10_7, 8, Fq.st [.n 0, .n 0, .n 0, .n 0]), (b9_5, 6, Fq.st [.n 0, .n 0, .n 0]), (b7_5, 6, Fq.st [.n 1, .n 0, .n 5]), (b5_5, 6, Fq.st [.n 1, .n 1, .n 6]), (b3_5, 6, Fq.st [.n 2, .n (-1), .n 3]), (b2_6, 6, Fq.st [.n 1, .n 0, .n 1]), (b2_7, 8, Fq.st [.n S.x1, .n S.x2, .n S.x3, .n S.x4]), (b1_1, 6, Fq.st [.n 2, .n 1, .n 3])] w13 := E13
 rw [lay_all hL]
 simp only [putAll, dstOf, List.length_cons, List.length_nil, Nat.zero_add, Nat.reduceAdd, List.getElem?_toArray, List.getElem?_cons_zero, List.getElem?_cons_succ, Option.bind_some, Act.put, List.setIfInBounds_toArray, List.set_cons_succ, List.set_cons_zero]
 rw [e3, e4, e6, e7, e8, e10, e11, e12, e13, e16, e17, e18, e22, e23, e24, e27, e28, e29, e32, e33, e34, e37, e38, e39]
 generalize vs 0 = u13_0
 generalize vs 1 = u13_1
 generalize vs 2 = u13_2
 generalize vs 5 = u13_5
 generalize vs 9 = u13_9
 generalize vs 14 = u13_14
 generalize vs 15 = u13_15
 generalize vs 19 = u13_19
 generalize vs 20 = u13_20
 generalize vs 21 = u13_21
 generalize vs 25 = u13_25
 generalize vs 26 = u13_26
 generalize vs 30 = u13_30
 generalize vs 31 = u13_31
 generalize vs 35 = u13_35
 generalize vs 36 = u13_36
 clear e3 e4 e6 e7 e8 e10 e11 e12 e13 e16 e17 e18 e22 e23 e24 e27 e28 e29 e32 e33 e34 e37 e38 e39 hC hn E13 hL vs L nb
 clear HS HR0 HRA HRB HRC HRD
 clear B4 B6 B8 B12 BS
 go_wp2
 refine bodyPost_ret (v := .bool true) ?_ rfl ⟨_, rfl, E.below, rfl⟩
 simp [results, Try.results9, go_sem]

end Go.Proofs.Ytdhkhedhnolcjaa

namespace Go.Proofs.Ytdhkhedhnolcjaa
open Go Go.RowKit

theorem qv_abK {a b c x y : Int} {k j K : Nat} (ha : ab a < pw k) (hb : ab b < pw k) (hc : ab c < pw k) (hx : ab x < pw j) (hy : ab y < pw j) (hK : k + 2 * j + 2 ≤ K) : ab (qv a b c x y) < pw K := by
 unfold qv
 exact ab_addB (ab_addB (m := k + 2 * j + 1) (ab_mulB ha (ab_mulB hx hx)) (ab_mulB hb (ab_mulB hx hy)) (by omega) (by omega)) (ab_mulB hc (ab_mulB hy hy)) (by omega) (by omega)
theorem qm_abK {a b c p q r s : Int} {k j K : Nat} (ha : ab a < pw k) (hb : ab b < pw k) (hc : ab c < pw k) (hp : ab p < pw j) (hq : ab q < pw j) (hr : ab r < pw j) (hs : ab s < pw j) (hK : k + 2 * j + 6 ≤ K) : ab (qm a b c p q r s) < pw K := by
 have h1 := ab_mulB ha (ab_mulB hp hq)
 have h2 := ab_mulB hc (ab_mulB hr hs)
 have h3 := ab_addB (m := k + 2 * j + 1) h1 h2 (by omega) (by omega)
 have h4 : ab (2 : Int) < pw 3 := ab_i64 (by decide) (by decide)
 have h5 := ab_mulB h4 h3
 have h6 := ab_addB (m := 2 * j + 1) (ab_mulB hp hs) (ab_mulB hq hr) (by omega) (by omega)
 have h7 := ab_mulB hb h6
 unfold qm
 exact ab_addB h5 h7 (by omega) (by omega)
theorem act_a (a b c p q r s t v : Int) : qv (qv a b c p r) (qm a b c p q r s) (qv a b c q s) t v = qv a b c (p * t + q * v) (r * t + s * v) := by
 unfold qv qm
 exact qf_val a b c p q r s t v
theorem act_b (a b c p q r s t u v w : Int) : qm (qv a b c p r) (qm a b c p q r s) (qv a b c q s) t u v w = qm a b c (p * t + q * v) (p * u + q * w) (r * t + s * v) (r * u + s * w) := by
 unfold qv qm
 exact qf_mul_b a b c p q r s t u v w
theorem act_disc (a b c p q r s : Int) : qm a b c p q r s * qm a b c p q r s - 4 * (qv a b c p r * qv a b c q s) = (b * b - 4 * (a * c)) * ((p * s - q * r) * (p * s - q * r)) := by
 unfold qv qm
 exact qf_disc a b c p q r s
theorem eqF_refl (a b c : Int) : eqF a b c a b c = true := by simp [eqF]
set_option maxRecDepth 100000 in
set_option maxHeartbeats 4000000 in
theorem FormAction_any (w : World) (n1 : Bool) (a1 : Option Addr) (k1 c1 : Nat) (xs1 : List Int) (h1 : Sl w a1 k1 c1 xs1) (hk1 : k1 ≤ 9223372036854775807) (n2 : Bool) (a2 : Option Addr) (k2 c2 : Nat) (xs2 : List Int) (h2 : Sl w a2 k2 c2 xs2) (hk2 : k2 ≤ 9223372036854775807) (n3 : Bool) (a3 : Option Addr) (k3 c3 : Nat) (xs3 : List Int) (h3 : Sl w a3 k3 c3 xs3) (hk3 : k3 ≤ 9223372036854775807) (n4 : Bool) (a4 : Option Addr) (k4 c4 : Nat) (xs4 : List Int) (h4 : Sl w a4 k4 c4 xs4) (hk4 : k4 ≤ 9223372036854775807) (n5 : Bool) (a5 : Option Addr) (k5 c5 : Nat) (xs5 : List Int) (h5 : Sl w a5 k5 c5 xs5) (hk5 : k5 ≤ 9223372036854775807) (n6 : Bool) (a6 : Option Addr) (k6 c6 : Nat) (xs6 : List Int) (h6 : Sl w a6 k6 c6 xs6) (hk6 : k6 ≤ 9223372036854775807) (n7 : Bool) (a7 : Option Addr) (k7 c7 : Nat) (xs7 : List Int) (h7 : Sl w a7 k7 c7 xs7) (hk7 : k7 ≤ 9223372036854775807) (n8 : Bool) (a8 : Option Addr) (k8 c8 : Nat) (xs8 : List Int) (h8 : Sl w a8 k8 c8 xs8) (hk8 : k8 ≤ 9223372036854775807) (n9 : Bool) (a9 : Option Addr) (k9 c9 : Nat) (xs9 : List Int) (h9 : Sl w a9 k9 c9 xs9) (hk9 : k9 ≤ 9223372036854775807) (n10 : Bool) (a10 : Option Addr) (k10 c10 : Nat) (xs10 : List Int) (h10 : Sl w a10 k10 c10 xs10) (hk10 : k10 ≤ 9223372036854775807) (n11 : Bool) (a11 : Option Addr) (k11 c11 : Nat) (xs11 : List Int) (h11 : Sl w a11 k11 c11 xs11) (hk11 : k11 ≤ 9223372036854775807) (n12 : Bool) (a12 : Option Addr) (k12 c12 : Nat) (xs12 : List Int) (h12 : Sl w a12 k12 c12 xs12) (hk12 : k12 ≤ 9223372036854775807) (n13 : Bool) (a13 : Option Addr) (k13 c13 : Nat) (xs13 : List Int) (h13 : Sl w a13 k13 c13 xs13) (hk13 : k13 ≤ 9223372036854775807) (n14 : Bool) (a14 : Option Addr) (k14 c14 : Nat) (xs14 : List Int) (h14 : Sl w a14 k14 c14 xs14) (hk14 : k14 ≤ 9223372036854775807) :
  Calls Try.prog 3 #[.agg #[.bool n1, .slice a1 k1 c1, .bool n2, .slice a2 k2 c2, .bool n3, .slice a3 k3 c3, .bool n4, .slice a4 k4 c4, .bool n5, .slice a5 k5 c5, .bool n6, .slice a6 k6 c6, .bool n7, .slice a7 k7 c7], .agg #[.bool n8, .slice a8 k8 c8, .bool n9, .slice a9 k9 c9, .bool n10, .slice a10 k10 c10, .bool n11, .slice a11 k11 c11, .bool n12, .slice a12 k12 c12, .bool n13, .slice a13 k13 c13, .bool n14, .slice a14 k14 c14]] w fun e w' => ∃ v', e = .returned v' ∧ Below w.heap.size w w' ∧ v' = .bool true := by
 obtain ⟨a, ea⟩ : ∃ z, z = sgn n1 (val (xs1.take 2)) := ⟨_, rfl⟩
 have Ba : Hid (ab a < pw 3) := by show _ < _; rw [ea]; exact Int.lt_of_lt_of_le (Num.ofMade h1.digs) (pw_le (by omega))
 have Ea := hidd ea
 have HK1 := hidd hk1
 clear ea hk1
 obtain ⟨b, eb⟩ : ∃ z, z = sgn n2 (val (xs2.take 2)) := ⟨_, rfl⟩
 have Bb : Hid (ab b < pw 3) := by show _ < _; rw [eb]; exact Int.lt_of_lt_of_le (Num.ofMade h2.digs) (pw_le (by omega))
 have Eb := hidd eb
 have HK2 := hidd hk2
 clear eb hk2
 obtain ⟨c, ec⟩ : ∃ z, z = sgn n3 (val (xs3.take 2)) := ⟨_, rfl⟩
 have Bc : Hid (ab c < pw 3) := by show _ < _; rw [ec]; exact Int.lt_of_lt_of_le (Num.ofMade h3.digs) (pw_le (by omega))
 have Ec := hidd ec
 have HK3 := hidd hk3
 clear ec hk3
 obtain ⟨x1, ex1⟩ : ∃ z, z = sgn n4 (val (xs4.take 2)) := ⟨_, rfl⟩
 have Bx1 : Hid (ab x1 < pw 3) := by show _ < _; rw [ex1]; exact Int.lt_of_lt_of_le (Num.ofMade h4.digs) (pw_le (by omega))
 have Ex1 := hidd ex1
 have HK4 := hidd hk4
 clear ex1 hk4
 obtain ⟨x2, ex2⟩ : ∃ z, z = sgn n5 (val (xs5.take 2)) := ⟨_, rfl⟩
 have Bx2 : Hid (ab x2 < pw 3) := by show _ < _; rw [ex2]; exact Int.lt_of_lt_of_le (Num.ofMade h5.digs) (pw_le (by omega))
 have Ex2 := hidd ex2
 have HK5 := hidd hk5
 clear ex2 hk5
 obtain ⟨x3, ex3⟩ : ∃ z, z = sgn n6 (val (xs6.take 2)) := ⟨_, rfl⟩
 have Bx3 : Hid (ab x3 < pw 3) := by show _ < _; rw [ex3]; exact Int.lt_of_lt_of_le (Num.ofMade h6.digs) (pw_le (by omega))
 have Ex3 := hidd ex3
 have HK6 := hidd hk6
 clear ex3 hk6
 obtain ⟨x4, ex4⟩ : ∃ z, z = sgn n7 (val (xs7.take 2)) := ⟨_, rfl⟩
 have Bx4 : Hid (ab x4 < pw 3) := by show _ < _; rw [ex4]; exact Int.lt_of_lt_of_le (Num.ofMade h7.digs) (pw_le (by omega))
 have Ex4 := hidd ex4
 have HK7 := hidd hk7
 clear ex4 hk7
 obtain ⟨u1, eu1⟩ : ∃ z, z = sgn n8 (val (xs8.take 2)) := ⟨_, rfl⟩
 have Bu1 : Hid (ab u1 < pw 3) := by show _ < _; rw [eu1]; exact Int.lt_of_lt_of_le (Num.ofMade h8.digs) (pw_le (by omega))
 have Eu1 := hidd eu1
 have HK8 := hidd hk8
 clear eu1 hk8
 obtain ⟨u2, eu2⟩ : ∃ z, z = sgn n9 (val (xs9.take 2)) := ⟨_, rfl⟩
 have Bu2 : Hid (ab u2 < pw 3) := by show _ < _; rw [eu2]; exact Int.lt_of_lt_of_le (Num.ofMade h9.digs) (pw_le (by omega))
 have Eu2 := hidd eu2
 have HK9 := hidd hk9
 clear eu2 hk9
 obtain ⟨u3, eu3⟩ : ∃ z, z = sgn n10 (val (xs10.take 2)) := ⟨_, rfl⟩
 have Bu3 : Hid (ab u3 < pw 3) := by show _ < _; rw [eu3]; exact Int.lt_of_lt_of_le (Num.ofMade h10.digs) (pw_le (by omega))
 have Eu3 := hidd eu3
 have HK10 := hidd hk10
 clear eu3 hk10
 obtain ⟨y1, ey1⟩ : ∃ z, z = sgn n11 (val (xs11.take 2)) := ⟨_, rfl⟩
 have By1 : Hid (ab y1 < pw 3) := by show _ < _; rw [ey1]; exact Int.lt_of_lt_of_le (Num.ofMade h11.digs) (pw_le (by omega))
 have Ey1 := hidd ey1
 have HK11 := hidd hk11
 clear ey1 hk11
 obtain ⟨y2, ey2⟩ : ∃ z, z = sgn n12 (val (xs12.take 2)) := ⟨_, rfl⟩
 have By2 : Hid (ab y2 < pw 3) := by show _ < _; rw [ey2]; exact Int.lt_of_lt_of_le (Num.ofMade h12.digs) (pw_le (by omega))
 have Ey2 := hidd ey2
 have HK12 := hidd hk12
 clear ey2 hk12
 obtain ⟨y3, ey3⟩ : ∃ z, z = sgn n13 (val (xs13.take 2)) := ⟨_, rfl⟩
 have By3 : Hid (ab y3 < pw 3) := by show _ < _; rw [ey3]; exact Int.lt_of_lt_of_le (Num.ofMade h13.digs) (pw_le (by omega))
 have Ey3 := hidd ey3
 have HK13 := hidd hk13
 clear ey3 hk13
 obtain ⟨y4, ey4⟩ : ∃ z, z = sgn n14 (val (xs14.take 2)) := ⟨_, rfl⟩
 have By4 : Hid (ab y4 < pw 3) := by show _ < _; rw [ey4]; exact Int.lt_of_lt_of_le (Num.ofMade h14.digs) (pw_le (by omega))
 have Ey4 := hidd ey4
 have HK14 := hidd hk14
 clear ey4 hk14
 obtain ⟨A, eA⟩ : ∃ z, z = (qv a b c x1 x3) := ⟨_, rfl⟩
 have BA : Hid (ab A < pw 11) := by show _ < _; rw [eA]; exact (qv_abK (k := 3) (j := 3) (Int.lt_of_lt_of_le Ba.out (pw_le (by omega))) (Int.lt_of_lt_of_le Bb.out (pw_le (by omega))) (Int.lt_of_lt_of_le Bc.out (pw_le (by omega))) (Int.lt_of_lt_of_le Bx1.out (pw_le (by omega))) (Int.lt_of_lt_of_le Bx3.out (pw_le (by omega))) (by omega))
 have EA := hidd eA
 clear eA
 obtain ⟨B, eB⟩ : ∃ z, z = (qm a b c x1 x2 x3 x4) := ⟨_, rfl⟩
 have BB : Hid (ab B < pw 15) := by show _ < _; rw [eB]; exact (qm_abK (k := 3) (j := 3) (Int.lt_of_lt_of_le Ba.out (pw_le (by omega))) (Int.lt_of_lt_of_le Bb.out (pw_le (by omega))) (Int.lt_of_lt_of_le Bc.out (pw_le (by omega))) (Int.lt_of_lt_of_le Bx1.out (pw_le (by omega))) (Int.lt_of_lt_of_le Bx2.out (pw_le (by omega))) (Int.lt_of_lt_of_le Bx3.out (pw_le (by omega))) (Int.lt_of_lt_of_le Bx4.out (pw_le (by omega))) (by omega))
 have EB := hidd eB
 clear eB
 obtain ⟨C, eC⟩ : ∃ z, z = (qv a b c x2 x4) := ⟨_, rfl⟩
 have BC : Hid (ab C < pw 11) := by show _ < _; rw [eC]; exact (qv_abK (k := 3) (j := 3) (Int.lt_of_lt_of_le Ba.out (pw_le (by omega))) (Int.lt_of_lt_of_le Bb.out (pw_le (by omega))) (Int.lt_of_lt_of_le Bc.out (pw_le (by omega))) (Int.lt_of_lt_of_le Bx2.out (pw_le (by omega))) (Int.lt_of_lt_of_le Bx4.out (pw_le (by omega))) (by omega))
 have EC := hidd eC
 clear eC
 have HM0 : Hid (eqF (qv A B C y1 y3) (qm A B C y1 y2 y3 y4) (qv A B C y2 y4) (qv a b c ((x1 * y1) + (x2 * y3)) ((x3 * y1) + (x4 * y3))) (qm a b c ((x1 * y1) + (x2 * y3)) ((x1 * y2) + (x2 * y4)) ((x3 * y1) + (x4 * y3)) ((x3 * y2) + (x4 * y4))) (qv a b c ((x1 * y2) + (x2 * y4)) ((x3 * y2) + (x4 * y4))) = true) := by show eqF (qv A B C y1 y3) (qm A B C y1 y2 y3 y4) (qv A B C y2 y4) (qv a b c ((x1 * y1) + (x2 * y3)) ((x3 * y1) + (x4 * y3))) (qm a b c ((x1 * y1) + (x2 * y3)) ((x1 * y2) + (x2 * y4)) ((x3 * y1) + (x4 * y3)) ((x3 * y2) + (x4 * y4))) (qv a b c ((x1 * y2) + (x2 * y4)) ((x3 * y2) + (x4 * y4))) = true; rw [EA.out, EB.out, EC.out]; rw [act_a, act_a, act_b]; exact eqF_refl _ _ _
 have HM1 : Hid (decide (qv A B C u1 u2 = qv a b c ((x1 * u1) + (x2 * u2)) ((x3 * u1) + (x4 * u2))) = true) := by show decide (qv A B C u1 u2 = qv a b c ((x1 * u1) + (x2 * u2)) ((x3 * u1) + (x4 * u2))) = true; rw [EA.out, EB.out, EC.out]; exact decide_eq_true (act_a ..)
 have HM2 : Hid (decide (((B * B) - (4 * (A * C))) = (((b * b) - (4 * (a * c))) * (((x1 * x4) - (x2 * x3)) * ((x1 * x4) - (x2 * x3))))) = true) := by show decide (((B * B) - (4 * (A * C))) = (((b * b) - (4 * (a * c))) * (((x1 * x4) - (x2 * x3)) * ((x1 * x4) - (x2 * x3))))) = true; rw [EA.out, EB.out, EC.out]; exact decide_eq_true (act_disc ..)
 have HM3 : Hid (decide (((((x1 * y1) + (x2 * y3)) * ((x3 * y2) + (x4 * y4))) - (((x1 * y2) + (x2 * y4)) * ((x3 * y1) + (x4 * y3)))) = (((x1 * x4) - (x2 * x3)) * ((y1 * y4) - (y2 * y3)))) = true) := decide_eq_true (qf_det ..)
 obtain ⟨w1, b1, hw1, hb1, hs1, E⟩ := fr_start w (F := Fq.odd7 n1 a1 k1 c1 xs1 n2 a2 k2 c2 xs2 n3 a3 k3 c3 xs3 n4 a4 k4 c4 xs4 n5 a5 k5 c5 xs5 n6 a6 k6 c6 xs6 n7 a7 k7 c7 xs7) (us := [.bool n1, .slice a1 k1 c1, .bool n2, .slice a2 k2 c2, .bool n3, .slice a3 k3 c3, .bool n4, .slice a4 k4 c4, .bool n5, .slice a5 k5 c5, .bool n6, .slice a6 k6 c6, .bool n7, .slice a7 k7 c7]) 28 rfl (by simp) (tame_odd7 _ _ _ _ _ _ _ _ _ _ _ _ _ _ _ _ _ _ _ _ _ _ _ _ _ _ _ _) (show (Fq.odd7 n1 a1 k1 c1 xs1 n2 a2 k2 c2 xs2 n3 a3 k3 c3 xs3 n4 a4 k4 c4 xs4 n5 a5 k5 c5 xs5 n6 a6 k6 c6 xs6 n7 a7 k7 c7 xs7).P _ w from ⟨rfl, h1, h2, h3, h4, h5, h6, h7⟩)
 obtain ⟨w2, b2, hw2, hb2, hs2, E⟩ := fr_more E hs1 (F := Fq.odd7 n8 a8 k8 c8 xs8 n9 a9 k9 c9 xs9 n10 a10 k10 c10 xs10 n11 a11 k11 c11 xs11 n12 a12 k12 c12 xs12 n13 a13 k13 c13 xs13 n14 a14 k14 c14 xs14) (us := [.bool n8, .slice a8 k8 c8, .bool n9, .slice a9 k9 c9, .bool n10, .slice a10 k10 c10, .bool n11, .slice a11 k11 c11, .bool n12, .slice a12 k12 c12, .bool n13, .slice a13 k13 c13, .bool n14, .slice a14 k14 c14]) 28 rfl (by simp) (tame_odd7 _ _ _ _ _ _ _ _ _ _ _ _ _ _ _ _ _ _ _ _ _ _ _ _ _ _ _ _) ((Fq.odd7 n8 a8 k8 c8 xs8 n9 a9 k9 c9 xs9 n10 a10 k10 c10 xs10 n11 a11 k11 c11 xs11 n12 a12 k12 c12 xs12 n13 a13 k13 c13 xs13 n14 a14 k14 c14 xs14).mono (show (Fq.odd7 n8 a8 k8 c8 xs8 n9 a9 k9 c9 xs9 n10 a10 k10 c10 xs10 n11 a11 k11 c11 xs11 n12 a12 k12 c12 xs12 n13 a13 k13 c13 xs13 n14 a14 k14 c14 xs14).P _ w from ⟨rfl, h8, h9, h10, h11, h12, h13, h14⟩) E.below)
 go_enter Try.func3, Try.ntmps3
 go_upto_region 1 with (fail)
 rw [← hw1]
 rw [← hw2]
 rw [← hb2]
 rw [← hb1]
 clear hw1 hw2 hb1 hb2 hs2 hs1
 refine region_fr (C := [Fq.is (.bool true), Fq.is (.bool true)]) (ks := [none, none]) (new := []) E rfl (by kernel_rfl) rfl rfl (fun hp => ⟨?_, ?_, trivial⟩) ?_
 ·exact q_call0 hp (free_of rfl) trivial (enq_f_algorist_algoristlaw08_examples) (fun w => exEightExamples w)
 ·exact q_assign hp (free_of rfl) trivial (sqi 0)
 intro L vs w3 nb hL hC hn E3
 have e0 : vs 0 = .bool true := hC 0 (by simp)
 have e1 : vs 1 = .bool true := hC 1 (by simp)
 have E : Fr w [(b2, 14, Fq.odd7 n8 a8 k8 c8 xs8 n9 a9 k9 c9 xs9 n10 a10 k10 c10 xs10 n11 a11 k11 c11 xs11 n12 a12 k12 c12 xs12 n13 a13 k13 c13 xs13 n14 a14 k14 c14 xs14), (b1, 14, Fq.odd7 n1 a1 k1 c1 xs1 n2 a2 k2 c2 xs2 n3 a3 k3 c3 xs3 n4 a4 k4 c4 xs4 n5 a5 k5 c5 xs5 n6 a6 k6 c6 xs6 n7 a7 k7 c7 xs7)] w3 := E3
 rw [lay_all hL]
 simp only [putAll, dstOf, List.length_cons, List.length_nil, Nat.zero_add, Nat.reduceAdd, List.getElem?_toArray, List.getElem?_cons_zero, List.getElem?_cons_succ, Option.bind_some, Act.put, List.setIfInBounds_toArray, List.set_cons_succ, List.set_cons_zero]
 rw [e0, e1]
 clear e0 e1 hC hn E3 hL vs L nb
 go_upto_region 2 with (fail)
 refine region_fr (C := [Fq.is (.bool true), Fq.is (.bool false)]) (ks := [none, none]) (new := []) E rfl (by kernel_rfl) rfl rfl (fun hp => ⟨?_, ?_, trivial⟩) ?_
 ·exact q_move hp (free_of rfl) trivial (sqo 5)
 ·exact q_one (F := fun v _ => v = .bool true) hp (free_of rfl) trivial (sqi 0) (fun ρ w _ h => ⟨.bool false, by simp [execOp, go_sem, h], rfl⟩)
 intro L vs w4 nb hL hC hn E4
 have e0 : vs 0 = .bool true := hC 0 (by simp)
 have e1 : vs 1 = .bool false := hC 1 (by simp)
 have E : Fr w [(b2, 14, Fq.odd7 n8 a8 k8 c8 xs8 n9 a9 k9 c9 xs9 n10 a10 k10 c10 xs10 n11 a11 k11 c11 xs11 n12 a12 k12 c12 xs12 n13 a13 k13 c13 xs13 n14 a14 k14 c14 xs14), (b1, 14, Fq.odd7 n1 a1 k1 c1 xs1 n2 a2 k2 c2 xs2 n3 a3 k3 c3 xs3 n4 a4 k4 c4 xs4 n5 a5 k5 c5 xs5 n6 a6 k6 c6 xs6 n7 a7 k7 c7 xs7)] w4 := E4
 rw [lay_all hL]
 simp only [putAll, dstOf, List.length_cons, List.length_nil, Nat.zero_add, Nat.reduceAdd, List.getElem?_toArray, List.getElem?_cons_zero, List.getElem?_cons_succ, Option.bind_some, Act.put, List.setIfInBounds_toArray, List.set_cons_succ, List.set_cons_zero]
 rw [e0, e1]
 clear e0 e1 hC hn E4 hL vs L nb
 go_upto_region 4 with (fail)
 refine region_fr (C := [Fq.odd7 n1 a1 k1 c1 xs1 n2 a2 k2 c2 xs2 n3 a3 k3 c3 xs3 n4 a4 k4 c4 xs4 n5 a5 k5 c5 xs5 n6 a6 k6 c6 xs6 n7 a7 k7 c7 xs7, Fq.st [.n a, .n b, .n c], Fq.odd7 n1 a1 k1 c1 xs1 n2 a2 k2 c2 xs2 n3 a3 k3 c3 xs3 n4 a4 k4 c4 xs4 n5 a5 k5 c5 xs5 n6 a6 k6 c6 xs6 n7 a7 k7 c7 xs7, Fq.st [.n x1, .n x2, .n x3, .n x4], Fq.odd7 n8 a8 k8 c8 xs8 n9 a9 k9 c9 xs9 n10 a10 k10 c10 xs10 n11 a11 k11 c11 xs11 n12 a12 k12 c12 xs12 n13 a13 k13 c13 xs13 n14 a14 k14 c14 xs14, Fq.st [.n y1, .n y2, .n y3, .n y4], Fq.odd7 n8 a8 k8 c8 xs8 n9 a9 k9 c9 xs9 n10 a10 k10 c10 xs10 n11 a11 k11 c11 xs11 n12 a12 k12 c12 xs12 n13 a13 k13 c13 xs13 n14 a14 k14 c14 xs14, Fq.st [.n u1, .n u2, .n u3], Fq.any, Fq.any, Fq.any, Fq.any, Fq.any, Fq.any, Fq.any, Fq.any]) (ks := [none, none]) (new := [⟨8, 12, 6, Fq.st [.n 0, .n 0, .n 0], Fq.st [.n a, .n b, .n c], none⟩, ⟨9, 13, 8, Fq.st [.n 0, .n 0, .n 0, .n 0], Fq.st [.n x1, .n x2, .n x3, .n x4], none⟩, ⟨10, 14, 8, Fq.st [.n 0, .n 0, .n 0, .n 0], Fq.st [.n y1, .n y2, .n y3, .n y4], none⟩, ⟨11, 15, 6, Fq.st [.n 0, .n 0, .n 0], Fq.st [.n u1, .n u2, .n u3], none⟩]) E rfl (by kernel_rfl) rfl rfl (fun hp => ⟨?_, ?_, ?_, ?_, ?_, ?_, ?_, ?_, ?_, ?_, ?_, ?_, ?_, ?_, ?_, ?_, trivial⟩) ?_
 ·exact q_loadWhole hp (free_of rfl) trivial (mq 1 rfl) (.inl rfl) row_algoristref08_Odd (sqo 2) (fun us w hl h => h)
 ·exact q_call1 (F := (Fq.odd7 n1 a1 k1 c1 xs1 n2 a2 k2 c2 xs2 n3 a3 k3 c3 xs3 n4 a4 k4 c4 xs4 n5 a5 k5 c5 xs5 n6 a6 k6 c6 xs6 n7 a7 k7 c7 xs7).P) hp (free_of rfl) trivial (enq_f_algorist_algoristref08_Any) (sqi 0) (fun v w h => (by obtain ⟨rfl, h1, h2, h3, h4, h5, h6, h7⟩ := h; rw [Ea.out, Eb.out, Ec.out]; exact exQAny h1 HK1.out h2 HK2.out h3 HK3.out h4 h5 h6 h7))
 ·exact q_loadWhole hp (free_of rfl) trivial (mq 1 rfl) (.inl rfl) row_algoristref08_Odd (sqo 2) (fun us w hl h => h)
 ·exact q_call1 (F := (Fq.odd7 n1 a1 k1 c1 xs1 n2 a2 k2 c2 xs2 n3 a3 k3 c3 xs3 n4 a4 k4 c4 xs4 n5 a5 k5 c5 xs5 n6 a6 k6 c6 xs6 n7 a7 k7 c7 xs7).P) hp (free_of rfl) trivial (enq_f_algorist_algoristref08_AnyMat) (sqi 2) (fun v w h => (by obtain ⟨rfl, h1, h2, h3, h4, h5, h6, h7⟩ := h; rw [Ex1.out, Ex2.out, Ex3.out, Ex4.out]; exact exQAnyMat h1 h2 h3 h4 HK4.out h5 HK5.out h6 HK6.out h7 HK7.out))
 ·exact q_loadWhole hp (free_of rfl) trivial (mq 0 rfl) (.inl rfl) row_algoristref08_Odd (sqo 3) (fun us w hl h => h)
 ·exact q_call1 (F := (Fq.odd7 n8 a8 k8 c8 xs8 n9 a9 k9 c9 xs9 n10 a10 k10 c10 xs10 n11 a11 k11 c11 xs11 n12 a12 k12 c12 xs12 n13 a13 k13 c13 xs13 n14 a14 k14 c14 xs14).P) hp (free_of rfl) trivial (enq_f_algorist_algoristref08_AnyMat) (sqi 4) (fun v w h => (by obtain ⟨rfl, h1, h2, h3, h4, h5, h6, h7⟩ := h; rw [Ey1.out, Ey2.out, Ey3.out, Ey4.out]; exact exQAnyMat h1 h2 h3 h4 HK11.out h5 HK12.out h6 HK13.out h7 HK14.out))
 ·exact q_loadWhole hp (free_of rfl) trivial (mq 0 rfl) (.inl rfl) row_algoristref08_Odd (sqo 3) (fun us w hl h => h)
 ·exact q_call1 (F := (Fq.odd7 n8 a8 k8 c8 xs8 n9 a9 k9 c9 xs9 n10 a10 k10 c10 xs10 n11 a11 k11 c11 xs11 n12 a12 k12 c12 xs12 n13 a13 k13 c13 xs13 n14 a14 k14 c14 xs14).P) hp (free_of rfl) trivial (enq_f_algorist_algoristref08_Any) (sqi 6) (fun v w h => (by obtain ⟨rfl, h1, h2, h3, h4, h5, h6, h7⟩ := h; rw [Eu1.out, Eu2.out, Eu3.out]; exact exQAny h1 HK8.out h2 HK9.out h3 HK10.out h4 h5 h6 h7))
 ·exact q_allocSt (us := [.bool false, .slice none 0 0, .bool false, .slice none 0 0, .bool false, .slice none 0 0]) (fs := [.n 0, .n 0, .n 0]) hp (mq 0 rfl) rfl rfl rfl (Nat.lt_of_sub_eq_succ rfl) rfl fits0_api_Form (fun ρ w => ralloc_api_Form ρ w) rfl (Nat.ne_of_beq_eq_false rfl) (fun _ _ => trivial) (old_ne rfl) (newk_ne rfl)
 ·exact q_allocSt (us := [.bool false, .slice none 0 0, .bool false, .slice none 0 0, .bool false, .slice none 0 0, .bool false, .slice none 0 0]) (fs := [.n 0, .n 0, .n 0, .n 0]) hp (mq 1 rfl) rfl rfl rfl (Nat.lt_of_sub_eq_succ rfl) rfl fits0_api_Mat (fun ρ w => ralloc_api_Mat ρ w) rfl (Nat.ne_of_beq_eq_false rfl) (fun _ _ => trivial) (old_ne rfl) (newk_ne rfl)
 ·exact q_allocSt (us := [.bool false, .slice none 0 0, .bool false, .slice none 0 0, .bool false, .slice none 0 0, .bool false, .slice none 0 0]) (fs := [.n 0, .n 0, .n 0, .n 0]) hp (mq 2 rfl) rfl rfl rfl (Nat.lt_of_sub_eq_succ rfl) rfl fits0_api_Mat (fun ρ w => ralloc_api_Mat ρ w) rfl (Nat.ne_of_beq_eq_false rfl) (fun _ _ => trivial) (old_ne rfl) (newk_ne rfl)
 ·exact q_allocSt (us := [.bool false, .slice none 0 0, .bool false, .slice none 0 0, .bool false, .slice none 0 0]) (fs := [.n 0, .n 0, .n 0]) hp (mq 3 rfl) rfl rfl rfl (Nat.lt_of_sub_eq_succ rfl) rfl fits0_api_Form (fun ρ w => ralloc_api_Form ρ w) rfl (Nat.ne_of_beq_eq_false rfl) (fun _ _ => trivial) (old_ne rfl) (newk_ne rfl)
 ·exact q_storeNewSt (fs := [.n 0, .n 0, .n 0]) (gs := [.n a, .n b, .n c]) hp (mq 0 rfl) rfl rfl rfl rfl size_api_Form rfl (own_ptr rfl rfl (by simp) rfl) (sq_in 1 rfl rfl (by simp) rfl (fun v w h => fitv_st h)) (fun _ _ => trivial) (old_ne rfl) (newi_ne rfl)
 ·exact q_storeNewSt (fs := [.n 0, .n 0, .n 0, .n 0]) (gs := [.n x1, .n x2, .n x3, .n x4]) hp (mq 1 rfl) rfl rfl rfl rfl size_api_Mat rfl (own_ptr rfl rfl (by simp) rfl) (sq_in 3 rfl rfl (by simp) rfl (fun v w h => fitv_st h)) (fun _ _ => trivial) (old_ne rfl) (newi_ne rfl)
 ·exact q_storeNewSt (fs := [.n 0, .n 0, .n 0, .n 0]) (gs := [.n y1, .n y2, .n y3, .n y4]) hp (mq 2 rfl) rfl rfl rfl rfl size_api_Mat rfl (own_ptr rfl rfl (by simp) rfl) (sq_in 5 rfl rfl (by simp) rfl (fun v w h => fitv_st h)) (fun _ _ => trivial) (old_ne rfl) (newi_ne rfl)
 ·exact q_storeNewSt (fs := [.n 0, .n 0, .n 0]) (gs := [.n u1, .n u2, .n u3]) hp (mq 3 rfl) rfl rfl rfl rfl size_api_Form rfl (own_ptr rfl rfl (by simp) rfl) (sq_in 7 rfl rfl (by simp) rfl (fun v w h => fitv_st h)) (fun _ _ => trivial) (old_ne rfl) (newi_ne rfl)
 intro L vs w5 nb hL hC hn E5
 have e8 : vs 8 = .pointer (some ⟨nb 8, 0, none⟩) := hn _ (mq 0 rfl)
 have e9 : vs 9 = .pointer (some ⟨nb 9, 0, none⟩) := hn _ (mq 1 rfl)
 have e10 : vs 10 = .pointer (some ⟨nb 10, 0, none⟩) := hn _ (mq 2 rfl)
 have e11 : vs 11 = .pointer (some ⟨nb 11, 0, none⟩) := hn _ (mq 3 rfl)
 have E : Fr w [(nb 8, 6, Fq.st [.n a, .n b, .n c]), (nb 9, 8, Fq.st [.n x1, .n x2, .n x3, .n x4]), (nb 10, 8, Fq.st [.n y1, .n y2, .n y3, .n y4]), (nb 11, 6, Fq.st [.n u1, .n u2, .n u3]), (b2, 14, Fq.odd7 n8 a8 k8 c8 xs8 n9 a9 k9 c9 xs9 n10 a10 k10 c10 xs10 n11 a11 k11 c11 xs11 n12 a12 k12 c12 xs12 n13 a13 k13 c13 xs13 n14 a14 k14 c14 xs14), (b1, 14, Fq.odd7 n1 a1 k1 c1 xs1 n2 a2 k2 c2 xs2 n3 a3 k3 c3 xs3 n4 a4 k4 c4 xs4 n5 a5 k5 c5 xs5 n6 a6 k6 c6 xs6 n7 a7 k7 c7 xs7)] w5 := E5
 rw [lay_all hL]
 simp only [putAll, dstOf, List.length_cons, List.length_nil, Nat.zero_add, Nat.reduceAdd, List.getElem?_toArray, List.getElem?_cons_zero, List.getElem?_cons_succ, Option.bind_some, Act.put, List.setIfInBounds_toArray, List.set_cons_succ, List.set_cons_zero]
 rw [e8, e9, e10, e11]
 generalize nb 8 = b5_8 at E ⊢
 generalize nb 9 = b5_9 at E ⊢
 generalize nb 10 = b5_10 at E ⊢
 generalize nb 11 = b5_11 at E ⊢
 generalize vs 0 = u5_0
 generalize vs 1 = u5_1
 generalize vs 2 = u5_2
 generalize vs 3 = u5_3
 generalize vs 4 = u5_4
 generalize vs 5 = u5_5
 generalize vs 6 = u5_6
 generalize vs 7 = u5_7
 clear e8 e9 e10 e11 hC hn E5 hL vs L nb
 go_upto_region 5 with (fail)
 refine region_fr (C := [Fq.st [.n a, .n b, .n c], Fq.st [.n x1, .n x2, .n x3, .n x4], Fq.st [.n A, .n B, .n C], Fq.any, Fq.any]) (ks := [none, none, none, none, none, none]) (new := [⟨3, 4, 6, Fq.st [.n 0, .n 0, .n 0], Fq.st [.n A, .n B, .n C], none⟩]) E rfl (by kernel_rfl) rfl rfl (fun hp => ⟨?_, ?_, ?_, ?_, ?_, trivial⟩) ?_
 ·exact q_loadSt (off := 0) (l := 6) (fs := [.n a, .n b, .n c]) (gs := [.n a, .n b, .n c]) hp (free_of rfl) trivial (mq 0 rfl) (.inl rfl) rfl row_api_Form rfl (sqo 6) (fun v w h => h)
 ·exact q_loadSt (off := 0) (l := 8) (fs := [.n x1, .n x2, .n x3, .n x4]) (gs := [.n x1, .n x2, .n x3, .n x4]) hp (free_of rfl) trivial (mq 1 rfl) (.inl rfl) rfl row_api_Mat rfl (sqo 7) (fun v w h => h)
 ·exact q_call2 (F := (Fq.st [.n a, .n b, .n c]).P) (G := (Fq.st [.n x1, .n x2, .n x3, .n x4]).P) hp (free_of rfl) trivial (enq_f_algorist_quadratic_Apply) (sqi 0) (sqi 1) (fun v v' w h h' => (by have hh := exPApply h h' (Int.lt_of_lt_of_le Ba.out (pw_le (by omega))) (Int.lt_of_lt_of_le Bb.out (pw_le (by omega))) (Int.lt_of_lt_of_le Bc.out (pw_le (by omega))) (Int.lt_of_lt_of_le Bx1.out (pw_le (by omega))) (Int.lt_of_lt_of_le Bx2.out (pw_le (by omega))) (Int.lt_of_lt_of_le Bx3.out (pw_le (by omega))) (Int.lt_of_lt_of_le Bx4.out (pw_le (by omega))); rw [← EA.out, ← EB.out, ← EC.out] at hh; exact hh))
 ·exact q_allocSt (us := [.bool false, .slice none 0 0, .bool false, .slice none 0 0, .bool false, .slice none 0 0]) (fs := [.n 0, .n 0, .n 0]) hp (mq 0 rfl) rfl rfl rfl (Nat.lt_of_sub_eq_succ rfl) rfl fits0_api_Form (fun ρ w => ralloc_api_Form ρ w) rfl (Nat.ne_of_beq_eq_false rfl) (fun _ _ => trivial) (old_ne rfl) (newk_ne rfl)
 ·exact q_storeNewSt (fs := [.n 0, .n 0, .n 0]) (gs := [.n A, .n B, .n C]) hp (mq 0 rfl) rfl rfl rfl rfl size_api_Form rfl (own_ptr rfl rfl (by simp) rfl) (sq_in 2 rfl rfl (by simp) rfl (fun v w h => fitv_st h)) (fun _ _ => trivial) (old_ne rfl) (newi_ne rfl)
 intro L vs w6 nb hL hC hn E6
 have e3 : vs 3 = .pointer (some ⟨nb 3, 0, none⟩) := hn _ (mq 0 rfl)
 have E : Fr w [(nb 3, 6, Fq.st [.n A, .n B, .n C]), (b5_8, 6, Fq.st [.n a, .n b, .n c]), (b5_9, 8, Fq.st [.n x1, .n x2, .n x3, .n x4]), (b5_10, 8, Fq.st [.n y1, .n y2, .n y3, .n y4]), (b5_11, 6, Fq.st [.n u1, .n u2, .n u3]), (b2, 14, Fq.odd7 n8 a8 k8 c8 xs8 n9 a9 k9 c9 xs9 n10 a10 k10 c10 xs10 n11 a11 k11 c11 xs11 n12 a12 k12 c12 xs12 n13 a13 k13 c13 xs13 n14 a14 k14 c14 xs14), (b1, 14, Fq.odd7 n1 a1 k1 c1 xs1 n2 a2 k2 c2 xs2 n3 a3 k3 c3 xs3 n4 a4 k4 c4 xs4 n5 a5 k5 c5 xs5 n6 a6 k6 c6 xs6 n7 a7 k7 c7 xs7)] w6 := E6
 rw [lay_all hL]
 simp only [putAll, dstOf, List.length_cons, List.length_nil, Nat.zero_add, Nat.reduceAdd, List.getElem?_toArray, List.getElem?_cons_zero, List.getElem?_cons_succ, Option.bind_some, Act.put, List.setIfInBounds_toArray, List.set_cons_succ, List.set_cons_zero]
 rw [e3]
 generalize nb 3 = b6_3 at E ⊢
 generalize vs 0 = u6_0
 generalize vs 1 = u6_1
 generalize vs 2 = u6_2
 clear e3 hC hn E6 hL vs L nb
 go_upto_region 6 with (fail)
 have B7 : Hid (ab ((x1 * y1)) < pw 6) := ab_mulM Bx1.out By1.out (by omega)
 have B8 : Hid (ab ((x2 * y3)) < pw 6) := ab_mulM Bx2.out By3.out (by omega)
 have B9 : Hid (ab (((x1 * y1) + (x2 * y3))) < pw 7) := ab_addB B7.out B8.out (by omega) (by omega)
 have B10 : Hid (ab ((x1 * y2)) < pw 6) := ab_mulM Bx1.out By2.out (by omega)
 have B11 : Hid (ab ((x2 * y4)) < pw 6) := ab_mulM Bx2.out By4.out (by omega)
 have B12 : Hid (ab (((x1 * y2) + (x2 * y4))) < pw 7) := ab_addB B10.out B11.out (by omega) (by omega)
 have B13 : Hid (ab ((x3 * y1)) < pw 6) := ab_mulM Bx3.out By1.out (by omega)
 have B14 : Hid (ab ((x4 * y3)) < pw 6) := ab_mulM Bx4.out By3.out (by omega)
 have B15 : Hid (ab (((x3 * y1) + (x4 * y3))) < pw 7) := ab_addB B13.out B14.out (by omega) (by omega)
 have B16 : Hid (ab ((x3 * y2)) < pw 6) := ab_mulM Bx3.out By2.out (by omega)
 have B17 : Hid (ab ((x4 * y4)) < pw 6) := ab_mulM Bx4.out By4.out (by omega)
 have B18 : Hid (ab (((x3 * y2) + (x4 * y4))) < pw 7) := ab_addB B16.out B17.out (by omega) (by omega)
 refine region_fr (C := [Fq.st [.n A, .n B, .n C], Fq.st [.n y1, .n y2, .n y3, .n y4], Fq.st [.n (qv A B C y1 y3), .n (qm A B C y1 y2 y3 y4), .n (qv A B C y2 y4)], Fq.st [.n a, .n b, .n c], Fq.st [.n x1, .n x2, .n x3, .n x4], Fq.st [.n y1, .n y2, .n y3, .n y4], Fq.st [.n ((x1 * y1) + (x2 * y3)), .n ((x1 * y2) + (x2 * y4)), .n ((x3 * y1) + (x4 * y3)), .n ((x3 * y2) + (x4 * y4))], Fq.st [.n (qv a b c ((x1 * y1) + (x2 * y3)) ((x3 * y1) + (x4 * y3))), .n (qm a b c ((x1 * y1) + (x2 * y3)) ((x1 * y2) + (x2 * y4)) ((x3 * y1) + (x4 * y3)) ((x3 * y2) + (x4 * y4))), .n (qv a b c ((x1 * y2) + (x2 * y4)) ((x3 * y2) + (x4 * y4)))], Fq.is (.bool true), Fq.is (.bool false)]) (ks := [none, none, none, none, none, none, none]) (new := []) E rfl (by kernel_rfl) rfl rfl (fun hp => ⟨?_, ?_, ?_, ?_, ?_, ?_, ?_, ?_, ?_, ?_, trivial⟩) ?_
 ·exact q_loadSt (off := 0) (l := 6) (fs := [.n A, .n B, .n C]) (gs := [.n A, .n B, .n C]) hp (free_of rfl) trivial (mq 0 rfl) (.inl rfl) rfl row_api_Form rfl (sqo 10) (fun v w h => h)
 ·exact q_loadSt (off := 0) (l := 8) (fs := [.n y1, .n y2, .n y3, .n y4]) (gs := [.n y1, .n y2, .n y3, .n y4]) hp (free_of rfl) trivial (mq 3 rfl) (.inl rfl) rfl row_api_Mat rfl (sqo 8) (fun v w h => h)
 ·exact q_call2 (F := (Fq.st [.n A, .n B, .n C]).P) (G := (Fq.st [.n y1, .n y2, .n y3, .n y4]).P) hp (free_of rfl) trivial (enq_f_algorist_quadratic_Apply) (sqi 0) (sqi 1) (fun v v' w h h' => exPApply h h' (Int.lt_of_lt_of_le BA.out (pw_le (by omega))) (Int.lt_of_lt_of_le BB.out (pw_le (by omega))) (Int.lt_of_lt_of_le BC.out (pw_le (by omega))) (Int.lt_of_lt_of_le By1.out (pw_le (by omega))) (Int.lt_of_lt_of_le By2.out (pw_le (by omega))) (Int.lt_of_lt_of_le By3.out (pw_le (by omega))) (Int.lt_of_lt_of_le By4.out (pw_le (by omega))))
 ·exact q_loadSt (off := 0) (l := 6) (fs := [.n a, .n b, .n c]) (gs := [.n a, .n b, .n c]) hp (free_of rfl) trivial (mq 1 rfl) (.inl rfl) rfl row_api_Form rfl (sqo 6) (fun v w h => h)
 ·exact q_loadSt (off := 0) (l := 8) (fs := [.n x1, .n x2, .n x3, .n x4]) (gs := [.n x1, .n x2, .n x3, .n x4]) hp (free_of rfl) trivial (mq 2 rfl) (.inl rfl) rfl row_api_Mat rfl (sqo 7) (fun v w h => h)
 ·exact q_loadSt (off := 0) (l := 8) (fs := [.n y1, .n y2, .n y3, .n y4]) (gs := [.n y1, .n y2, .n y3, .n y4]) hp (free_of rfl) trivial (mq 3 rfl) (.inl rfl) rfl row_api_Mat rfl (sqo 8) (fun v w h => h)
 ·exact q_call2 (F := (Fq.st [.n x1, .n x2, .n x3, .n x4]).P) (G := (Fq.st [.n y1, .n y2, .n y3, .n y4]).P) hp (free_of rfl) trivial (enq_f_algorist_quadratic_Times) (sqi 4) (sqi 5) (fun v v' w h h' => exPTimes h h' (Int.lt_of_lt_of_le Bx1.out (pw_le (by omega))) (Int.lt_of_lt_of_le Bx2.out (pw_le (by omega))) (Int.lt_of_lt_of_le Bx3.out (pw_le (by omega))) (Int.lt_of_lt_of_le Bx4.out (pw_le (by omega))) (Int.lt_of_lt_of_le By1.out (pw_le (by omega))) (Int.lt_of_lt_of_le By2.out (pw_le (by omega))) (Int.lt_of_lt_of_le By3.out (pw_le (by omega))) (Int.lt_of_lt_of_le By4.out (pw_le (by omega))))
 ·exact q_call2 (F := (Fq.st [.n a, .n b, .n c]).P) (G := (Fq.st [.n ((x1 * y1) + (x2 * y3)), .n ((x1 * y2) + (x2 * y4)), .n ((x3 * y1) + (x4 * y3)), .n ((x3 * y2) + (x4 * y4))]).P) hp (free_of rfl) trivial (enq_f_algorist_quadratic_Apply) (sqi 3) (sqi 6) (fun v v' w h h' => exPApply h h' (Int.lt_of_lt_of_le Ba.out (pw_le (by omega))) (Int.lt_of_lt_of_le Bb.out (pw_le (by omega))) (Int.lt_of_lt_of_le Bc.out (pw_le (by omega))) (Int.lt_of_lt_of_le B9.out (pw_le (by omega))) (Int.lt_of_lt_of_le B12.out (pw_le (by omega))) (Int.lt_of_lt_of_le B15.out (pw_le (by omega))) (Int.lt_of_lt_of_le B18.out (pw_le (by omega))))
 ·exact q_call2 (F := (Fq.st [.n (qv A B C y1 y3), .n (qm A B C y1 y2 y3 y4), .n (qv A B C y2 y4)]).P) (G := (Fq.st [.n (qv a b c ((x1 * y1) + (x2 * y3)) ((x3 * y1) + (x4 * y3))), .n (qm a b c ((x1 * y1) + (x2 * y3)) ((x1 * y2) + (x2 * y4)) ((x3 * y1) + (x4 * y3)) ((x3 * y2) + (x4 * y4))), .n (qv a b c ((x1 * y2) + (x2 * y4)) ((x3 * y2) + (x4 * y4)))]).P) hp (free_of rfl) trivial (enq_f_algorist_algoristref08_Equal) (sqi 2) (sqi 7) (fun v v' w h h' => exQEqual h h' HM0.out)
 ·exact q_one (F := fun v _ => v = .bool true) hp (free_of rfl) trivial (sqi 8) (fun ρ w _ h => ⟨.bool false, by simp [execOp, go_sem, h], rfl⟩)
 intro L vs w19 nb hL hC hn E19
 have e8 : vs 8 = .bool true := hC 8 (by simp)
 have e9 : vs 9 = .bool false := hC 9 (by simp)
 have E : Fr w [(b6_3, 6, Fq.st [.n A, .n B, .n C]), (b5_8, 6, Fq.st [.n a, .n b, .n c]), (b5_9, 8, Fq.st [.n x1, .n x2, .n x3, .n x4]), (b5_10, 8, Fq.st [.n y1, .n y2, .n y3, .n y4]), (b5_11, 6, Fq.st [.n u1, .n u2, .n u3]), (b2, 14, Fq.odd7 n8 a8 k8 c8 xs8 n9 a9 k9 c9 xs9 n10 a10 k10 c10 xs10 n11 a11 k11 c11 xs11 n12 a12 k12 c12 xs12 n13 a13 k13 c13 xs13 n14 a14 k14 c14 xs14), (b1, 14, Fq.odd7 n1 a1 k1 c1 xs1 n2 a2 k2 c2 xs2 n3 a3 k3 c3 xs3 n4 a4 k4 c4 xs4 n5 a5 k5 c5 xs5 n6 a6 k6 c6 xs6 n7 a7 k7 c7 xs7)] w19 := E19
 rw [lay_all hL]
 simp only [putAll, dstOf, List.length_cons, List.length_nil, Nat.zero_add, Nat.reduceAdd, List.getElem?_toArray, List.getElem?_cons_zero, List.getElem?_cons_succ, Option.bind_some, Act.put, List.setIfInBounds_toArray, List.set_cons_succ, List.set_cons_zero]
 rw [e8, e9]
 generalize vs 0 = u19_0
 generalize vs 1 = u19_1
 generalize vs 2 = u19_2
 generalize vs 3 = u19_3
 generalize vs 4 = u19_4
 generalize vs 5 = u19_5
 generalize vs 6 = u19_6
 generalize vs 7 = u19_7
 clear e8 e9 hC hn E19 hL vs L nb
 go_upto_region 8 with (fail)
 have B20 : Hid (ab ((x1 * u1)) < pw 6) := ab_mulM Bx1.out Bu1.out (by omega)
 have B21 : Hid (ab ((x2 * u2)) < pw 6) := ab_mulM Bx2.out Bu2.out (by omega)
 have B22 : Hid (ab (((x1 * u1) + (x2 * u2))) < pw 7) := ab_addB B20.out B21.out (by omega) (by omega)
 have B23 : Hid (ab ((x3 * u1)) < pw 6) := ab_mulM Bx3.out Bu1.out (by omega)
 have B24 : Hid (ab ((x4 * u2)) < pw 6) := ab_mulM Bx4.out Bu2.out (by omega)
 have B25 : Hid (ab (((x3 * u1) + (x4 * u2))) < pw 7) := ab_addB B23.out B24.out (by omega) (by omega)
 refine region_fr (C := [Fq.is (.pointer (some ⟨b5_9, 0, none⟩)), Fq.num x1, Fq.is (.pointer (some ⟨b5_11, 0, none⟩)), Fq.num u1, Fq.num (x1 * u1), Fq.is (.pointer (some ⟨b5_9, 2, none⟩)), Fq.num x2, Fq.is (.pointer (some ⟨b5_11, 2, none⟩)), Fq.num u2, Fq.num (x2 * u2), Fq.num ((x1 * u1) + (x2 * u2)), Fq.is (.pointer (some ⟨b5_9, 4, none⟩)), Fq.num x3, Fq.is (.pointer (some ⟨b5_11, 0, none⟩)), Fq.num u1, Fq.num (x3 * u1), Fq.is (.pointer (some ⟨b5_9, 6, none⟩)), Fq.num x4, Fq.is (.pointer (some ⟨b5_11, 2, none⟩)), Fq.num u2, Fq.num (x4 * u2), Fq.num ((x3 * u1) + (x4 * u2)), Fq.any, Fq.any, Fq.any, Fq.any]) (ks := [none, none, none, none, none, none, none]) (new := [⟨22, 24, 2, Fq.num 0, Fq.num ((x1 * u1) + (x2 * u2)), none⟩, ⟨23, 25, 2, Fq.num 0, Fq.num ((x3 * u1) + (x4 * u2)), none⟩]) E rfl (by kernel_rfl) rfl rfl (fun hp => ⟨?_, ?_, ?_, ?_, ?_, ?_, ?_, ?_, ?_, ?_, ?_, ?_, ?_, ?_, ?_, ?_, ?_, ?_, ?_, ?_, ?_, ?_, ?_, ?_, ?_, ?_, trivial⟩) ?_
 ·exact q_addr (b := b5_9) (off := 0) (off' := 0) hp (free_of rfl) trivial (sqo 7) (fun ρ w h => by simp [execOp, go_sem, h]) (fun _ => rfl)
 ·exact q_loadSt (off := 0) (l := 2) (fs := [.n x1, .n x2, .n x3, .n x4]) (gs := [.n x1]) hp (free_of rfl) trivial (mq 2 rfl) (.inl rfl) rfl row_api_Int rfl (sqi 0) (fun v w h => st_num h)
 ·exact q_addr (b := b5_11) (off := 0) (off' := 0) hp (free_of rfl) trivial (sqo 9) (fun ρ w h => by simp [execOp, go_sem, h]) (fun _ => rfl)
 ·exact q_loadSt (off := 0) (l := 2) (fs := [.n u1, .n u2, .n u3]) (gs := [.n u1]) hp (free_of rfl) trivial (mq 4 rfl) (.inl rfl) rfl row_api_Int rfl (sqi 2) (fun v w h => st_num h)
 ·exact q_call2 (F := (Fq.num x1).P) (G := (Fq.num u1).P) hp (free_of rfl) trivial (enq_R_Mul) (sqi 1) (sqi 3) (fun v v' w h h' => exK (RMulV h h') B20.out (by omega))
 ·exact q_addr (b := b5_9) (off := 0) (off' := 2) hp (free_of rfl) trivial (sqo 7) (fun ρ w h => by simp [execOp, go_sem, h]) (fun _ => rfl)
 ·exact q_loadSt (off := 2) (l := 2) (fs := [.n x1, .n x2, .n x3, .n x4]) (gs := [.n x2]) hp (free_of rfl) trivial (mq 2 rfl) (.inl rfl) rfl row_api_Int rfl (sqi 5) (fun v w h => st_num h)
 ·exact q_addr (b := b5_11) (off := 0) (off' := 2) hp (free_of rfl) trivial (sqo 9) (fun ρ w h => by simp [execOp, go_sem, h]) (fun _ => rfl)
 ·exact q_loadSt (off := 2) (l := 2) (fs := [.n u1, .n u2, .n u3]) (gs := [.n u2]) hp (free_of rfl) trivial (mq 4 rfl) (.inl rfl) rfl row_api_Int rfl (sqi 7) (fun v w h => st_num h)
 ·exact q_call2 (F := (Fq.num x2).P) (G := (Fq.num u2).P) hp (free_of rfl) trivial (enq_R_Mul) (sqi 6) (sqi 8) (fun v v' w h h' => exK (RMulV h h') B21.out (by omega))
 ·exact q_call2 (F := (Fq.num (x1 * u1)).P) (G := (Fq.num (x2 * u2)).P) hp (free_of rfl) trivial (enq_R_Add) (sqi 4) (sqi 9) (fun v v' w h h' => exK (RAddV h h') B22.out (by omega))
 ·exact q_addr (b := b5_9) (off := 0) (off' := 4) hp (free_of rfl) trivial (sqo 7) (fun ρ w h => by simp [execOp, go_sem, h]) (fun _ => rfl)
 ·exact q_loadSt (off := 4) (l := 2) (fs := [.n x1, .n x2, .n x3, .n x4]) (gs := [.n x3]) hp (free_of rfl) trivial (mq 2 rfl) (.inl rfl) rfl row_api_Int rfl (sqi 11) (fun v w h => st_num h)
 ·exact q_addr (b := b5_11) (off := 0) (off' := 0) hp (free_of rfl) trivial (sqo 9) (fun ρ w h => by simp [execOp, go_sem, h]) (fun _ => rfl)
 ·exact q_loadSt (off := 0) (l := 2) (fs := [.n u1, .n u2, .n u3]) (gs := [.n u1]) hp (free_of rfl) trivial (mq 4 rfl) (.inl rfl) rfl row_api_Int rfl (sqi 13) (fun v w h => st_num h)
 ·exact q_call2 (F := (Fq.num x3).P) (G := (Fq.num u1).P) hp (free_of rfl) trivial (enq_R_Mul) (sqi 12) (sqi 14) (fun v v' w h h' => exK (RMulV h h') B23.out (by omega))
 ·exact q_addr (b := b5_9) (off := 0) (off' := 6) hp (free_of rfl) trivial (sqo 7) (fun ρ w h => by simp [execOp, go_sem, h]) (fun _ => rfl)
 ·exact q_loadSt (off := 6) (l := 2) (fs := [.n x1, .n x2, .n x3, .n x4]) (gs := [.n x4]) hp (free_of rfl) trivial (mq 2 rfl) (.inl rfl) rfl row_api_Int rfl (sqi 16) (fun v w h => st_num h)
 ·exact q_addr (b := b5_11) (off := 0) (off' := 2) hp (free_of rfl) trivial (sqo 9) (fun ρ w h => by simp [execOp, go_sem, h]) (fun _ => rfl)
 ·exact q_loadSt (off := 2) (l := 2) (fs := [.n u1, .n u2, .n u3]) (gs := [.n u2]) hp (free_of rfl) trivial (mq 4 rfl) (.inl rfl) rfl row_api_Int rfl (sqi 18) (fun v w h => st_num h)
 ·exact q_call2 (F := (Fq.num x4).P) (G := (Fq.num u2).P) hp (free_of rfl) trivial (enq_R_Mul) (sqi 17) (sqi 19) (fun v v' w h h' => exK (RMulV h h') B24.out (by omega))
 ·exact q_call2 (F := (Fq.num (x3 * u1)).P) (G := (Fq.num (x4 * u2)).P) hp (free_of rfl) trivial (enq_R_Add) (sqi 15) (sqi 20) (fun v v' w h h' => exK (RAddV h h') B25.out (by omega))
 ·exact q_allocInt hp (mq 0 rfl) rfl rfl rfl rfl (Nat.ne_of_beq_eq_false rfl) (fun _ _ => trivial) (old_ne rfl) (newk_ne rfl) (fun w => Num.zero w)
 ·exact q_allocInt hp (mq 1 rfl) rfl rfl rfl rfl (Nat.ne_of_beq_eq_false rfl) (fun _ _ => trivial) (old_ne rfl) (newk_ne rfl) (fun w => Num.zero w)
 ·exact q_storeNewInt hp (mq 0 rfl) rfl rfl rfl (own_ptr rfl rfl (by simp) rfl) (sq_in 10 rfl rfl (by simp) rfl (fun v w h => intV_num h)) (fun _ _ => trivial) (old_ne rfl) (newi_ne rfl)
 ·exact q_storeNewInt hp (mq 1 rfl) rfl rfl rfl (own_ptr rfl rfl (by simp) rfl) (sq_in 21 rfl rfl (by simp) rfl (fun v w h => intV_num h)) (fun _ _ => trivial) (old_ne rfl) (newi_ne rfl)
 intro L vs w26 nb hL hC hn E26
 have e0 : vs 0 = .pointer (some ⟨b5_9, 0, none⟩) := hC 0 (by simp)
 have e2 : vs 2 = .pointer (some ⟨b5_11, 0, none⟩) := hC 2 (by simp)
 have e5 : vs 5 = .pointer (some ⟨b5_9, 2, none⟩) := hC 5 (by simp)
 have e7 : vs 7 = .pointer (some ⟨b5_11, 2, none⟩) := hC 7 (by simp)
 have e11 : vs 11 = .pointer (some ⟨b5_9, 4, none⟩) := hC 11 (by simp)
 have e13 : vs 13 = .pointer (some ⟨b5_11, 0, none⟩) := hC 13 (by simp)
 have e16 : vs 16 = .pointer (some ⟨b5_9, 6, none⟩) := hC 16 (by simp)
 have e18 : vs 18 = .pointer (some ⟨b5_11, 2, none⟩) := hC 18 (by simp)
 have e22 : vs 22 = .pointer (some ⟨nb 22, 0, none⟩) := hn _ (mq 0 rfl)
 have e23 : vs 23 = .pointer (some ⟨nb 23, 0, none⟩) := hn _ (mq 1 rfl)
 have E : Fr w [(nb 22, 2, Fq.num ((x1 * u1) + (x2 * u2))), (nb 23, 2, Fq.num ((x3 * u1) + (x4 * u2))), (b6_3, 6, Fq.st [.n A, .n B, .n C]), (b5_8, 6, Fq.st [.n a, .n b, .n c]), (b5_9, 8, Fq.st [.n x1, .n x2, .n x3, .n x4]), (b5_10, 8, Fq.st [.n y1, .n y2, .n y3, .n y4]), (b5_11, 6, Fq.st [.n u1, .n u2, .n u3]), (b2, 14, Fq.odd7 n8 a8 k8 c8 xs8 n9 a9 k9 c9 xs9 n10 a10 k10 c10 xs10 n11 a11 k11 c11 xs11 n12 a12 k12 c12 xs12 n13 a13 k13 c13 xs13 n14 a14 k14 c14 xs14), (b1, 14, Fq.odd7 n1 a1 k1 c1 xs1 n2 a2 k2 c2 xs2 n3 a3 k3 c3 xs3 n4 a4 k4 c4 xs4 n5 a5 k5 c5 xs5 n6 a6 k6 c6 xs6 n7 a7 k7 c7 xs7)] w26 := E26
 rw [lay_all hL]
 simp only [putAll, dstOf, List.length_cons, List.length_nil, Nat.zero_add, Nat.reduceAdd, List.getElem?_toArray, List.getElem?_cons_zero, List.getElem?_cons_succ, Option.bind_some, Act.put, List.setIfInBounds_toArray, List.set_cons_succ, List.set_cons_zero]
 rw [e0, e2, e5, e7, e11, e13, e16, e18, e22, e23]
 generalize nb 22 = b26_22 at E ⊢
 generalize nb 23 = b26_23 at E ⊢
 generalize vs 1 = u26_1
 generalize vs 3 = u26_3
 generalize vs 4 = u26_4
 generalize vs 6 = u26_6
 generalize vs 8 = u26_8
 generalize vs 9 = u26_9
 generalize vs 10 = u26_10
 generalize vs 12 = u26_12
 generalize vs 14 = u26_14
 generalize vs 15 = u26_15
 generalize vs 17 = u26_17
 generalize vs 19 = u26_19
 generalize vs 20 = u26_20
 generalize vs 21 = u26_21
 clear e0 e2 e5 e7 e11 e13 e16 e18 e22 e23 hC hn E26 hL vs L nb
 go_upto_region 9 with (fail)
 refine region_fr (C := [Fq.st [.n A, .n B, .n C], Fq.is (.pointer (some ⟨b5_11, 0, none⟩)), Fq.num u1, Fq.is (.pointer (some ⟨b5_11, 2, none⟩)), Fq.num u2, Fq.num (qv A B C u1 u2), Fq.st [.n a, .n b, .n c], Fq.num ((x1 * u1) + (x2 * u2)), Fq.num ((x3 * u1) + (x4 * u2)), Fq.num (qv a b c ((x1 * u1) + (x2 * u2)) ((x3 * u1) + (x4 * u2))), Fq.is (.bool true), Fq.is (.bool false)]) (ks := [none, none, none, none, none, none, none, none, none]) (new := []) E rfl (by kernel_rfl) rfl rfl (fun hp => ⟨?_, ?_, ?_, ?_, ?_, ?_, ?_, ?_, ?_, ?_, ?_, ?_, trivial⟩) ?_
 ·exact q_loadSt (off := 0) (l := 6) (fs := [.n A, .n B, .n C]) (gs := [.n A, .n B, .n C]) hp (free_of rfl) trivial (mq 2 rfl) (.inl rfl) rfl row_api_Form rfl (sqo 10) (fun v w h => h)
 ·exact q_addr (b := b5_11) (off := 0) (off' := 0) hp (free_of rfl) trivial (sqo 9) (fun ρ w h => by simp [execOp, go_sem, h]) (fun _ => rfl)
 ·exact q_loadSt (off := 0) (l := 2) (fs := [.n u1, .n u2, .n u3]) (gs := [.n u1]) hp (free_of rfl) trivial (mq 6 rfl) (.inl rfl) rfl row_api_Int rfl (sqi 1) (fun v w h => st_num h)
 ·exact q_addr (b := b5_11) (off := 0) (off' := 2) hp (free_of rfl) trivial (sqo 9) (fun ρ w h => by simp [execOp, go_sem, h]) (fun _ => rfl)
 ·exact q_loadSt (off := 2) (l := 2) (fs := [.n u1, .n u2, .n u3]) (gs := [.n u2]) hp (free_of rfl) trivial (mq 6 rfl) (.inl rfl) rfl row_api_Int rfl (sqi 3) (fun v w h => st_num h)
 ·exact q_call3 (F := (Fq.st [.n A, .n B, .n C]).P) (G := (Fq.num u1).P) (F3 := (Fq.num u2).P) hp (free_of rfl) trivial (enq_f_algorist_quadratic_Value) (sqi 0) (sqi 2) (sqi 4) (fun v v' u w h h' g => exPValue h h' g (Int.lt_of_lt_of_le BA.out (pw_le (by omega))) (Int.lt_of_lt_of_le BB.out (pw_le (by omega))) (Int.lt_of_lt_of_le BC.out (pw_le (by omega))) (Int.lt_of_lt_of_le Bu1.out (pw_le (by omega))) (Int.lt_of_lt_of_le Bu2.out (pw_le (by omega))))
 ·exact q_loadSt (off := 0) (l := 6) (fs := [.n a, .n b, .n c]) (gs := [.n a, .n b, .n c]) hp (free_of rfl) trivial (mq 3 rfl) (.inl rfl) rfl row_api_Form rfl (sqo 6) (fun v w h => h)
 ·exact q_loadInt (off := 0) hp (free_of rfl) trivial (mq 0 rfl) (.inl rfl) (Nat.le_of_ble_eq_true rfl) (sqo 11) (fun us w hl h => ld_num hl h)
 ·exact q_loadInt (off := 0) hp (free_of rfl) trivial (mq 1 rfl) (.inl rfl) (Nat.le_of_ble_eq_true rfl) (sqo 12) (fun us w hl h => ld_num hl h)
 ·exact q_call3 (F := (Fq.st [.n a, .n b, .n c]).P) (G := (Fq.num ((x1 * u1) + (x2 * u2))).P) (F3 := (Fq.num ((x3 * u1) + (x4 * u2))).P) hp (free_of rfl) trivial (enq_f_algorist_quadratic_Value) (sqi 6) (sqi 7) (sqi 8) (fun v v' u w h h' g => exPValue h h' g (Int.lt_of_lt_of_le Ba.out (pw_le (by omega))) (Int.lt_of_lt_of_le Bb.out (pw_le (by omega))) (Int.lt_of_lt_of_le Bc.out (pw_le (by omega))) (Int.lt_of_lt_of_le B22.out (pw_le (by omega))) (Int.lt_of_lt_of_le B25.out (pw_le (by omega))))
 ·exact q_call2 (F := (Fq.num (qv A B C u1 u2)).P) (G := (Fq.num (qv a b c ((x1 * u1) + (x2 * u2)) ((x3 * u1) + (x4 * u2)))).P) hp (free_of rfl) trivial (enq_R_Same) (sqi 5) (sqi 9) (fun v v' w h h' => exRSameB h h' HM1.out)
 ·exact q_one (F := fun v _ => v = .bool true) hp (free_of rfl) trivial (sqi 10) (fun ρ w _ h => ⟨.bool false, by simp [execOp, go_sem, h], rfl⟩)
 intro L vs w27 nb hL hC hn E27
 have e1 : vs 1 = .pointer (some ⟨b5_11, 0, none⟩) := hC 1 (by simp)
 have e3 : vs 3 = .pointer (some ⟨b5_11, 2, none⟩) := hC 3 (by simp)
 have e10 : vs 10 = .bool true := hC 10 (by simp)
 have e11 : vs 11 = .bool false := hC 11 (by simp)
 have E : Fr w [(b26_22, 2, Fq.num ((x1 * u1) + (x2 * u2))), (b26_23, 2, Fq.num ((x3 * u1) + (x4 * u2))), (b6_3, 6, Fq.st [.n A, .n B, .n C]), (b5_8, 6, Fq.st [.n a, .n b, .n c]), (b5_9, 8, Fq.st [.n x1, .n x2, .n x3, .n x4]), (b5_10, 8, Fq.st [.n y1, .n y2, .n y3, .n y4]), (b5_11, 6, Fq.st [.n u1, .n u2, .n u3]), (b2, 14, Fq.odd7 n8 a8 k8 c8 xs8 n9 a9 k9 c9 xs9 n10 a10 k10 c10 xs10 n11 a11 k11 c11 xs11 n12 a12 k12 c12 xs12 n13 a13 k13 c13 xs13 n14 a14 k14 c14 xs14), (b1, 14, Fq.odd7 n1 a1 k1 c1 xs1 n2 a2 k2 c2 xs2 n3 a3 k3 c3 xs3 n4 a4 k4 c4 xs4 n5 a5 k5 c5 xs5 n6 a6 k6 c6 xs6 n7 a7 k7 c7 xs7)] w27 := E27
 rw [lay_all hL]
 simp only [putAll, dstOf, List.length_cons, List.length_nil, Nat.zero_add, Nat.reduceAdd, List.getElem?_toArray, List.getElem?_cons_zero, List.getElem?_cons_succ, Option.bind_some, Act.put, List.setIfInBounds_toArray, List.set_cons_succ, List.set_cons_zero]
 rw [e1, e3, e10, e11]
 generalize vs 0 = u27_0
 generalize vs 2 = u27_2
 generalize vs 4 = u27_4
 generalize vs 5 = u27_5
 generalize vs 6 = u27_6
 generalize vs 7 = u27_7
 generalize vs 8 = u27_8
 generalize vs 9 = u27_9
 clear e1 e3 e10 e11 hC hn E27 hL vs L nb
 go_upto_region 11 with (fail)
 have B28 : Hid (ab ((x1 * x4)) < pw 6) := ab_mulM Bx1.out Bx4.out (by omega)
 have B29 : Hid (ab ((x2 * x3)) < pw 6) := ab_mulM Bx2.out Bx3.out (by omega)
 have B30 : Hid (ab (((x1 * x4) - (x2 * x3))) < pw 7) := ab_subB B28.out B29.out (by omega) (by omega)
 refine region_fr (C := [Fq.st [.n x1, .n x2, .n x3, .n x4], Fq.num ((x1 * x4) - (x2 * x3)), Fq.any, Fq.any]) (ks := [none, none, none, none, none, none, none, none, none]) (new := [⟨2, 3, 2, Fq.num 0, Fq.num ((x1 * x4) - (x2 * x3)), none⟩]) E rfl (by kernel_rfl) rfl rfl (fun hp => ⟨?_, ?_, ?_, ?_, trivial⟩) ?_
 ·exact q_loadSt (off := 0) (l := 8) (fs := [.n x1, .n x2, .n x3, .n x4]) (gs := [.n x1, .n x2, .n x3, .n x4]) hp (free_of rfl) trivial (mq 4 rfl) (.inl rfl) rfl row_api_Mat rfl (sqo 7) (fun v w h => h)
 ·exact q_call1 (F := (Fq.st [.n x1, .n x2, .n x3, .n x4]).P) hp (free_of rfl) trivial (enq_f_algorist_quadratic_Det) (sqi 0) (fun v w h => exPDet h (Int.lt_of_lt_of_le Bx1.out (pw_le (by omega))) (Int.lt_of_lt_of_le Bx2.out (pw_le (by omega))) (Int.lt_of_lt_of_le Bx3.out (pw_le (by omega))) (Int.lt_of_lt_of_le Bx4.out (pw_le (by omega))))
 ·exact q_allocInt hp (mq 0 rfl) rfl rfl rfl rfl (Nat.ne_of_beq_eq_false rfl) (fun _ _ => trivial) (old_ne rfl) (newk_ne rfl) (fun w => Num.zero w)
 ·exact q_storeNewInt hp (mq 0 rfl) rfl rfl rfl (own_ptr rfl rfl (by simp) rfl) (sq_in 1 rfl rfl (by simp) rfl (fun v w h => intV_num h)) (fun _ _ => trivial) (old_ne rfl) (newi_ne rfl)
 intro L vs w31 nb hL hC hn E31
 have e2 : vs 2 = .pointer (some ⟨nb 2, 0, none⟩) := hn _ (mq 0 rfl)
 have E : Fr w [(nb 2, 2, Fq.num ((x1 * x4) - (x2 * x3))), (b26_22, 2, Fq.num ((x1 * u1) + (x2 * u2))), (b26_23, 2, Fq.num ((x3 * u1) + (x4 * u2))), (b6_3, 6, Fq.st [.n A, .n B, .n C]), (b5_8, 6, Fq.st [.n a, .n b, .n c]), (b5_9, 8, Fq.st [.n x1, .n x2, .n x3, .n x4]), (b5_10, 8, Fq.st [.n y1, .n y2, .n y3, .n y4]), (b5_11, 6, Fq.st [.n u1, .n u2, .n u3]), (b2, 14, Fq.odd7 n8 a8 k8 c8 xs8 n9 a9 k9 c9 xs9 n10 a10 k10 c10 xs10 n11 a11 k11 c11 xs11 n12 a12 k12 c12 xs12 n13 a13 k13 c13 xs13 n14 a14 k14 c14 xs14), (b1, 14, Fq.odd7 n1 a1 k1 c1 xs1 n2 a2 k2 c2 xs2 n3 a3 k3 c3 xs3 n4 a4 k4 c4 xs4 n5 a5 k5 c5 xs5 n6 a6 k6 c6 xs6 n7 a7 k7 c7 xs7)] w31 := E31
 rw [lay_all hL]
 simp only [putAll, dstOf, List.length_cons, List.length_nil, Nat.zero_add, Nat.reduceAdd, List.getElem?_toArray, List.getElem?_cons_zero, List.getElem?_cons_succ, Option.bind_some, Act.put, List.setIfInBounds_toArray, List.set_cons_succ, List.set_cons_zero]
 rw [e2]
 generalize nb 2 = b31_2 at E ⊢
 generalize vs 0 = u31_0
 generalize vs 1 = u31_1
 clear e2 hC hn E31 hL vs L nb
 go_upto_region 12 with (fail)
 have B32 : Hid (ab (4) < pw 3) := (ab_i64 (by decide) (by decide))
 have B33 : Hid (ab ((B * B)) < pw 30) := ab_mulM BB.out BB.out (by omega)
 have B34 : Hid (ab ((A * C)) < pw 22) := ab_mulM BA.out BC.out (by omega)
 have B35 : Hid (ab ((4 * (A * C))) < pw 25) := ab_mulM B32.out B34.out (by omega)
 have B36 : Hid (ab (((B * B) - (4 * (A * C)))) < pw 31) := ab_subB B33.out B35.out (by omega) (by omega)
 have B37 : Hid (ab ((b * b)) < pw 6) := ab_mulM Bb.out Bb.out (by omega)
 have B38 : Hid (ab ((a * c)) < pw 6) := ab_mulM Ba.out Bc.out (by omega)
 have B39 : Hid (ab ((4 * (a * c))) < pw 9) := ab_mulM B32.out B38.out (by omega)
 have B40 : Hid (ab (((b * b) - (4 * (a * c)))) < pw 10) := ab_subB B37.out B39.out (by omega) (by omega)
 have B41 : Hid (ab ((((x1 * x4) - (x2 * x3)) * ((x1 * x4) - (x2 * x3)))) < pw 14) := ab_mulM B30.out B30.out (by omega)
 have B42 : Hid (ab ((((b * b) - (4 * (a * c))) * (((x1 * x4) - (x2 * x3)) * ((x1 * x4) - (x2 * x3))))) < pw 24) := ab_mulM B40.out B41.out (by omega)
 have B43 : Hid (ab ((((x1 * y1) + (x2 * y3)) * ((x3 * y2) + (x4 * y4)))) < pw 14) := ab_mulM B9.out B18.out (by omega)
 have B44 : Hid (ab ((((x1 * y2) + (x2 * y4)) * ((x3 * y1) + (x4 * y3)))) < pw 14) := ab_mulM B12.out B15.out (by omega)
 have B45 : Hid (ab (((((x1 * y1) + (x2 * y3)) * ((x3 * y2) + (x4 * y4))) - (((x1 * y2) + (x2 * y4)) * ((x3 * y1) + (x4 * y3))))) < pw 15) := ab_subB B43.out B44.out (by omega) (by omega)
 have B46 : Hid (ab ((y1 * y4)) < pw 6) := ab_mulM By1.out By4.out (by omega)
 have B47 : Hid (ab ((y2 * y3)) < pw 6) := ab_mulM By2.out By3.out (by omega)
 have B48 : Hid (ab (((y1 * y4) - (y2 * y3))) < pw 7) := ab_subB B46.out B47.out (by omega) (by omega)
 have B49 : Hid (ab ((((x1 * x4) - (x2 * x3)) * ((y1 * y4) - (y2 * y3)))) < pw 14) := ab_mulM B30.out B48.out (by omega)
 refine region_fr (C := [Fq.st [.n A, .n B, .n C], Fq.num ((B * B) - (4 * (A * C))), Fq.st [.n a, .n b, .n c], Fq.num ((b * b) - (4 * (a * c))), Fq.num ((x1 * x4) - (x2 * x3)), Fq.num ((x1 * x4) - (x2 * x3)), Fq.num (((x1 * x4) - (x2 * x3)) * ((x1 * x4) - (x2 * x3))), Fq.num (((b * b) - (4 * (a * c))) * (((x1 * x4) - (x2 * x3)) * ((x1 * x4) - (x2 * x3)))), Fq.is (.bool true), Fq.is (.bool true), Fq.st [.n x1, .n x2, .n x3, .n x4], Fq.st [.n y1, .n y2, .n y3, .n y4], Fq.st [.n ((x1 * y1) + (x2 * y3)), .n ((x1 * y2) + (x2 * y4)), .n ((x3 * y1) + (x4 * y3)), .n ((x3 * y2) + (x4 * y4))], Fq.num ((((x1 * y1) + (x2 * y3)) * ((x3 * y2) + (x4 * y4))) - (((x1 * y2) + (x2 * y4)) * ((x3 * y1) + (x4 * y3)))), Fq.num ((x1 * x4) - (x2 * x3)), Fq.st [.n y1, .n y2, .n y3, .n y4], Fq.num ((y1 * y4) - (y2 * y3)), Fq.num (((x1 * x4) - (x2 * x3)) * ((y1 * y4) - (y2 * y3))), Fq.is (.bool true), Fq.is (.bool true), Fq.is (.bool true), Fq.is (.bool true), Fq.is (.bool true), Fq.is (.bool true)]) (ks := [none, none, none, none, none, none, none, none, none, none]) (new := []) E rfl (by kernel_rfl) rfl rfl (fun hp => ⟨?_, ?_, ?_, ?_, ?_, ?_, ?_, ?_, ?_, ?_, ?_, ?_, ?_, ?_, ?_, ?_, ?_, ?_, ?_, ?_, ?_, ?_, ?_, ?_, trivial⟩) ?_
 ·exact q_loadSt (off := 0) (l := 6) (fs := [.n A, .n B, .n C]) (gs := [.n A, .n B, .n C]) hp (free_of rfl) trivial (mq 3 rfl) (.inl rfl) rfl row_api_Form rfl (sqo 10) (fun v w h => h)
 ·exact q_call1 (F := (Fq.st [.n A, .n B, .n C]).P) hp (free_of rfl) trivial (enq_f_algorist_quadratic_Disc) (sqi 0) (fun v w h => exPDisc h (Int.lt_of_lt_of_le BA.out (pw_le (by omega))) (Int.lt_of_lt_of_le BB.out (pw_le (by omega))) (Int.lt_of_lt_of_le BC.out (pw_le (by omega))))
 ·exact q_loadSt (off := 0) (l := 6) (fs := [.n a, .n b, .n c]) (gs := [.n a, .n b, .n c]) hp (free_of rfl) trivial (mq 4 rfl) (.inl rfl) rfl row_api_Form rfl (sqo 6) (fun v w h => h)
 ·exact q_call1 (F := (Fq.st [.n a, .n b, .n c]).P) hp (free_of rfl) trivial (enq_f_algorist_quadratic_Disc) (sqi 2) (fun v w h => exPDisc h (Int.lt_of_lt_of_le Ba.out (pw_le (by omega))) (Int.lt_of_lt_of_le Bb.out (pw_le (by omega))) (Int.lt_of_lt_of_le Bc.out (pw_le (by omega))))
 ·exact q_loadInt (off := 0) hp (free_of rfl) trivial (mq 0 rfl) (.inl rfl) (Nat.le_of_ble_eq_true rfl) (sqo 13) (fun us w hl h => ld_num hl h)
 ·exact q_loadInt (off := 0) hp (free_of rfl) trivial (mq 0 rfl) (.inl rfl) (Nat.le_of_ble_eq_true rfl) (sqo 13) (fun us w hl h => ld_num hl h)
 ·exact q_call2 (F := (Fq.num ((x1 * x4) - (x2 * x3))).P) (G := (Fq.num ((x1 * x4) - (x2 * x3))).P) hp (free_of rfl) trivial (enq_R_Mul) (sqi 4) (sqi 5) (fun v v' w h h' => exK (RMulV h h') B41.out (by omega))
 ·exact q_call2 (F := (Fq.num ((b * b) - (4 * (a * c)))).P) (G := (Fq.num (((x1 * x4) - (x2 * x3)) * ((x1 * x4) - (x2 * x3)))).P) hp (free_of rfl) trivial (enq_R_Mul) (sqi 3) (sqi 6) (fun v v' w h h' => exK (RMulV h h') B42.out (by omega))
 ·exact q_call2 (F := (Fq.num ((B * B) - (4 * (A * C)))).P) (G := (Fq.num (((b * b) - (4 * (a * c))) * (((x1 * x4) - (x2 * x3)) * ((x1 * x4) - (x2 * x3))))).P) hp (free_of rfl) trivial (enq_R_Same) (sqi 1) (sqi 7) (fun v v' w h h' => exRSameB h h' HM2.out)
 ·exact q_move hp (free_of rfl) trivial (sqi 8)
 ·exact q_loadSt (off := 0) (l := 8) (fs := [.n x1, .n x2, .n x3, .n x4]) (gs := [.n x1, .n x2, .n x3, .n x4]) hp (free_of rfl) gqi (mq 5 rfl) (.inl rfl) rfl row_api_Mat rfl (sqo 7) (fun v w h => h)
 ·exact q_loadSt (off := 0) (l := 8) (fs := [.n y1, .n y2, .n y3, .n y4]) (gs := [.n y1, .n y2, .n y3, .n y4]) hp (free_of rfl) gqi (mq 6 rfl) (.inl rfl) rfl row_api_Mat rfl (sqo 8) (fun v w h => h)
 ·exact q_call2 (F := (Fq.st [.n x1, .n x2, .n x3, .n x4]).P) (G := (Fq.st [.n y1, .n y2, .n y3, .n y4]).P) hp (free_of rfl) gqi (enq_f_algorist_quadratic_Times) (sqi 10) (sqi 11) (fun v v' w h h' => exPTimes h h' (Int.lt_of_lt_of_le Bx1.out (pw_le (by omega))) (Int.lt_of_lt_of_le Bx2.out (pw_le (by omega))) (Int.lt_of_lt_of_le Bx3.out (pw_le (by omega))) (Int.lt_of_lt_of_le Bx4.out (pw_le (by omega))) (Int.lt_of_lt_of_le By1.out (pw_le (by omega))) (Int.lt_of_lt_of_le By2.out (pw_le (by omega))) (Int.lt_of_lt_of_le By3.out (pw_le (by omega))) (Int.lt_of_lt_of_le By4.out (pw_le (by omega))))
 ·exact q_call1 (F := (Fq.st [.n ((x1 * y1) + (x2 * y3)), .n ((x1 * y2) + (x2 * y4)), .n ((x3 * y1) + (x4 * y3)), .n ((x3 * y2) + (x4 * y4))]).P) hp (free_of rfl) gqi (enq_f_algorist_quadratic_Det) (sqi 12) (fun v w h => exPDet h (Int.lt_of_lt_of_le B9.out (pw_le (by omega))) (Int.lt_of_lt_of_le B12.out (pw_le (by omega))) (Int.lt_of_lt_of_le B15.out (pw_le (by omega))) (Int.lt_of_lt_of_le B18.out (pw_le (by omega))))
 ·exact q_loadInt (off := 0) hp (free_of rfl) gqi (mq 0 rfl) (.inl rfl) (Nat.le_of_ble_eq_true rfl) (sqo 13) (fun us w hl h => ld_num hl h)
 ·exact q_loadSt (off := 0) (l := 8) (fs := [.n y1, .n y2, .n y3, .n y4]) (gs := [.n y1, .n y2, .n y3, .n y4]) hp (free_of rfl) gqi (mq 6 rfl) (.inl rfl) rfl row_api_Mat rfl (sqo 8) (fun v w h => h)
 ·exact q_call1 (F := (Fq.st [.n y1, .n y2, .n y3, .n y4]).P) hp (free_of rfl) gqi (enq_f_algorist_quadratic_Det) (sqi 15) (fun v w h => exPDet h (Int.lt_of_lt_of_le By1.out (pw_le (by omega))) (Int.lt_of_lt_of_le By2.out (pw_le (by omega))) (Int.lt_of_lt_of_le By3.out (pw_le (by omega))) (Int.lt_of_lt_of_le By4.out (pw_le (by omega))))
 ·exact q_call2 (F := (Fq.num ((x1 * x4) - (x2 * x3))).P) (G := (Fq.num ((y1 * y4) - (y2 * y3))).P) hp (free_of rfl) gqi (enq_R_Mul) (sqi 14) (sqi 16) (fun v v' w h h' => exK (RMulV h h') B49.out (by omega))
 ·exact q_call2 (F := (Fq.num ((((x1 * y1) + (x2 * y3)) * ((x3 * y2) + (x4 * y4))) - (((x1 * y2) + (x2 * y4)) * ((x3 * y1) + (x4 * y3))))).P) (G := (Fq.num (((x1 * x4) - (x2 * x3)) * ((y1 * y4) - (y2 * y3)))).P) hp (free_of rfl) gqi (enq_R_Same) (sqi 13) (sqi 17) (fun v v' w h h' => exRSameB h h' HM3.out)
 ·exact q_two (F := fun v _ => v = .bool true) (G := fun v _ => v = .bool true) hp (free_of rfl) trivial (sqi 9) (sqi 18) (fun ρ w hc h h' => ⟨_, by simp [execOp, go_sem, h, h'], rfl⟩)
 ·exact q_move hp (free_of rfl) trivial (sqi 19)
 ·exact q_move hp (free_of rfl) gqi (sqo 5)
 ·exact q_two (F := fun v _ => v = .bool true) (G := fun v _ => v = .bool true) hp (free_of rfl) trivial (sqi 20) (sqi 21) (fun ρ w hc h h' => ⟨_, by simp [execOp, go_sem, h, h'], rfl⟩)
 ·exact q_assign hp (free_of rfl) trivial (sqi 22)
 intro L vs w50 nb hL hC hn E50
 have e8 : vs 8 = .bool true := hC 8 (by simp)
 have e9 : vs 9 = .bool true := hC 9 (by simp)
 have e18 : vs 18 = .bool true := hC 18 (by simp)
 have e19 : vs 19 = .bool true := hC 19 (by simp)
 have e20 : vs 20 = .bool true := hC 20 (by simp)
 have e21 : vs 21 = .bool true := hC 21 (by simp)
 have e22 : vs 22 = .bool true := hC 22 (by simp)
 have e23 : vs 23 = .bool true := hC 23 (by simp)
 have E : Fr w [(b31_2, 2, Fq.num ((x1 * x4) - (x2 * x3))), (b26_22, 2, Fq.num ((x1 * u1) + (x2 * u2))), (b26_23, 2, Fq.num ((x3 * u1) + (x4 * u2))), (b6_3, 6, Fq.st [.n A, .n B, .n C]), (b5_8, 6, Fq.st [.n a, .n b, .n c]), (b5_9, 8, Fq.st [.n x1, .n x2, .n x3, .n x4]), (b5_10, 8, Fq.st [.n y1, .n y2, .n y3, .n y4]), (b5_11, 6, Fq.st [.n u1, .n u2, .n u3]), (b2, 14, Fq.odd7 n8 a8 k8 c8 xs8 n9 a9 k9 c9 xs9 n10 a10 k10 c10 xs10 n11 a11 k11 c11 xs11 n12 a12 k12 c12 xs12 n13 a13 k13 c13 xs13 n14 a14 k14 c14 xs14), (b1, 14, Fq.odd7 n1 a1 k1 c1 xs1 n2 a2 k2 c2 xs2 n3 a3 k3 c3 xs3 n4 a4 k4 c4 xs4 n5 a5 k5 c5 xs5 n6 a6 k6 c6 xs6 n7 a7 k7 c7 xs7)] w50 := E50
 rw [lay_all hL]
 simp only [putAll, dstOf, List.length_cons, List.length_nil, Nat.zero_add, Nat.reduceAdd, List.getElem?_toArray, List.getElem?_cons_zero, List.getElem?_cons_succ, Option.bind_some, Act.put, List.setIfInBounds_toArray, List.set_cons_succ, List.set_cons_zero]
 rw [e8, e9, e18, e19, e20, e21, e22, e23]
 generalize vs 0 = u50_0
 generalize vs 1 = u50_1
 generalize vs 2 = u50_2
 generalize vs 3 = u50_3
 generalize vs 4 = u50_4
 generalize vs 5 = u50_5
 generalize vs 6 = u50_6
 generalize vs 7 = u50_7
 generalize vs 10 = u50_10
 generalize vs 11 = u50_11
 generalize vs 12 = u50_12
 generalize vs 13 = u50_13
 generalize vs 14 = u50_14
 generalize vs 15 = u50_15
 generalize vs 16 = u50_16
 generalize vs 17 = u50_17
 clear e8 e9 e18 e19 e20 e21 e22 e23 hC hn E50 hL vs L nb
 clear Ea HK1 Eb HK2 Ec HK3 Ex1 HK4 Ex2 HK5 Ex3 HK6 Ex4 HK7 Eu1 HK8 Eu2 HK9 Eu3 HK10 Ey1 HK11 Ey2 HK12 Ey3 HK13 Ey4 HK14 EA EB EC HM0 HM1 HM2 HM3
 clear B7 B8 B9 B10 B11 B12 B13 B14 B15 B16 B17 B18 B20 B21 B22 B23 B24 B25 B28 B29 B30 B32 B33 B34 B35 B36 B37 B38 B39 B40 B41 B42 B43 B44 B45 B46 B47 B48 B49 Ba Bb Bc Bx1 Bx2 Bx3 Bx4 Bu1 Bu2 Bu3 By1 By2 By3 By4 BA BB BC
 go_wp2
 refine bodyPost_ret (v := .bool true) ?_ rfl ⟨_, rfl, E.below, rfl⟩
 simp [results, Try.results3, go_sem]

theorem FormAction_row (w : World) (n1 : Bool) (a1 : Option Addr) (k1 c1 : Nat) (xs1 : List Int) (h1 : Sl w a1 k1 c1 xs1) (hk1 : k1 ≤ 9223372036854775807) (n2 : Bool) (a2 : Option Addr) (k2 c2 : Nat) (xs2 : List Int) (h2 : Sl w a2 k2 c2 xs2) (hk2 : k2 ≤ 9223372036854775807) (n3 : Bool) (a3 : Option Addr) (k3 c3 : Nat) (xs3 : List Int) (h3 : Sl w a3 k3 c3 xs3) (hk3 : k3 ≤ 9223372036854775807) (n4 : Bool) (a4 : Option Addr) (k4 c4 : Nat) (xs4 : List Int) (h4 : Sl w a4 k4 c4 xs4) (hk4 : k4 ≤ 9223372036854775807) (n5 : Bool) (a5 : Option Addr) (k5 c5 : Nat) (xs5 : List Int) (h5 : Sl w a5 k5 c5 xs5) (hk5 : k5 ≤ 9223372036854775807) (n6 : Bool) (a6 : Option Addr) (k6 c6 : Nat) (xs6 : List Int) (h6 : Sl w a6 k6 c6 xs6) (hk6 : k6 ≤ 9223372036854775807) (n7 : Bool) (a7 : Option Addr) (k7 c7 : Nat) (xs7 : List Int) (h7 : Sl w a7 k7 c7 xs7) (hk7 : k7 ≤ 9223372036854775807) (n8 : Bool) (a8 : Option Addr) (k8 c8 : Nat) (xs8 : List Int) (h8 : Sl w a8 k8 c8 xs8) (hk8 : k8 ≤ 9223372036854775807) (n9 : Bool) (a9 : Option Addr) (k9 c9 : Nat) (xs9 : List Int) (h9 : Sl w a9 k9 c9 xs9) (hk9 : k9 ≤ 9223372036854775807) (n10 : Bool) (a10 : Option Addr) (k10 c10 : Nat) (xs10 : List Int) (h10 : Sl w a10 k10 c10 xs10) (hk10 : k10 ≤ 9223372036854775807) (n11 : Bool) (a11 : Option Addr) (k11 c11 : Nat) (xs11 : List Int) (h11 : Sl w a11 k11 c11 xs11) (hk11 : k11 ≤ 9223372036854775807) (n12 : Bool) (a12 : Option Addr) (k12 c12 : Nat) (xs12 : List Int) (h12 : Sl w a12 k12 c12 xs12) (hk12 : k12 ≤ 9223372036854775807) (n13 : Bool) (a13 : Option Addr) (k13 c13 : Nat) (xs13 : List Int) (h13 : Sl w a13 k13 c13 xs13) (hk13 : k13 ≤ 9223372036854775807) (n14 : Bool) (a14 : Option Addr) (k14 c14 : Nat) (xs14 : List Int) (h14 : Sl w a14 k14 c14 xs14) (hk14 : k14 ≤ 9223372036854775807) : Calls Try.prog 3 #[.agg #[.bool n1, .slice a1 k1 c1, .bool n2, .slice a2 k2 c2, .bool n3, .slice a3 k3 c3, .bool n4, .slice a4 k4 c4, .bool n5, .slice a5 k5 c5, .bool n6, .slice a6 k6 c6, .bool n7, .slice a7 k7 c7], .agg #[.bool n8, .slice a8 k8 c8, .bool n9, .slice a9 k9 c9, .bool n10, .slice a10 k10 c10, .bool n11, .slice a11 k11 c11, .bool n12, .slice a12 k12 c12, .bool n13, .slice a13 k13 c13, .bool n14, .slice a14 k14 c14]] w fun e w' => e = .returned (.bool true) ∧ Below w.heap.size w w' := by
 refine (FormAction_any w n1 a1 k1 c1 xs1 h1 hk1 n2 a2 k2 c2 xs2 h2 hk2 n3 a3 k3 c3 xs3 h3 hk3 n4 a4 k4 c4 xs4 h4 hk4 n5 a5 k5 c5 xs5 h5 hk5 n6 a6 k6 c6 xs6 h6 hk6 n7 a7 k7 c7 xs7 h7 hk7 n8 a8 k8 c8 xs8 h8 hk8 n9 a9 k9 c9 xs9 h9 hk9 n10 a10 k10 c10 xs10 h10 hk10 n11 a11 k11 c11 xs11 h11 hk11 n12 a12 k12 c12 xs12 h12 hk12 n13 a13 k13 c13 xs13 h13 hk13 n14 a14 k14 c14 xs14 h14 hk14).mono ?_
 rintro e w' ⟨v', rfl, hb, rfl⟩
 exact ⟨rfl, hb⟩

end Go.Proofs.Ytdhkhedhnolcjaa
