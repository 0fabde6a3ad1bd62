/- Os, Mg, Mh, Mi, Mj, Mk, Pn, Pd, Pe, Pg, Pf, Pk, Ps, Ph, Pi, Pj, Qf, Pq, Qg, Pr, Pt, Pu, Ml, Mm, Mo, Mq, Ms, Mu, Mw, Mx, Na, Nb, Nc, Pv, Px, Qh, Qi, Ot, Ou, Ov, Ng, Nf. -/
import Derived.Test.YtihhlaagndingaaBg4
import Derived.WalkSmall
import Derived.Shelf.Spec.TrailingZeros
import Derived.Shelf.Bits.Mul64
import Derived.Lib.BitFns
import Derived.Lib.Walk
import Derived.Lib.Small
import Derived.RangeFuncNested
import Derived.RangeFuncBound
import Derived.RangeFuncCalls
import Derived.RangeFuncLeaves
import Derived.Shelf.Abstract
import Derived.Shelf.RegionOpen
import Derived.WalkKit
import Derived.OwnWalkIn
import Derived.TacticsInMore
import Derived.LoopNIn
import Derived.LoopIn
import Derived.Laws.OwnMore
import Derived.Deep.AppendLies
import Derived.Recover
import Derived.Laws.Pointers
namespace Go.Proofs.Ytihhlaagndingaa
open Go Go.RowKit

theorem onB_ok {A B M : Int} {P : Pt} (h : onB A B M P.x P.y P.i = true) : P.Ok M ∧ 3 < M := by
 obtain ⟨x, y, i⟩ := P
 simp only [onB, Bool.and_eq_true] at h
 have hc := curve_of h.1
 refine ⟨?_, hc.2.1.1⟩
 have h2 := h.2
 unfold ptB at h2
 cases i with
 | true => simp at h2; obtain ⟨rfl, rfl⟩ := h2; exact ⟨by show (0 : Int) ≤ 0; omega, by show (0 : Int) < M; omega, by show (0 : Int) ≤ 0; omega, by show (0 : Int) < M; omega⟩
 | false =>
  simp only [resB, Bool.and_eq_true, decide_eq_true_eq, Bool.false_eq_true, if_false] at h2
  exact ⟨h2.1.1, h2.1.2, h2.2.1.1, h2.2.1.2⟩
set_option maxRecDepth 100000 in
set_option maxHeartbeats 4000000 in
theorem exExisting {w : World} {v v' : Value} {x y d : Int} {i : Bool} (h : (Fq.st [.n x, .n y, .v (.bool i)]).P v w) (h' : Num w v' d) (hd : d = 0) :
  Calls Try.prog 80 #[v, v'] w fun e w' => ∃ v', e = .returned v' ∧ Below w.heap.size w w' ∧ (Fq.st [.n x, .n y, .v (.bool i)]).P v' w' := by
 obtain ⟨_, rfl, hf0⟩ := h
 have hF0 := hf0
 obtain ⟨y0_p0, y0_q0, _, rfl, _y0_n0, y0_p1, y0_q1, _, rfl, _y0_n1, _, rfl, _, rfl⟩ := hf0
 obtain ⟨n1, ao1, k1, c1, rfl⟩ := h'.parts
 obtain ⟨w1, b1, hw1, hb1, hs1, E⟩ := fr_start w (F := Fq.st [.n x, .n y, .v (.bool i)]) (us := [y0_p0, y0_q0, y0_p1, y0_q1, .bool i]) 37 rfl (by simp) (hF0.tame) (show (Fq.st [.n x, .n y, .v (.bool i)]).P _ w from ⟨_, rfl, hF0⟩)
 obtain ⟨w2, b2, hw2, hb2, hs2, E⟩ := fr_more E hs1 (F := Fq.num d) (us := [.bool n1, .slice ao1 k1 c1]) 29 rfl (by simp) (tame_int _ _ _ _) (h'.mono E.below)
 obtain ⟨w3, b3, hw3, hb3, hs3, E⟩ := fr_more E hs2 (F := Fq.st [.n 0, .n 0, .v (.bool false)]) (us := [.bool false, .slice none 0 0, .bool false, .slice none 0 0, .bool false]) 37 rfl (by simp) ((Fits.tame (fits0_api_Point w))) (fits0P_api_Point _)
 go_enter Try.func80, Try.ntmps80
 go_upto_region 1 with (fail)
 rw [← hw1]
 rw [← hw2]
 rw [← hw3]
 rw [← hb3]
 rw [← hb2]
 rw [← hb1]
 clear hw1 hw2 hw3 hb1 hb2 hb3 hs3 hs1 hs2
 subst hd
 have T1 : Hid (cmpI 0 0 = 0) := cmpIq0.2 rfl
 refine region_fr (C := [Fq.num 0, Fq.is (.int .i64 (cmpI 0 0)), Fq.is (.bool false)]) (ks := [none, none, none]) (new := []) E rfl (by kernel_rfl) rfl rfl (fun hp => ⟨?_, ?_, ?_, trivial⟩) ?_
 ·exact q_loadInt (off := 0) hp (free_of rfl) trivial (mq 1 rfl) (.inl rfl) (Nat.le_of_ble_eq_true rfl) (sqo 3) (fun us w hl h => ld_num hl h)
 ·exact q_call1 (F := (Fq.num 0).P) hp (free_of rfl) trivial (enq_Sign) (sqi 0) (fun v w h => exSign h)
 ·exact q_one (F := fun v _ => v = .int .i64 (cmpI 0 0)) hp (free_of rfl) trivial (sqi 1) (fun ρ w hc h => ⟨.bool false, by simp [execOp, go_sem, h, hc, T1.out], rfl⟩)
 intro L vs w4 nb hL hC hn E4
 have e1 : vs 1 = .int .i64 (cmpI 0 0) := hC 1 (by simp)
 have e2 : vs 2 = .bool false := hC 2 (by simp)
 have E : Fr w [(b3, 5, Fq.st [.n 0, .n 0, .v (.bool false)]), (b2, 2, Fq.num 0), (b1, 5, Fq.st [.n x, .n y, .v (.bool i)])] w4 := E4
 rw [lay_all hL]
 simp only [putAll, dstOf, List.length_cons, List.length_nil, Nat.zero_add, Nat.reduceAdd, List.getElem?_toArray, List.getElem?_cons_zero, List.getElem?_cons_succ, Option.bind_some, Act.put, List.setIfInBounds_toArray, List.set_cons_succ, List.set_cons_zero]
 rw [e1, e2]
 generalize vs 0 = u4_0
 clear e1 e2 hC hn E4 hL vs L nb
 clear T1
 go_upto_region 3 with (fail)
 refine region_fr (C := [Fq.st [.n x, .n y, .v (.bool i)], Fq.any]) (ks := [some (1, Fq.st [.n x, .n y, .v (.bool i)]), none, none]) (new := []) E rfl (by kernel_rfl) rfl rfl (fun hp => ⟨?_, ?_, trivial⟩) ?_
 ·exact q_loadSt (off := 0) (l := 5) (fs := [.n x, .n y, .v (.bool i)]) (gs := [.n x, .n y, .v (.bool i)]) hp (free_of rfl) trivial (mq 2 rfl) (.inl rfl) rfl row_api_Point rfl (sqo 2) (fun v w h => h)
 ·exact q_storeOldSt (off := 0) (fs := [.n 0, .n 0, .v (.bool false)]) (gs := [.n x, .n y, .v (.bool i)]) (fs' := [.n x, .n y, .v (.bool i)]) hp (mq 0 rfl) rfl rfl rfl size_api_Point rfl (sqo 4) (sq_in 0 rfl rfl (by simp) rfl (fun v w h => fitv_st h)) (fun _ _ => trivial) (newik_ne rfl)
 intro L vs w5 nb hL hC hn E5
 have E : Fr w [(b3, 5, Fq.st [.n x, .n y, .v (.bool i)]), (b2, 2, Fq.num 0), (b1, 5, Fq.st [.n x, .n y, .v (.bool i)])] w5 := E5
 rw [lay_all hL]
 simp only [putAll, dstOf, List.length_cons, List.length_nil, Nat.zero_add, Nat.reduceAdd, List.getElem?_toArray, List.getElem?_cons_zero, List.getElem?_cons_succ, Option.bind_some, Act.put, List.setIfInBounds_toArray, List.set_cons_succ, List.set_cons_zero]
 generalize vs 0 = u5_0
 clear  hC hn E5 hL vs L nb
 obtain ⟨_, _, hc0, hf0⟩ := box_st (E.box 0 rfl)
 have hP0 := hf0
 obtain ⟨r0_p0, r0_q0, _, rfl, _r0_n0, r0_p1, r0_q1, _, rfl, _r0_n1, _, rfl, _, rfl⟩ := hf0
 have c0_0 := hc0 0 (by simp)
 have c0_1 := hc0 1 (by simp)
 have c0_2 := hc0 2 (by simp)
 have c0_3 := hc0 3 (by simp)
 have c0_4 := hc0 4 (by simp)
 simp only [List.getD_cons_zero, List.getD_cons_succ] at c0_0 c0_1 c0_2 c0_3 c0_4
 clear hc0
 go_wp2
 refine bodyPost_ret (v := .agg #[r0_p0, r0_q0, r0_p1, r0_q1, .bool i]) ?_ rfl ⟨_, rfl, E.below, ⟨_, rfl, hP0⟩⟩
 simp [results, Try.results80, go_sem, c0_0, c0_1, c0_2, c0_3, c0_4]

set_option maxRecDepth 100000 in
set_option maxHeartbeats 4000000 in
theorem exExistingP {w : World} {v v' : Value} {x y d : Int} {i : Bool} (h : (Fq.st [.n x, .n y, .v (.bool i)]).P v w) (h' : Num w v' d) (hd : ¬ d = 0) :
  Calls Try.prog 80 #[v, v'] w fun e w' => ∃ v', e = .panicked [{ v := .iface 29 v', recovered := false }] ∧ Below w.heap.size w w' ∧ Num w' v' d := by
 obtain ⟨_, rfl, hf0⟩ := h
 have hF0 := hf0
 obtain ⟨y0_p0, y0_q0, _, rfl, _y0_n0, y0_p1, y0_q1, _, rfl, _y0_n1, _, rfl, _, rfl⟩ := hf0
 obtain ⟨n1, ao1, k1, c1, rfl⟩ := h'.parts
 obtain ⟨w1, b1, hw1, hb1, hs1, E⟩ := fr_start w (F := Fq.st [.n x, .n y, .v (.bool i)]) (us := [y0_p0, y0_q0, y0_p1, y0_q1, .bool i]) 37 rfl (by simp) (hF0.tame) (show (Fq.st [.n x, .n y, .v (.bool i)]).P _ w from ⟨_, rfl, hF0⟩)
 obtain ⟨w2, b2, hw2, hb2, hs2, E⟩ := fr_more E hs1 (F := Fq.num d) (us := [.bool n1, .slice ao1 k1 c1]) 29 rfl (by simp) (tame_int _ _ _ _) (h'.mono E.below)
 obtain ⟨w3, b3, hw3, hb3, hs3, E⟩ := fr_more E hs2 (F := Fq.st [.n 0, .n 0, .v (.bool false)]) (us := [.bool false, .slice none 0 0, .bool false, .slice none 0 0, .bool false]) 37 rfl (by simp) ((Fits.tame (fits0_api_Point w))) (fits0P_api_Point _)
 go_enter Try.func80, Try.ntmps80
 go_upto_region 1 with (fail)
 rw [← hw1]
 rw [← hw2]
 rw [← hw3]
 rw [← hb3]
 rw [← hb2]
 rw [← hb1]
 clear hw1 hw2 hw3 hb1 hb2 hb3 hs3 hs1 hs2
 have T1 : Hid (¬ cmpI d 0 = 0) := fun e => hd (cmpIq0.1 e)
 clear hd
 refine region_fr (C := [Fq.num d, Fq.is (.int .i64 (cmpI d 0)), Fq.is (.bool true)]) (ks := [none, none, none]) (new := []) E rfl (by kernel_rfl) rfl rfl (fun hp => ⟨?_, ?_, ?_, trivial⟩) ?_
 ·exact q_loadInt (off := 0) hp (free_of rfl) trivial (mq 1 rfl) (.inl rfl) (Nat.le_of_ble_eq_true rfl) (sqo 3) (fun us w hl h => ld_num hl h)
 ·exact q_call1 (F := (Fq.num d).P) hp (free_of rfl) trivial (enq_Sign) (sqi 0) (fun v w h => exSign h)
 ·exact q_one (F := fun v _ => v = .int .i64 (cmpI d 0)) hp (free_of rfl) trivial (sqi 1) (fun ρ w hc h => ⟨.bool true, by simp [execOp, go_sem, h, hc, T1.out], rfl⟩)
 intro L vs w4 nb hL hC hn E4
 have e1 : vs 1 = .int .i64 (cmpI d 0) := hC 1 (by simp)
 have e2 : vs 2 = .bool true := hC 2 (by simp)
 have E : Fr w [(b3, 5, Fq.st [.n 0, .n 0, .v (.bool false)]), (b2, 2, Fq.num d), (b1, 5, Fq.st [.n x, .n y, .v (.bool i)])] w4 := E4
 rw [lay_all hL]
 simp only [putAll, dstOf, List.length_cons, List.length_nil, Nat.zero_add, Nat.reduceAdd, List.getElem?_toArray, List.getElem?_cons_zero, List.getElem?_cons_succ, Option.bind_some, Act.put, List.setIfInBounds_toArray, List.set_cons_succ, List.set_cons_zero]
 rw [e1, e2]
 generalize vs 0 = u4_0
 clear e1 e2 hC hn E4 hL vs L nb
 clear T1
 obtain ⟨p0, p1, c0, c1, hP⟩ := box_num (E.box 1 rfl)
 go_wp2
 exact ⟨rfl, _, rfl, E.below, hP⟩

set_option maxRecDepth 100000 in
set_option maxHeartbeats 4000000 in
theorem exNegN {w : World} {v v' : Value} {A B M : Int} {P : Pt} (h : (Fq.st [.n A, .n B, .n M]).P v w) (h' : (Fq.pt P).P v' w) (hM : ab M < pw 5) (hA : ab A < pw 5) (hB : ab B < pw 5) (hP : ab P.x < pw 5 ∧ ab P.y < pw 5) (ht : onB A B M P.x P.y P.i = true) :
  Calls Try.prog 16 #[v, v'] w fun e w' => ∃ v', e = .returned v' ∧ Below w.heap.size w w' ∧ (Fq.tup2 (Fq.pt (oppP M P)) (Fq.is (.int .i64 0))).P v' w' := by
 replace hM := hidd hM
 replace hA := hidd hA
 replace hB := hidd hB
 replace hP := hidd hP
 replace ht := hidd ht
 obtain ⟨_, rfl, hf0⟩ := h
 have hF0 := hf0
 obtain ⟨y0_p0, y0_q0, _, rfl, _y0_n0, y0_p1, y0_q1, _, rfl, _y0_n1, y0_p2, y0_q2, _, rfl, _y0_n2, rfl⟩ := hf0
 obtain ⟨_, rfl, hf1⟩ := h'
 have hF1 := hf1
 obtain ⟨y1_p0, y1_q0, _, rfl, _y1_n0, y1_p1, y1_q1, _, rfl, _y1_n1, _, rfl, _, rfl⟩ := hf1
 obtain ⟨w1, b1, hw1, hb1, hs1, E⟩ := fr_start w (F := Fq.st [.n A, .n B, .n M]) (us := [y0_p0, y0_q0, y0_p1, y0_q1, y0_p2, y0_q2]) 31 rfl (by simp) (hF0.tame) (show (Fq.st [.n A, .n B, .n M]).P _ w from ⟨_, rfl, hF0⟩)
 obtain ⟨w2, b2, hw2, hb2, hs2, E⟩ := fr_more E hs1 (F := Fq.st [.n P.x, .n P.y, .v (.bool P.i)]) (us := [y1_p0, y1_q0, y1_p1, y1_q1, .bool P.i]) 37 rfl (by simp) (hF1.tame) ((Fq.st [.n P.x, .n P.y, .v (.bool P.i)]).mono (show (Fq.st [.n P.x, .n P.y, .v (.bool P.i)]).P _ w from ⟨_, rfl, hF1⟩) E.below)
 obtain ⟨w3, b3, hw3, hb3, hs3, E⟩ := fr_more E hs2 (F := Fq.st [.n 0, .n 0, .v (.bool false)]) (us := [.bool false, .slice none 0 0, .bool false, .slice none 0 0, .bool false]) 37 rfl (by simp) ((Fits.tame (fits0_api_Point w))) (fits0P_api_Point _)
 go_enter Try.func16, Try.ntmps16
 go_upto_region 1 with (fail)
 rw [← hw1]
 rw [← hw2]
 rw [← hw3]
 rw [← hb3]
 rw [← hb2]
 rw [← hb1]
 clear hw1 hw2 hw3 hb1 hb2 hb3 hs3 hs1 hs2
 refine region_fr (C := [Fq.st [.n A, .n B, .n M], Fq.st [.n P.x, .n P.y, .v (.bool P.i)], Fq.is (.bool true), Fq.is (.bool false)]) (ks := [none, none, none]) (new := []) E rfl (by kernel_rfl) rfl rfl (fun hp => ⟨?_, ?_, ?_, ?_, trivial⟩) ?_
 ·exact q_loadSt (off := 0) (l := 6) (fs := [.n A, .n B, .n M]) (gs := [.n A, .n B, .n M]) hp (free_of rfl) trivial (mq 2 rfl) (.inl rfl) rfl row_api_Mod rfl (sqo 2) (fun v w h => h)
 ·exact q_loadSt (off := 0) (l := 5) (fs := [.n P.x, .n P.y, .v (.bool P.i)]) (gs := [.n P.x, .n P.y, .v (.bool P.i)]) hp (free_of rfl) trivial (mq 1 rfl) (.inl rfl) rfl row_api_Point rfl (sqo 3) (fun v w h => h)
 ·exact q_call2 (F := (Fq.st [.n A, .n B, .n M]).P) (G := (Fq.st [.n P.x, .n P.y, .v (.bool P.i)]).P) hp (free_of rfl) trivial (enq_f_algorist_point_On) (sqi 0) (sqi 1) (fun v v' w h h' => exOn h h' hM.out hA.out hB.out hP.out.1 hP.out.2 ht.out)
 ·exact q_one (F := fun v _ => v = .bool true) hp (free_of rfl) trivial (sqi 2) (fun ρ w _ h => ⟨.bool false, by simp [execOp, go_sem, h], rfl⟩)
 intro L vs w4 nb hL hC hn E4
 have e2 : vs 2 = .bool true := hC 2 (by simp)
 have e3 : vs 3 = .bool false := hC 3 (by simp)
 have E : Fr w [(b3, 5, Fq.st [.n 0, .n 0, .v (.bool false)]), (b2, 5, Fq.st [.n P.x, .n P.y, .v (.bool P.i)]), (b1, 6, Fq.st [.n A, .n B, .n M])] w4 := E4
 rw [lay_all hL]
 simp only [putAll, dstOf, List.length_cons, List.length_nil, Nat.zero_add, Nat.reduceAdd, List.getElem?_toArray, List.getElem?_cons_zero, List.getElem?_cons_succ, Option.bind_some, Act.put, List.setIfInBounds_toArray, List.set_cons_succ, List.set_cons_zero]
 rw [e2, e3]
 generalize vs 0 = u4_0
 generalize vs 1 = u4_1
 clear e2 e3 hC hn E4 hL vs L nb
 go_upto_region 3 with (fail)
 refine region_fr (C := [Fq.st [.n A, .n B, .n M], Fq.st [.n P.x, .n P.y, .v (.bool P.i)], Fq.st [.n ((oppP M P).x), .n ((oppP M P).y), .v (.bool (oppP M P).i)], Fq.any, Fq.is (.int .i64 0)]) (ks := [some (3, Fq.st [.n ((oppP M P).x), .n ((oppP M P).y), .v (.bool (oppP M P).i)]), none, none]) (new := []) E rfl (by kernel_rfl) rfl rfl (fun hp => ⟨?_, ?_, ?_, ?_, ?_, trivial⟩) ?_
 ·exact q_loadSt (off := 0) (l := 6) (fs := [.n A, .n B, .n M]) (gs := [.n A, .n B, .n M]) hp (free_of rfl) trivial (mq 2 rfl) (.inl rfl) rfl row_api_Mod rfl (sqo 2) (fun v w h => h)
 ·exact q_loadSt (off := 0) (l := 5) (fs := [.n P.x, .n P.y, .v (.bool P.i)]) (gs := [.n P.x, .n P.y, .v (.bool P.i)]) hp (free_of rfl) trivial (mq 1 rfl) (.inl rfl) rfl row_api_Point rfl (sqo 3) (fun v w h => h)
 ·exact q_call2 (F := (Fq.st [.n A, .n B, .n M]).P) (G := (Fq.st [.n P.x, .n P.y, .v (.bool P.i)]).P) hp (free_of rfl) trivial (enq_f_algorist_point_opposite) (sqi 0) (sqi 1) (fun v v' w h h' => exOppP h h' hM.out (onB_ok ht.out).1)
 ·exact q_storeOldSt (off := 0) (fs := [.n 0, .n 0, .v (.bool false)]) (gs := [.n ((oppP M P).x), .n ((oppP M P).y), .v (.bool (oppP M P).i)]) (fs' := [.n ((oppP M P).x), .n ((oppP M P).y), .v (.bool (oppP M P).i)]) hp (mq 0 rfl) rfl rfl rfl size_api_Point rfl (sqo 4) (sq_in 2 rfl rfl (by simp) rfl (fun v w h => fitv_st h)) (fun _ _ => trivial) (newik_ne rfl)
 ·exact q_assign hp (free_of rfl) trivial (sq_const (fun _ => rfl))
 intro L vs w5 nb hL hC hn E5
 have e4 : vs 4 = .int .i64 0 := hC 4 (by simp)
 have E : Fr w [(b3, 5, Fq.st [.n ((oppP M P).x), .n ((oppP M P).y), .v (.bool (oppP M P).i)]), (b2, 5, Fq.st [.n P.x, .n P.y, .v (.bool P.i)]), (b1, 6, Fq.st [.n A, .n B, .n M])] w5 := E5
 rw [lay_all hL]
 simp only [putAll, dstOf, List.length_cons, List.length_nil, Nat.zero_add, Nat.reduceAdd, List.getElem?_toArray, List.getElem?_cons_zero, List.getElem?_cons_succ, Option.bind_some, Act.put, List.setIfInBounds_toArray, List.set_cons_succ, List.set_cons_zero]
 rw [e4]
 generalize vs 0 = u5_0
 generalize vs 1 = u5_1
 generalize vs 2 = u5_2
 clear e4 hC hn E5 hL vs L nb
 clear ht
 obtain ⟨_, _, hc, hf⟩ := box_st (E.box 0 rfl)
 have hR := hf
 obtain ⟨r_p0, r_q0, _, rfl, _r_n0, r_p1, r_q1, _, rfl, _r_n1, _, rfl, _, rfl⟩ := hf
 have c0 := hc 0 (by simp)
 have c1 := hc 1 (by simp)
 have c2 := hc 2 (by simp)
 have c3 := hc 3 (by simp)
 have c4 := hc 4 (by simp)
 simp only [List.getD_cons_zero, List.getD_cons_succ] at c0 c1 c2 c3 c4
 clear hc
 clear hM hA hB hP
 go_wp2
 refine bodyPost_ret (v := .tuple #[.agg #[r_p0, r_q0, r_p1, r_q1, .bool (oppP M P).i], .int .i64 0]) ?_ rfl ⟨_, rfl, E.below, _, _, rfl, ⟨_, rfl, hR⟩, rfl⟩
 simp [results, Try.results16, go_sem, c0, c1, c2, c3, c4]

set_option maxRecDepth 100000 in
set_option maxHeartbeats 4000000 in
theorem exAddE1 {w : World} {v v' u : Value} {A B M : Int} {P Q : Pt} (h : (Fq.st [.n A, .n B, .n M]).P v w) (h' : (Fq.pt P).P v' w) (h2 : (Fq.pt Q).P u w) (hM : ab M < pw 5) (hA : ab A < pw 5) (hB : ab B < pw 5) (hP : ab P.x < pw 5 ∧ ab P.y < pw 5) (hQ : ab Q.x < pw 5 ∧ ab Q.y < pw 5) (kp : onB A B M P.x P.y P.i = false) :
  Calls Try.prog 34 #[v, v', u] w fun e w' => ∃ v', e = .returned v' ∧ Below w.heap.size w w' ∧ (Fq.tup3 (Fq.pt ⟨0, 0, false⟩) (Fq.num 0) (Fq.is (.int .i64 1))).P v' w' := by
 replace hM := hidd hM
 replace hA := hidd hA
 replace hB := hidd hB
 replace hP := hidd hP
 replace hQ := hidd hQ
 replace kp := hidd kp
 obtain ⟨_, rfl, hf0⟩ := h
 have hF0 := hf0
 obtain ⟨y0_p0, y0_q0, _, rfl, _y0_n0, y0_p1, y0_q1, _, rfl, _y0_n1, y0_p2, y0_q2, _, rfl, _y0_n2, rfl⟩ := hf0
 obtain ⟨_, rfl, hf1⟩ := h'
 have hF1 := hf1
 obtain ⟨y1_p0, y1_q0, _, rfl, _y1_n0, y1_p1, y1_q1, _, rfl, _y1_n1, _, rfl, _, rfl⟩ := hf1
 obtain ⟨_, rfl, hf2⟩ := h2
 have hF2 := hf2
 obtain ⟨y2_p0, y2_q0, _, rfl, _y2_n0, y2_p1, y2_q1, _, rfl, _y2_n1, _, rfl, _, rfl⟩ := hf2
 obtain ⟨w1, b1, hw1, hb1, hs1, E⟩ := fr_start w (F := Fq.st [.n A, .n B, .n M]) (us := [y0_p0, y0_q0, y0_p1, y0_q1, y0_p2, y0_q2]) 31 rfl (by simp) (hF0.tame) (show (Fq.st [.n A, .n B, .n M]).P _ w from ⟨_, rfl, hF0⟩)
 obtain ⟨w2, b2, hw2, hb2, hs2, E⟩ := fr_more E hs1 (F := Fq.st [.n P.x, .n P.y, .v (.bool P.i)]) (us := [y1_p0, y1_q0, y1_p1, y1_q1, .bool P.i]) 37 rfl (by simp) (hF1.tame) ((Fq.st [.n P.x, .n P.y, .v (.bool P.i)]).mono (show (Fq.st [.n P.x, .n P.y, .v (.bool P.i)]).P _ w from ⟨_, rfl, hF1⟩) E.below)
 obtain ⟨w3, b3, hw3, hb3, hs3, E⟩ := fr_more E hs2 (F := Fq.st [.n Q.x, .n Q.y, .v (.bool Q.i)]) (us := [y2_p0, y2_q0, y2_p1, y2_q1, .bool Q.i]) 37 rfl (by simp) (hF2.tame) ((Fq.st [.n Q.x, .n Q.y, .v (.bool Q.i)]).mono (show (Fq.st [.n Q.x, .n Q.y, .v (.bool Q.i)]).P _ w from ⟨_, rfl, hF2⟩) E.below)
 obtain ⟨w4, b4, hw4, hb4, hs4, E⟩ := fr_more E hs3 (F := Fq.st [.n 0, .n 0, .v (.bool false)]) (us := [.bool false, .slice none 0 0, .bool false, .slice none 0 0, .bool false]) 37 rfl (by simp) ((Fits.tame (fits0_api_Point w))) (fits0P_api_Point _)
 obtain ⟨w5, b5, hw5, hb5, hs5, E⟩ := fr_more E hs4 (F := Fq.num 0) (us := [.bool false, .slice none 0 0]) 29 rfl (by simp) (tame_int _ _ _ _) (Num.zero _)
 go_enter Try.func34, Try.ntmps34
 go_upto_region 1 with (fail)
 rw [← hw1]
 rw [← hw2]
 rw [← hw3]
 rw [← hw4]
 rw [← hw5]
 rw [← hb5]
 rw [← hb4]
 rw [← hb3]
 rw [← hb2]
 rw [← hb1]
 clear hw1 hw2 hw3 hw4 hw5 hb1 hb2 hb3 hb4 hb5 hs5 hs1 hs2 hs3 hs4
 refine region_fr (C := [Fq.st [.n A, .n B, .n M], Fq.st [.n P.x, .n P.y, .v (.bool P.i)], Fq.is (.bool false), Fq.is (.bool true), Fq.is (.bool true), Fq.is (undef), Fq.is (undef), Fq.is (undef), Fq.is (undef), Fq.is (.bool true)]) (ks := [none, none, none, none, none]) (new := []) E rfl (by kernel_rfl) rfl rfl (fun hp => ⟨?_, ?_, ?_, ?_, ?_, ?_, ?_, ?_, ?_, ?_, trivial⟩) ?_
 ·exact q_loadSt (off := 0) (l := 6) (fs := [.n A, .n B, .n M]) (gs := [.n A, .n B, .n M]) hp (free_of rfl) trivial (mq 4 rfl) (.inl rfl) rfl row_api_Mod rfl (sqo 3) (fun v w h => h)
 ·exact q_loadSt (off := 0) (l := 5) (fs := [.n P.x, .n P.y, .v (.bool P.i)]) (gs := [.n P.x, .n P.y, .v (.bool P.i)]) hp (free_of rfl) trivial (mq 3 rfl) (.inl rfl) rfl row_api_Point rfl (sqo 4) (fun v w h => h)
 ·exact q_call2 (F := (Fq.st [.n A, .n B, .n M]).P) (G := (Fq.st [.n P.x, .n P.y, .v (.bool P.i)]).P) hp (free_of rfl) trivial (enq_f_algorist_point_On) (sqi 0) (sqi 1) (fun v v' w h h' => exOn h h' hM.out hA.out hB.out hP.out.1 hP.out.2 kp.out)
 ·exact q_one (F := fun v _ => v = .bool false) hp (free_of rfl) trivial (sqi 2) (fun ρ w _ h => ⟨.bool true, by simp [execOp, go_sem, h], rfl⟩)
 ·exact q_move hp (free_of rfl) trivial (sqi 3)
 ·exact q_skip hp (free_of rfl) rfl gqi (fun _ => rfl)
 ·exact q_skip hp (free_of rfl) rfl gqi (fun _ => rfl)
 ·exact q_skip hp (free_of rfl) rfl gqi (fun _ => rfl)
 ·exact q_skip hp (free_of rfl) rfl gqi (fun _ => rfl)
 ·exact q_two (F := fun v _ => v = .bool true) (G := fun v _ => v = .bool true) hp (free_of rfl) trivial (sqi 4) (sq_const (fun _ => rfl)) (fun ρ w hc h h' => ⟨_, by simp [execOp, go_sem, h, h'], rfl⟩)
 intro L vs w6 nb hL hC hn E6
 have e2 : vs 2 = .bool false := hC 2 (by simp)
 have e3 : vs 3 = .bool true := hC 3 (by simp)
 have e4 : vs 4 = .bool true := hC 4 (by simp)
 have e5 : vs 5 = undef := hC 5 (by simp)
 have e6 : vs 6 = undef := hC 6 (by simp)
 have e7 : vs 7 = undef := hC 7 (by simp)
 have e8 : vs 8 = undef := hC 8 (by simp)
 have e9 : vs 9 = .bool true := hC 9 (by simp)
 have E : Fr w [(b5, 2, Fq.num 0), (b4, 5, Fq.st [.n 0, .n 0, .v (.bool false)]), (b3, 5, Fq.st [.n Q.x, .n Q.y, .v (.bool Q.i)]), (b2, 5, Fq.st [.n P.x, .n P.y, .v (.bool P.i)]), (b1, 6, Fq.st [.n A, .n B, .n M])] w6 := E6
 rw [lay_all hL]
 simp only [putAll, dstOf, List.length_cons, List.length_nil, Nat.zero_add, Nat.reduceAdd, List.getElem?_toArray, List.getElem?_cons_zero, List.getElem?_cons_succ, Option.bind_some, Act.put, List.setIfInBounds_toArray, List.set_cons_succ, List.set_cons_zero]
 rw [e2, e3, e4, e5, e6, e7, e8, e9]
 generalize vs 0 = u6_0
 generalize vs 1 = u6_1
 clear e2 e3 e4 e5 e6 e7 e8 e9 hC hn E6 hL vs L nb
 go_upto_region 2 with (fail)
 refine region_fr (C := [Fq.st [.n 0, .n 0, .v (.bool false)], Fq.num 0, Fq.any, Fq.any, Fq.is (.int .i64 1)]) (ks := [some (3, Fq.num 0), some (2, Fq.st [.n 0, .n 0, .v (.bool false)]), none, none, none]) (new := []) E rfl (by kernel_rfl) rfl rfl (fun hp => ⟨?_, ?_, ?_, ?_, ?_, trivial⟩) ?_
 ·exact q_build_api_Point_ hp (free_of rfl) trivial (fun v w h => h)
 ·exact q_zeroInt hp (free_of rfl) trivial (fun w => Num.zero w)
 ·exact q_storeOldSt (off := 0) (fs := [.n 0, .n 0, .v (.bool false)]) (gs := [.n 0, .n 0, .v (.bool false)]) (fs' := [.n 0, .n 0, .v (.bool false)]) hp (mq 1 rfl) rfl rfl rfl size_api_Point rfl (sqo 6) (sq_in 0 rfl rfl (by simp) rfl (fun v w h => fitv_st h)) (fun _ _ => trivial) (newik_ne rfl)
 ·exact q_storeOldInt hp (mq 0 rfl) rfl rfl (sqo 7) (sq_in 1 rfl rfl (by simp) rfl (fun v w h => intV_num h)) (fun _ _ => trivial) (newik_ne rfl)
 ·exact q_assign hp (free_of rfl) trivial (sq_const (fun _ => rfl))
 intro L vs w7 nb hL hC hn E7
 have e4 : vs 4 = .int .i64 1 := hC 4 (by simp)
 have E : Fr w [(b5, 2, Fq.num 0), (b4, 5, Fq.st [.n 0, .n 0, .v (.bool false)]), (b3, 5, Fq.st [.n Q.x, .n Q.y, .v (.bool Q.i)]), (b2, 5, Fq.st [.n P.x, .n P.y, .v (.bool P.i)]), (b1, 6, Fq.st [.n A, .n B, .n M])] w7 := E7
 rw [lay_all hL]
 simp only [putAll, dstOf, List.length_cons, List.length_nil, Nat.zero_add, Nat.reduceAdd, List.getElem?_toArray, List.getElem?_cons_zero, List.getElem?_cons_succ, Option.bind_some, Act.put, List.setIfInBounds_toArray, List.set_cons_succ, List.set_cons_zero]
 rw [e4]
 generalize vs 0 = u7_0
 generalize vs 1 = u7_1
 clear e4 hC hn E7 hL vs L nb
 clear kp
 obtain ⟨_, _, hc, hf⟩ := box_st (E.box 1 rfl)
 have hR := hf
 obtain ⟨r_p0, r_q0, _, rfl, _r_n0, r_p1, r_q1, _, rfl, _r_n1, _, rfl, _, rfl⟩ := hf
 have c0 := hc 0 (by simp)
 have c1 := hc 1 (by simp)
 have c2 := hc 2 (by simp)
 have c3 := hc 3 (by simp)
 have c4 := hc 4 (by simp)
 simp only [List.getD_cons_zero, List.getD_cons_succ] at c0 c1 c2 c3 c4
 clear hc
 obtain ⟨d0, d1, e0, e1, hD⟩ := box_num (E.box 0 rfl)
 clear hM hA hB hP hQ
 go_wp2
 refine bodyPost_ret (v := .tuple #[.agg #[r_p0, r_q0, r_p1, r_q1, .bool false], .agg #[d0, d1], .int .i64 1]) ?_ rfl ⟨_, rfl, E.below, _, _, _, rfl, ⟨_, rfl, hR⟩, hD, rfl⟩
 simp [results, Try.results34, go_sem, e0, e1, c0, c1, c2, c3, c4]

set_option maxRecDepth 100000 in
set_option maxHeartbeats 4000000 in
theorem exAddE2 {w : World} {v v' u : Value} {A B M : Int} {P Q : Pt} (h : (Fq.st [.n A, .n B, .n M]).P v w) (h' : (Fq.pt P).P v' w) (h2 : (Fq.pt Q).P u w) (hM : ab M < pw 5) (hA : ab A < pw 5) (hB : ab B < pw 5) (hP : ab P.x < pw 5 ∧ ab P.y < pw 5) (hQ : ab Q.x < pw 5 ∧ ab Q.y < pw 5) (kp : onB A B M P.x P.y P.i = true) (kq : onB A B M Q.x Q.y Q.i = false) :
  Calls Try.prog 34 #[v, v', u] w fun e w' => ∃ v', e = .returned v' ∧ Below w.heap.size w w' ∧ (Fq.tup3 (Fq.pt ⟨0, 0, false⟩) (Fq.num 0) (Fq.is (.int .i64 1))).P v' w' := by
 replace hM := hidd hM
 replace hA := hidd hA
 replace hB := hidd hB
 replace hP := hidd hP
 replace hQ := hidd hQ
 replace kp := hidd kp
 replace kq := hidd kq
 obtain ⟨_, rfl, hf0⟩ := h
 have hF0 := hf0
 obtain ⟨y0_p0, y0_q0, _, rfl, _y0_n0, y0_p1, y0_q1, _, rfl, _y0_n1, y0_p2, y0_q2, _, rfl, _y0_n2, rfl⟩ := hf0
 obtain ⟨_, rfl, hf1⟩ := h'
 have hF1 := hf1
 obtain ⟨y1_p0, y1_q0, _, rfl, _y1_n0, y1_p1, y1_q1, _, rfl, _y1_n1, _, rfl, _, rfl⟩ := hf1
 obtain ⟨_, rfl, hf2⟩ := h2
 have hF2 := hf2
 obtain ⟨y2_p0, y2_q0, _, rfl, _y2_n0, y2_p1, y2_q1, _, rfl, _y2_n1, _, rfl, _, rfl⟩ := hf2
 obtain ⟨w1, b1, hw1, hb1, hs1, E⟩ := fr_start w (F := Fq.st [.n A, .n B, .n M]) (us := [y0_p0, y0_q0, y0_p1, y0_q1, y0_p2, y0_q2]) 31 rfl (by simp) (hF0.tame) (show (Fq.st [.n A, .n B, .n M]).P _ w from ⟨_, rfl, hF0⟩)
 obtain ⟨w2, b2, hw2, hb2, hs2, E⟩ := fr_more E hs1 (F := Fq.st [.n P.x, .n P.y, .v (.bool P.i)]) (us := [y1_p0, y1_q0, y1_p1, y1_q1, .bool P.i]) 37 rfl (by simp) (hF1.tame) ((Fq.st [.n P.x, .n P.y, .v (.bool P.i)]).mono (show (Fq.st [.n P.x, .n P.y, .v (.bool P.i)]).P _ w from ⟨_, rfl, hF1⟩) E.below)
 obtain ⟨w3, b3, hw3, hb3, hs3, E⟩ := fr_more E hs2 (F := Fq.st [.n Q.x, .n Q.y, .v (.bool Q.i)]) (us := [y2_p0, y2_q0, y2_p1, y2_q1, .bool Q.i]) 37 rfl (by simp) (hF2.tame) ((Fq.st [.n Q.x, .n Q.y, .v (.bool Q.i)]).mono (show (Fq.st [.n Q.x, .n Q.y, .v (.bool Q.i)]).P _ w from ⟨_, rfl, hF2⟩) E.below)
 obtain ⟨w4, b4, hw4, hb4, hs4, E⟩ := fr_more E hs3 (F := Fq.st [.n 0, .n 0, .v (.bool false)]) (us := [.bool false, .slice none 0 0, .bool false, .slice none 0 0, .bool false]) 37 rfl (by simp) ((Fits.tame (fits0_api_Point w))) (fits0P_api_Point _)
 obtain ⟨w5, b5, hw5, hb5, hs5, E⟩ := fr_more E hs4 (F := Fq.num 0) (us := [.bool false, .slice none 0 0]) 29 rfl (by simp) (tame_int _ _ _ _) (Num.zero _)
 go_enter Try.func34, Try.ntmps34
 go_upto_region 1 with (fail)
 rw [← hw1]
 rw [← hw2]
 rw [← hw3]
 rw [← hw4]
 rw [← hw5]
 rw [← hb5]
 rw [← hb4]
 rw [← hb3]
 rw [← hb2]
 rw [← hb1]
 clear hw1 hw2 hw3 hw4 hw5 hb1 hb2 hb3 hb4 hb5 hs5 hs1 hs2 hs3 hs4
 refine region_fr (C := [Fq.st [.n A, .n B, .n M], Fq.st [.n P.x, .n P.y, .v (.bool P.i)], Fq.is (.bool true), Fq.is (.bool false), Fq.is (.bool false), Fq.st [.n A, .n B, .n M], Fq.st [.n Q.x, .n Q.y, .v (.bool Q.i)], Fq.is (.bool false), Fq.is (.bool true), Fq.is (.bool true)]) (ks := [none, none, none, none, none]) (new := []) E rfl (by kernel_rfl) rfl rfl (fun hp => ⟨?_, ?_, ?_, ?_, ?_, ?_, ?_, ?_, ?_, ?_, trivial⟩) ?_
 ·exact q_loadSt (off := 0) (l := 6) (fs := [.n A, .n B, .n M]) (gs := [.n A, .n B, .n M]) hp (free_of rfl) trivial (mq 4 rfl) (.inl rfl) rfl row_api_Mod rfl (sqo 3) (fun v w h => h)
 ·exact q_loadSt (off := 0) (l := 5) (fs := [.n P.x, .n P.y, .v (.bool P.i)]) (gs := [.n P.x, .n P.y, .v (.bool P.i)]) hp (free_of rfl) trivial (mq 3 rfl) (.inl rfl) rfl row_api_Point rfl (sqo 4) (fun v w h => h)
 ·exact q_call2 (F := (Fq.st [.n A, .n B, .n M]).P) (G := (Fq.st [.n P.x, .n P.y, .v (.bool P.i)]).P) hp (free_of rfl) trivial (enq_f_algorist_point_On) (sqi 0) (sqi 1) (fun v v' w h h' => exOn h h' hM.out hA.out hB.out hP.out.1 hP.out.2 kp.out)
 ·exact q_one (F := fun v _ => v = .bool true) hp (free_of rfl) trivial (sqi 2) (fun ρ w _ h => ⟨.bool false, by simp [execOp, go_sem, h], rfl⟩)
 ·exact q_move hp (free_of rfl) trivial (sqi 3)
 ·exact q_loadSt (off := 0) (l := 6) (fs := [.n A, .n B, .n M]) (gs := [.n A, .n B, .n M]) hp (free_of rfl) gqi (mq 4 rfl) (.inl rfl) rfl row_api_Mod rfl (sqo 3) (fun v w h => h)
 ·exact q_loadSt (off := 0) (l := 5) (fs := [.n Q.x, .n Q.y, .v (.bool Q.i)]) (gs := [.n Q.x, .n Q.y, .v (.bool Q.i)]) hp (free_of rfl) gqi (mq 2 rfl) (.inl rfl) rfl row_api_Point rfl (sqo 5) (fun v w h => h)
 ·exact q_call2 (F := (Fq.st [.n A, .n B, .n M]).P) (G := (Fq.st [.n Q.x, .n Q.y, .v (.bool Q.i)]).P) hp (free_of rfl) gqi (enq_f_algorist_point_On) (sqi 5) (sqi 6) (fun v v' w h h' => exOn h h' hM.out hA.out hB.out hQ.out.1 hQ.out.2 kq.out)
 ·exact q_one (F := fun v _ => v = .bool false) hp (free_of rfl) gqi (sqi 7) (fun ρ w _ h => ⟨.bool true, by simp [execOp, go_sem, h], rfl⟩)
 ·exact q_two (F := fun v _ => v = .bool false) (G := fun v _ => v = .bool true) hp (free_of rfl) trivial (sqi 4) (sqi 8) (fun ρ w hc h h' => ⟨_, by simp [execOp, go_sem, h, h'], rfl⟩)
 intro L vs w6 nb hL hC hn E6
 have e2 : vs 2 = .bool true := hC 2 (by simp)
 have e3 : vs 3 = .bool false := hC 3 (by simp)
 have e4 : vs 4 = .bool false := hC 4 (by simp)
 have e7 : vs 7 = .bool false := hC 7 (by simp)
 have e8 : vs 8 = .bool true := hC 8 (by simp)
 have e9 : vs 9 = .bool true := hC 9 (by simp)
 have E : Fr w [(b5, 2, Fq.num 0), (b4, 5, Fq.st [.n 0, .n 0, .v (.bool false)]), (b3, 5, Fq.st [.n Q.x, .n Q.y, .v (.bool Q.i)]), (b2, 5, Fq.st [.n P.x, .n P.y, .v (.bool P.i)]), (b1, 6, Fq.st [.n A, .n B, .n M])] w6 := E6
 rw [lay_all hL]
 simp only [putAll, dstOf, List.length_cons, List.length_nil, Nat.zero_add, Nat.reduceAdd, List.getElem?_toArray, List.getElem?_cons_zero, List.getElem?_cons_succ, Option.bind_some, Act.put, List.setIfInBounds_toArray, List.set_cons_succ, List.set_cons_zero]
 rw [e2, e3, e4, e7, e8, e9]
 generalize vs 0 = u6_0
 generalize vs 1 = u6_1
 generalize vs 5 = u6_5
 generalize vs 6 = u6_6
 clear e2 e3 e4 e7 e8 e9 hC hn E6 hL vs L nb
 go_upto_region 2 with (fail)
 refine region_fr (C := [Fq.st [.n 0, .n 0, .v (.bool false)], Fq.num 0, Fq.any, Fq.any, Fq.is (.int .i64 1)]) (ks := [some (3, Fq.num 0), some (2, Fq.st [.n 0, .n 0, .v (.bool false)]), none, none, none]) (new := []) E rfl (by kernel_rfl) rfl rfl (fun hp => ⟨?_, ?_, ?_, ?_, ?_, trivial⟩) ?_
 ·exact q_build_api_Point_ hp (free_of rfl) trivial (fun v w h => h)
 ·exact q_zeroInt hp (free_of rfl) trivial (fun w => Num.zero w)
 ·exact q_storeOldSt (off := 0) (fs := [.n 0, .n 0, .v (.bool false)]) (gs := [.n 0, .n 0, .v (.bool false)]) (fs' := [.n 0, .n 0, .v (.bool false)]) hp (mq 1 rfl) rfl rfl rfl size_api_Point rfl (sqo 6) (sq_in 0 rfl rfl (by simp) rfl (fun v w h => fitv_st h)) (fun _ _ => trivial) (newik_ne rfl)
 ·exact q_storeOldInt hp (mq 0 rfl) rfl rfl (sqo 7) (sq_in 1 rfl rfl (by simp) rfl (fun v w h => intV_num h)) (fun _ _ => trivial) (newik_ne rfl)
 ·exact q_assign hp (free_of rfl) trivial (sq_const (fun _ => rfl))
 intro L vs w7 nb hL hC hn E7
 have e4 : vs 4 = .int .i64 1 := hC 4 (by simp)
 have E : Fr w [(b5, 2, Fq.num 0), (b4, 5, Fq.st [.n 0, .n 0, .v (.bool false)]), (b3, 5, Fq.st [.n Q.x, .n Q.y, .v (.bool Q.i)]), (b2, 5, Fq.st [.n P.x, .n P.y, .v (.bool P.i)]), (b1, 6, Fq.st [.n A, .n B, .n M])] w7 := E7
 rw [lay_all hL]
 simp only [putAll, dstOf, List.length_cons, List.length_nil, Nat.zero_add, Nat.reduceAdd, List.getElem?_toArray, List.getElem?_cons_zero, List.getElem?_cons_succ, Option.bind_some, Act.put, List.setIfInBounds_toArray, List.set_cons_succ, List.set_cons_zero]
 rw [e4]
 generalize vs 0 = u7_0
 generalize vs 1 = u7_1
 clear e4 hC hn E7 hL vs L nb
 clear kp kq
 obtain ⟨_, _, hc, hf⟩ := box_st (E.box 1 rfl)
 have hR := hf
 obtain ⟨r_p0, r_q0, _, rfl, _r_n0, r_p1, r_q1, _, rfl, _r_n1, _, rfl, _, rfl⟩ := hf
 have c0 := hc 0 (by simp)
 have c1 := hc 1 (by simp)
 have c2 := hc 2 (by simp)
 have c3 := hc 3 (by simp)
 have c4 := hc 4 (by simp)
 simp only [List.getD_cons_zero, List.getD_cons_succ] at c0 c1 c2 c3 c4
 clear hc
 obtain ⟨d0, d1, e0, e1, hD⟩ := box_num (E.box 0 rfl)
 clear hM hA hB hP hQ
 go_wp2
 refine bodyPost_ret (v := .tuple #[.agg #[r_p0, r_q0, r_p1, r_q1, .bool false], .agg #[d0, d1], .int .i64 1]) ?_ rfl ⟨_, rfl, E.below, _, _, _, rfl, ⟨_, rfl, hR⟩, hD, rfl⟩
 simp [results, Try.results34, go_sem, e0, e1, c0, c1, c2, c3, c4]

set_option maxRecDepth 100000 in
set_option maxHeartbeats 4000000 in
theorem exAddN {w : World} {v v' u : Value} {A B M : Int} {P Q : Pt} (h : (Fq.st [.n A, .n B, .n M]).P v w) (h' : (Fq.pt P).P v' w) (h2 : (Fq.pt Q).P u w) (hM : ab M < pw 5) (hA : ab A < pw 5) (hB : ab B < pw 5) (hP : ab P.x < pw 5 ∧ ab P.y < pw 5) (hQ : ab Q.x < pw 5 ∧ ab Q.y < pw 5) (kp : onB A B M P.x P.y P.i = true) (kq : onB A B M Q.x Q.y Q.i = true) {R : Pt × Int} (hR : sumP A M P Q = R) (hd : ¬ R.2 = 0) :
  Calls Try.prog 34 #[v, v', u] w fun e w' => ∃ v', e = .returned v' ∧ Below w.heap.size w w' ∧ (Fq.tup3 (Fq.pt ⟨0, 0, false⟩) (Fq.num R.2) (Fq.is (.int .i64 6))).P v' w' := by
 replace hM := hidd hM
 replace hA := hidd hA
 replace hB := hidd hB
 replace hP := hidd hP
 replace hQ := hidd hQ
 replace kp := hidd kp
 replace kq := hidd kq
 obtain ⟨_, rfl, hf0⟩ := h
 have hF0 := hf0
 obtain ⟨y0_p0, y0_q0, _, rfl, _y0_n0, y0_p1, y0_q1, _, rfl, _y0_n1, y0_p2, y0_q2, _, rfl, _y0_n2, rfl⟩ := hf0
 obtain ⟨_, rfl, hf1⟩ := h'
 have hF1 := hf1
 obtain ⟨y1_p0, y1_q0, _, rfl, _y1_n0, y1_p1, y1_q1, _, rfl, _y1_n1, _, rfl, _, rfl⟩ := hf1
 obtain ⟨_, rfl, hf2⟩ := h2
 have hF2 := hf2
 obtain ⟨y2_p0, y2_q0, _, rfl, _y2_n0, y2_p1, y2_q1, _, rfl, _y2_n1, _, rfl, _, rfl⟩ := hf2
 obtain ⟨w1, b1, hw1, hb1, hs1, E⟩ := fr_start w (F := Fq.st [.n A, .n B, .n M]) (us := [y0_p0, y0_q0, y0_p1, y0_q1, y0_p2, y0_q2]) 31 rfl (by simp) (hF0.tame) (show (Fq.st [.n A, .n B, .n M]).P _ w from ⟨_, rfl, hF0⟩)
 obtain ⟨w2, b2, hw2, hb2, hs2, E⟩ := fr_more E hs1 (F := Fq.st [.n P.x, .n P.y, .v (.bool P.i)]) (us := [y1_p0, y1_q0, y1_p1, y1_q1, .bool P.i]) 37 rfl (by simp) (hF1.tame) ((Fq.st [.n P.x, .n P.y, .v (.bool P.i)]).mono (show (Fq.st [.n P.x, .n P.y, .v (.bool P.i)]).P _ w from ⟨_, rfl, hF1⟩) E.below)
 obtain ⟨w3, b3, hw3, hb3, hs3, E⟩ := fr_more E hs2 (F := Fq.st [.n Q.x, .n Q.y, .v (.bool Q.i)]) (us := [y2_p0, y2_q0, y2_p1, y2_q1, .bool Q.i]) 37 rfl (by simp) (hF2.tame) ((Fq.st [.n Q.x, .n Q.y, .v (.bool Q.i)]).mono (show (Fq.st [.n Q.x, .n Q.y, .v (.bool Q.i)]).P _ w from ⟨_, rfl, hF2⟩) E.below)
 obtain ⟨w4, b4, hw4, hb4, hs4, E⟩ := fr_more E hs3 (F := Fq.st [.n 0, .n 0, .v (.bool false)]) (us := [.bool false, .slice none 0 0, .bool false, .slice none 0 0, .bool false]) 37 rfl (by simp) ((Fits.tame (fits0_api_Point w))) (fits0P_api_Point _)
 obtain ⟨w5, b5, hw5, hb5, hs5, E⟩ := fr_more E hs4 (F := Fq.num 0) (us := [.bool false, .slice none 0 0]) 29 rfl (by simp) (tame_int _ _ _ _) (Num.zero _)
 go_enter Try.func34, Try.ntmps34
 go_upto_region 1 with (fail)
 rw [← hw1]
 rw [← hw2]
 rw [← hw3]
 rw [← hw4]
 rw [← hw5]
 rw [← hb5]
 rw [← hb4]
 rw [← hb3]
 rw [← hb2]
 rw [← hb1]
 clear hw1 hw2 hw3 hw4 hw5 hb1 hb2 hb3 hb4 hb5 hs5 hs1 hs2 hs3 hs4
 obtain ⟨R, d⟩ := R
 have T1 : Hid (¬ cmpI d 0 = 0) := fun e => hd (cmpIq0.1 e)
 have HR := hidd hR
 clear hd hR
 refine region_fr (C := [Fq.st [.n A, .n B, .n M], Fq.st [.n P.x, .n P.y, .v (.bool P.i)], Fq.is (.bool true), Fq.is (.bool false), Fq.is (.bool false), Fq.st [.n A, .n B, .n M], Fq.st [.n Q.x, .n Q.y, .v (.bool Q.i)], Fq.is (.bool true), Fq.is (.bool false), Fq.is (.bool false)]) (ks := [none, none, none, none, none]) (new := []) E rfl (by kernel_rfl) rfl rfl (fun hp => ⟨?_, ?_, ?_, ?_, ?_, ?_, ?_, ?_, ?_, ?_, trivial⟩) ?_
 ·exact q_loadSt (off := 0) (l := 6) (fs := [.n A, .n B, .n M]) (gs := [.n A, .n B, .n M]) hp (free_of rfl) trivial (mq 4 rfl) (.inl rfl) rfl row_api_Mod rfl (sqo 3) (fun v w h => h)
 ·exact q_loadSt (off := 0) (l := 5) (fs := [.n P.x, .n P.y, .v (.bool P.i)]) (gs := [.n P.x, .n P.y, .v (.bool P.i)]) hp (free_of rfl) trivial (mq 3 rfl) (.inl rfl) rfl row_api_Point rfl (sqo 4) (fun v w h => h)
 ·exact q_call2 (F := (Fq.st [.n A, .n B, .n M]).P) (G := (Fq.st [.n P.x, .n P.y, .v (.bool P.i)]).P) hp (free_of rfl) trivial (enq_f_algorist_point_On) (sqi 0) (sqi 1) (fun v v' w h h' => exOn h h' hM.out hA.out hB.out hP.out.1 hP.out.2 kp.out)
 ·exact q_one (F := fun v _ => v = .bool true) hp (free_of rfl) trivial (sqi 2) (fun ρ w _ h => ⟨.bool false, by simp [execOp, go_sem, h], rfl⟩)
 ·exact q_move hp (free_of rfl) trivial (sqi 3)
 ·exact q_loadSt (off := 0) (l := 6) (fs := [.n A, .n B, .n M]) (gs := [.n A, .n B, .n M]) hp (free_of rfl) gqi (mq 4 rfl) (.inl rfl) rfl row_api_Mod rfl (sqo 3) (fun v w h => h)
 ·exact q_loadSt (off := 0) (l := 5) (fs := [.n Q.x, .n Q.y, .v (.bool Q.i)]) (gs := [.n Q.x, .n Q.y, .v (.bool Q.i)]) hp (free_of rfl) gqi (mq 2 rfl) (.inl rfl) rfl row_api_Point rfl (sqo 5) (fun v w h => h)
 ·exact q_call2 (F := (Fq.st [.n A, .n B, .n M]).P) (G := (Fq.st [.n Q.x, .n Q.y, .v (.bool Q.i)]).P) hp (free_of rfl) gqi (enq_f_algorist_point_On) (sqi 5) (sqi 6) (fun v v' w h h' => exOn h h' hM.out hA.out hB.out hQ.out.1 hQ.out.2 kq.out)
 ·exact q_one (F := fun v _ => v = .bool true) hp (free_of rfl) gqi (sqi 7) (fun ρ w _ h => ⟨.bool false, by simp [execOp, go_sem, h], rfl⟩)
 ·exact q_two (F := fun v _ => v = .bool false) (G := fun v _ => v = .bool false) hp (free_of rfl) trivial (sqi 4) (sqi 8) (fun ρ w hc h h' => ⟨_, by simp [execOp, go_sem, h, h'], rfl⟩)
 intro L vs w6 nb hL hC hn E6
 have e2 : vs 2 = .bool true := hC 2 (by simp)
 have e3 : vs 3 = .bool false := hC 3 (by simp)
 have e4 : vs 4 = .bool false := hC 4 (by simp)
 have e7 : vs 7 = .bool true := hC 7 (by simp)
 have e8 : vs 8 = .bool false := hC 8 (by simp)
 have e9 : vs 9 = .bool false := hC 9 (by simp)
 have E : Fr w [(b5, 2, Fq.num 0), (b4, 5, Fq.st [.n 0, .n 0, .v (.bool false)]), (b3, 5, Fq.st [.n Q.x, .n Q.y, .v (.bool Q.i)]), (b2, 5, Fq.st [.n P.x, .n P.y, .v (.bool P.i)]), (b1, 6, Fq.st [.n A, .n B, .n M])] w6 := E6
 rw [lay_all hL]
 simp only [putAll, dstOf, List.length_cons, List.length_nil, Nat.zero_add, Nat.reduceAdd, List.getElem?_toArray, List.getElem?_cons_zero, List.getElem?_cons_succ, Option.bind_some, Act.put, List.setIfInBounds_toArray, List.set_cons_succ, List.set_cons_zero]
 rw [e2, e3, e4, e7, e8, e9]
 generalize vs 0 = u6_0
 generalize vs 1 = u6_1
 generalize vs 5 = u6_5
 generalize vs 6 = u6_6
 clear e2 e3 e4 e7 e8 e9 hC hn E6 hL vs L nb
 go_upto_region 3 with (fail)
 refine region_fr (C := [Fq.st [.n A, .n B, .n M], Fq.st [.n P.x, .n P.y, .v (.bool P.i)], Fq.st [.n Q.x, .n Q.y, .v (.bool Q.i)], Fq.tup2 (Fq.st [.n R.x, .n R.y, .v (.bool R.i)]) (Fq.num d), Fq.tup2 (Fq.st [.n R.x, .n R.y, .v (.bool R.i)]) (Fq.num d), Fq.st [.n R.x, .n R.y, .v (.bool R.i)], Fq.num d, Fq.any, Fq.any, Fq.any, Fq.any]) (ks := [none, none, none, none, none]) (new := [⟨7, 9, 5, Fq.st [.n 0, .n 0, .v (.bool false)], Fq.st [.n R.x, .n R.y, .v (.bool R.i)], none⟩, ⟨8, 10, 2, Fq.num 0, Fq.num d, none⟩]) E rfl (by kernel_rfl) rfl rfl (fun hp => ⟨?_, ?_, ?_, ?_, ?_, ?_, ?_, ?_, ?_, ?_, ?_, trivial⟩) ?_
 ·exact q_loadSt (off := 0) (l := 6) (fs := [.n A, .n B, .n M]) (gs := [.n A, .n B, .n M]) hp (free_of rfl) trivial (mq 4 rfl) (.inl rfl) rfl row_api_Mod rfl (sqo 3) (fun v w h => h)
 ·exact q_loadSt (off := 0) (l := 5) (fs := [.n P.x, .n P.y, .v (.bool P.i)]) (gs := [.n P.x, .n P.y, .v (.bool P.i)]) hp (free_of rfl) trivial (mq 3 rfl) (.inl rfl) rfl row_api_Point rfl (sqo 4) (fun v w h => h)
 ·exact q_loadSt (off := 0) (l := 5) (fs := [.n Q.x, .n Q.y, .v (.bool Q.i)]) (gs := [.n Q.x, .n Q.y, .v (.bool Q.i)]) hp (free_of rfl) trivial (mq 2 rfl) (.inl rfl) rfl row_api_Point rfl (sqo 5) (fun v w h => h)
 ·exact q_call3 (F := (Fq.st [.n A, .n B, .n M]).P) (G := (Fq.st [.n P.x, .n P.y, .v (.bool P.i)]).P) (F3 := (Fq.st [.n Q.x, .n Q.y, .v (.bool Q.i)]).P) hp (free_of rfl) trivial (enq_f_algorist_point_sum) (sqi 0) (sqi 1) (sqi 2) (fun v v' u w h h' g => exSum h h' g hM.out hA.out (onB_ok kp.out).1 (onB_ok kq.out).1 HR.out)
 ·exact q_move hp (free_of rfl) trivial (sqi 3)
 ·exact q_extract2 hp (free_of rfl) trivial (sqi 4) (fun v1 v2 w h1 h2 => ⟨_, rfl, h1⟩)
 ·exact q_extract2 hp (free_of rfl) trivial (sqi 4) (fun v1 v2 w h1 h2 => ⟨_, rfl, h2⟩)
 ·exact q_allocSt (us := [.bool false, .slice none 0 0, .bool false, .slice none 0 0, .bool false]) (fs := [.n 0, .n 0, .v (.bool false)]) hp (mq 0 rfl) rfl rfl rfl (Nat.lt_of_sub_eq_succ rfl) rfl fits0_api_Point (fun ρ w => ralloc_api_Point ρ w) rfl (Nat.ne_of_beq_eq_false rfl) (fun _ _ => trivial) (old_ne rfl) (newk_ne rfl)
 ·exact q_allocInt hp (mq 1 rfl) rfl rfl rfl rfl (Nat.ne_of_beq_eq_false rfl) (fun _ _ => trivial) (old_ne rfl) (newk_ne rfl) (fun w => Num.zero w)
 ·exact q_storeNewSt (fs := [.n 0, .n 0, .v (.bool false)]) (gs := [.n R.x, .n R.y, .v (.bool R.i)]) hp (mq 0 rfl) rfl rfl rfl rfl size_api_Point rfl (own_ptr rfl rfl (by simp) rfl) (sq_in 5 rfl rfl (by simp) rfl (fun v w h => fitv_st h)) (fun _ _ => trivial) (old_ne rfl) (newi_ne rfl)
 ·exact q_storeNewInt hp (mq 1 rfl) rfl rfl rfl (own_ptr rfl rfl (by simp) rfl) (sq_in 6 rfl rfl (by simp) rfl (fun v w h => intV_num h)) (fun _ _ => trivial) (old_ne rfl) (newi_ne rfl)
 intro L vs w7 nb hL hC hn E7
 have e7 : vs 7 = .pointer (some ⟨nb 7, 0, none⟩) := hn _ (mq 0 rfl)
 have e8 : vs 8 = .pointer (some ⟨nb 8, 0, none⟩) := hn _ (mq 1 rfl)
 have E : Fr w [(nb 7, 5, Fq.st [.n R.x, .n R.y, .v (.bool R.i)]), (nb 8, 2, Fq.num d), (b5, 2, Fq.num 0), (b4, 5, Fq.st [.n 0, .n 0, .v (.bool false)]), (b3, 5, Fq.st [.n Q.x, .n Q.y, .v (.bool Q.i)]), (b2, 5, Fq.st [.n P.x, .n P.y, .v (.bool P.i)]), (b1, 6, Fq.st [.n A, .n B, .n M])] w7 := E7
 rw [lay_all hL]
 simp only [putAll, dstOf, List.length_cons, List.length_nil, Nat.zero_add, Nat.reduceAdd, List.getElem?_toArray, List.getElem?_cons_zero, List.getElem?_cons_succ, Option.bind_some, Act.put, List.setIfInBounds_toArray, List.set_cons_succ, List.set_cons_zero]
 rw [e7, e8]
 generalize nb 7 = b7_7 at E ⊢
 generalize nb 8 = b7_8 at E ⊢
 generalize vs 0 = u7_0
 generalize vs 1 = u7_1
 generalize vs 2 = u7_2
 generalize vs 3 = u7_3
 generalize vs 4 = u7_4
 generalize vs 5 = u7_5
 generalize vs 6 = u7_6
 clear e7 e8 hC hn E7 hL vs L nb
 go_upto_region 4 with (fail)
 refine region_fr (C := [Fq.num d, Fq.is (.int .i64 (cmpI d 0)), Fq.is (.bool true)]) (ks := [none, none, none, none, none, none, none]) (new := []) E rfl (by kernel_rfl) rfl rfl (fun hp => ⟨?_, ?_, ?_, trivial⟩) ?_
 ·exact q_loadInt (off := 0) hp (free_of rfl) trivial (mq 1 rfl) (.inl rfl) (Nat.le_of_ble_eq_true rfl) (sqo 10) (fun us w hl h => ld_num hl h)
 ·exact q_call1 (F := (Fq.num d).P) hp (free_of rfl) trivial (enq_Sign) (sqi 0) (fun v w h => exSign h)
 ·exact q_one (F := fun v _ => v = .int .i64 (cmpI d 0)) hp (free_of rfl) trivial (sqi 1) (fun ρ w hc h => ⟨.bool true, by simp [execOp, go_sem, h, hc, T1.out], rfl⟩)
 intro L vs w8 nb hL hC hn E8
 have e1 : vs 1 = .int .i64 (cmpI d 0) := hC 1 (by simp)
 have e2 : vs 2 = .bool true := hC 2 (by simp)
 have E : Fr w [(b7_7, 5, Fq.st [.n R.x, .n R.y, .v (.bool R.i)]), (b7_8, 2, Fq.num d), (b5, 2, Fq.num 0), (b4, 5, Fq.st [.n 0, .n 0, .v (.bool false)]), (b3, 5, Fq.st [.n Q.x, .n Q.y, .v (.bool Q.i)]), (b2, 5, Fq.st [.n P.x, .n P.y, .v (.bool P.i)]), (b1, 6, Fq.st [.n A, .n B, .n M])] w8 := E8
 rw [lay_all hL]
 simp only [putAll, dstOf, List.length_cons, List.length_nil, Nat.zero_add, Nat.reduceAdd, List.getElem?_toArray, List.getElem?_cons_zero, List.getElem?_cons_succ, Option.bind_some, Act.put, List.setIfInBounds_toArray, List.set_cons_succ, List.set_cons_zero]
 rw [e1, e2]
 generalize vs 0 = u8_0
 clear e1 e2 hC hn E8 hL vs L nb
 go_upto_region 5 with (fail)
 refine region_fr (C := [Fq.st [.n 0, .n 0, .v (.bool false)], Fq.num d, Fq.any, Fq.any, Fq.is (.int .i64 6)]) (ks := [none, none, some (3, Fq.num d), some (2, Fq.st [.n 0, .n 0, .v (.bool false)]), none, none, none]) (new := []) E rfl (by kernel_rfl) rfl rfl (fun hp => ⟨?_, ?_, ?_, ?_, ?_, trivial⟩) ?_
 ·exact q_build_api_Point_ hp (free_of rfl) trivial (fun v w h => h)
 ·exact q_loadInt (off := 0) hp (free_of rfl) trivial (mq 1 rfl) (.inl rfl) (Nat.le_of_ble_eq_true rfl) (sqo 10) (fun us w hl h => ld_num hl h)
 ·exact q_storeOldSt (off := 0) (fs := [.n 0, .n 0, .v (.bool false)]) (gs := [.n 0, .n 0, .v (.bool false)]) (fs' := [.n 0, .n 0, .v (.bool false)]) hp (mq 3 rfl) rfl rfl rfl size_api_Point rfl (sqo 6) (sq_in 0 rfl rfl (by simp) rfl (fun v w h => fitv_st h)) (fun _ _ => trivial) (newik_ne rfl)
 ·exact q_storeOldInt hp (mq 2 rfl) rfl rfl (sqo 7) (sq_in 1 rfl rfl (by simp) rfl (fun v w h => intV_num h)) (fun _ _ => trivial) (newik_ne rfl)
 ·exact q_assign hp (free_of rfl) trivial (sq_const (fun _ => rfl))
 intro L vs w9 nb hL hC hn E9
 have e4 : vs 4 = .int .i64 6 := hC 4 (by simp)
 have E : Fr w [(b7_7, 5, Fq.st [.n R.x, .n R.y, .v (.bool R.i)]), (b7_8, 2, Fq.num d), (b5, 2, Fq.num d), (b4, 5, Fq.st [.n 0, .n 0, .v (.bool false)]), (b3, 5, Fq.st [.n Q.x, .n Q.y, .v (.bool Q.i)]), (b2, 5, Fq.st [.n P.x, .n P.y, .v (.bool P.i)]), (b1, 6, Fq.st [.n A, .n B, .n M])] w9 := E9
 rw [lay_all hL]
 simp only [putAll, dstOf, List.length_cons, List.length_nil, Nat.zero_add, Nat.reduceAdd, List.getElem?_toArray, List.getElem?_cons_zero, List.getElem?_cons_succ, Option.bind_some, Act.put, List.setIfInBounds_toArray, List.set_cons_succ, List.set_cons_zero]
 rw [e4]
 generalize vs 0 = u9_0
 generalize vs 1 = u9_1
 clear e4 hC hn E9 hL vs L nb
 clear kp kq T1 HR
 obtain ⟨_, _, hc, hf⟩ := box_st (E.box 3 rfl)
 have hR := hf
 obtain ⟨r_p0, r_q0, _, rfl, _r_n0, r_p1, r_q1, _, rfl, _r_n1, _, rfl, _, rfl⟩ := hf
 have c0 := hc 0 (by simp)
 have c1 := hc 1 (by simp)
 have c2 := hc 2 (by simp)
 have c3 := hc 3 (by simp)
 have c4 := hc 4 (by simp)
 simp only [List.getD_cons_zero, List.getD_cons_succ] at c0 c1 c2 c3 c4
 clear hc
 obtain ⟨d0, d1, e0, e1, hD⟩ := box_num (E.box 2 rfl)
 clear hM hA hB hP hQ
 go_wp2
 refine bodyPost_ret (v := .tuple #[.agg #[r_p0, r_q0, r_p1, r_q1, .bool false], .agg #[d0, d1], .int .i64 6]) ?_ rfl ⟨_, rfl, E.below, _, _, _, rfl, ⟨_, rfl, hR⟩, hD, rfl⟩
 simp [results, Try.results34, go_sem, e0, e1, c0, c1, c2, c3, c4]

set_option maxRecDepth 100000 in
set_option maxHeartbeats 4000000 in
theorem exAddP {w : World} {v v' u : Value} {A B M : Int} {P Q : Pt} (h : (Fq.st [.n A, .n B, .n M]).P v w) (h' : (Fq.pt P).P v' w) (h2 : (Fq.pt Q).P u w) (hM : ab M < pw 5) (hA : ab A < pw 5) (hB : ab B < pw 5) (hP : ab P.x < pw 5 ∧ ab P.y < pw 5) (hQ : ab Q.x < pw 5 ∧ ab Q.y < pw 5) (kp : onB A B M P.x P.y P.i = true) (kq : onB A B M Q.x Q.y Q.i = true) {R : Pt × Int} (hR : sumP A M P Q = R) (hd :  R.2 = 0) :
  Calls Try.prog 34 #[v, v', u] w fun e w' => ∃ v', e = .returned v' ∧ Below w.heap.size w w' ∧ (Fq.tup3 (Fq.pt R.1) (Fq.num 0) (Fq.is (.int .i64 0))).P v' w' := by
 replace hM := hidd hM
 replace hA := hidd hA
 replace hB := hidd hB
 replace hP := hidd hP
 replace hQ := hidd hQ
 replace kp := hidd kp
 replace kq := hidd kq
 obtain ⟨_, rfl, hf0⟩ := h
 have hF0 := hf0
 obtain ⟨y0_p0, y0_q0, _, rfl, _y0_n0, y0_p1, y0_q1, _, rfl, _y0_n1, y0_p2, y0_q2, _, rfl, _y0_n2, rfl⟩ := hf0
 obtain ⟨_, rfl, hf1⟩ := h'
 have hF1 := hf1
 obtain ⟨y1_p0, y1_q0, _, rfl, _y1_n0, y1_p1, y1_q1, _, rfl, _y1_n1, _, rfl, _, rfl⟩ := hf1
 obtain ⟨_, rfl, hf2⟩ := h2
 have hF2 := hf2
 obtain ⟨y2_p0, y2_q0, _, rfl, _y2_n0, y2_p1, y2_q1, _, rfl, _y2_n1, _, rfl, _, rfl⟩ := hf2
 obtain ⟨w1, b1, hw1, hb1, hs1, E⟩ := fr_start w (F := Fq.st [.n A, .n B, .n M]) (us := [y0_p0, y0_q0, y0_p1, y0_q1, y0_p2, y0_q2]) 31 rfl (by simp) (hF0.tame) (show (Fq.st [.n A, .n B, .n M]).P _ w from ⟨_, rfl, hF0⟩)
 obtain ⟨w2, b2, hw2, hb2, hs2, E⟩ := fr_more E hs1 (F := Fq.st [.n P.x, .n P.y, .v (.bool P.i)]) (us := [y1_p0, y1_q0, y1_p1, y1_q1, .bool P.i]) 37 rfl (by simp) (hF1.tame) ((Fq.st [.n P.x, .n P.y, .v (.bool P.i)]).mono (show (Fq.st [.n P.x, .n P.y, .v (.bool P.i)]).P _ w from ⟨_, rfl, hF1⟩) E.below)
 obtain ⟨w3, b3, hw3, hb3, hs3, E⟩ := fr_more E hs2 (F := Fq.st [.n Q.x, .n Q.y, .v (.bool Q.i)]) (us := [y2_p0, y2_q0, y2_p1, y2_q1, .bool Q.i]) 37 rfl (by simp) (hF2.tame) ((Fq.st [.n Q.x, .n Q.y, .v (.bool Q.i)]).mono (show (Fq.st [.n Q.x, .n Q.y, .v (.bool Q.i)]).P _ w from ⟨_, rfl, hF2⟩) E.below)
 obtain ⟨w4, b4, hw4, hb4, hs4, E⟩ := fr_more E hs3 (F := Fq.st [.n 0, .n 0, .v (.bool false)]) (us := [.bool false, .slice none 0 0, .bool false, .slice none 0 0, .bool false]) 37 rfl (by simp) ((Fits.tame (fits0_api_Point w))) (fits0P_api_Point _)
 obtain ⟨w5, b5, hw5, hb5, hs5, E⟩ := fr_more E hs4 (F := Fq.num 0) (us := [.bool false, .slice none 0 0]) 29 rfl (by simp) (tame_int _ _ _ _) (Num.zero _)
 go_enter Try.func34, Try.ntmps34
 go_upto_region 1 with (fail)
 rw [← hw1]
 rw [← hw2]
 rw [← hw3]
 rw [← hw4]
 rw [← hw5]
 rw [← hb5]
 rw [← hb4]
 rw [← hb3]
 rw [← hb2]
 rw [← hb1]
 clear hw1 hw2 hw3 hw4 hw5 hb1 hb2 hb3 hb4 hb5 hs5 hs1 hs2 hs3 hs4
 obtain ⟨R, d⟩ := R
 have T1 : Hid ( cmpI d 0 = 0) := cmpIq0.2 hd
 have HR := hidd hR
 clear hd hR
 refine region_fr (C := [Fq.st [.n A, .n B, .n M], Fq.st [.n P.x, .n P.y, .v (.bool P.i)], Fq.is (.bool true), Fq.is (.bool false), Fq.is (.bool false), Fq.st [.n A, .n B, .n M], Fq.st [.n Q.x, .n Q.y, .v (.bool Q.i)], Fq.is (.bool true), Fq.is (.bool false), Fq.is (.bool false)]) (ks := [none, none, none, none, none]) (new := []) E rfl (by kernel_rfl) rfl rfl (fun hp => ⟨?_, ?_, ?_, ?_, ?_, ?_, ?_, ?_, ?_, ?_, trivial⟩) ?_
 ·exact q_loadSt (off := 0) (l := 6) (fs := [.n A, .n B, .n M]) (gs := [.n A, .n B, .n M]) hp (free_of rfl) trivial (mq 4 rfl) (.inl rfl) rfl row_api_Mod rfl (sqo 3) (fun v w h => h)
 ·exact q_loadSt (off := 0) (l := 5) (fs := [.n P.x, .n P.y, .v (.bool P.i)]) (gs := [.n P.x, .n P.y, .v (.bool P.i)]) hp (free_of rfl) trivial (mq 3 rfl) (.inl rfl) rfl row_api_Point rfl (sqo 4) (fun v w h => h)
 ·exact q_call2 (F := (Fq.st [.n A, .n B, .n M]).P) (G := (Fq.st [.n P.x, .n P.y, .v (.bool P.i)]).P) hp (free_of rfl) trivial (enq_f_algorist_point_On) (sqi 0) (sqi 1) (fun v v' w h h' => exOn h h' hM.out hA.out hB.out hP.out.1 hP.out.2 kp.out)
 ·exact q_one (F := fun v _ => v = .bool true) hp (free_of rfl) trivial (sqi 2) (fun ρ w _ h => ⟨.bool false, by simp [execOp, go_sem, h], rfl⟩)
 ·exact q_move hp (free_of rfl) trivial (sqi 3)
 ·exact q_loadSt (off := 0) (l := 6) (fs := [.n A, .n B, .n M]) (gs := [.n A, .n B, .n M]) hp (free_of rfl) gqi (mq 4 rfl) (.inl rfl) rfl row_api_Mod rfl (sqo 3) (fun v w h => h)
 ·exact q_loadSt (off := 0) (l := 5) (fs := [.n Q.x, .n Q.y, .v (.bool Q.i)]) (gs := [.n Q.x, .n Q.y, .v (.bool Q.i)]) hp (free_of rfl) gqi (mq 2 rfl) (.inl rfl) rfl row_api_Point rfl (sqo 5) (fun v w h => h)
 ·exact q_call2 (F := (Fq.st [.n A, .n B, .n M]).P) (G := (Fq.st [.n Q.x, .n Q.y, .v (.bool Q.i)]).P) hp (free_of rfl) gqi (enq_f_algorist_point_On) (sqi 5) (sqi 6) (fun v v' w h h' => exOn h h' hM.out hA.out hB.out hQ.out.1 hQ.out.2 kq.out)
 ·exact q_one (F := fun v _ => v = .bool true) hp (free_of rfl) gqi (sqi 7) (fun ρ w _ h => ⟨.bool false, by simp [execOp, go_sem, h], rfl⟩)
 ·exact q_two (F := fun v _ => v = .bool false) (G := fun v _ => v = .bool false) hp (free_of rfl) trivial (sqi 4) (sqi 8) (fun ρ w hc h h' => ⟨_, by simp [execOp, go_sem, h, h'], rfl⟩)
 intro L vs w6 nb hL hC hn E6
 have e2 : vs 2 = .bool true := hC 2 (by simp)
 have e3 : vs 3 = .bool false := hC 3 (by simp)
 have e4 : vs 4 = .bool false := hC 4 (by simp)
 have e7 : vs 7 = .bool true := hC 7 (by simp)
 have e8 : vs 8 = .bool false := hC 8 (by simp)
 have e9 : vs 9 = .bool false := hC 9 (by simp)
 have E : Fr w [(b5, 2, Fq.num 0), (b4, 5, Fq.st [.n 0, .n 0, .v (.bool false)]), (b3, 5, Fq.st [.n Q.x, .n Q.y, .v (.bool Q.i)]), (b2, 5, Fq.st [.n P.x, .n P.y, .v (.bool P.i)]), (b1, 6, Fq.st [.n A, .n B, .n M])] w6 := E6
 rw [lay_all hL]
 simp only [putAll, dstOf, List.length_cons, List.length_nil, Nat.zero_add, Nat.reduceAdd, List.getElem?_toArray, List.getElem?_cons_zero, List.getElem?_cons_succ, Option.bind_some, Act.put, List.setIfInBounds_toArray, List.set_cons_succ, List.set_cons_zero]
 rw [e2, e3, e4, e7, e8, e9]
 generalize vs 0 = u6_0
 generalize vs 1 = u6_1
 generalize vs 5 = u6_5
 generalize vs 6 = u6_6
 clear e2 e3 e4 e7 e8 e9 hC hn E6 hL vs L nb
 go_upto_region 3 with (fail)
 refine region_fr (C := [Fq.st [.n A, .n B, .n M], Fq.st [.n P.x, .n P.y, .v (.bool P.i)], Fq.st [.n Q.x, .n Q.y, .v (.bool Q.i)], Fq.tup2 (Fq.st [.n R.x, .n R.y, .v (.bool R.i)]) (Fq.num d), Fq.tup2 (Fq.st [.n R.x, .n R.y, .v (.bool R.i)]) (Fq.num d), Fq.st [.n R.x, .n R.y, .v (.bool R.i)], Fq.num d, Fq.any, Fq.any, Fq.any, Fq.any]) (ks := [none, none, none, none, none]) (new := [⟨7, 9, 5, Fq.st [.n 0, .n 0, .v (.bool false)], Fq.st [.n R.x, .n R.y, .v (.bool R.i)], none⟩, ⟨8, 10, 2, Fq.num 0, Fq.num d, none⟩]) E rfl (by kernel_rfl) rfl rfl (fun hp => ⟨?_, ?_, ?_, ?_, ?_, ?_, ?_, ?_, ?_, ?_, ?_, trivial⟩) ?_
 ·exact q_loadSt (off := 0) (l := 6) (fs := [.n A, .n B, .n M]) (gs := [.n A, .n B, .n M]) hp (free_of rfl) trivial (mq 4 rfl) (.inl rfl) rfl row_api_Mod rfl (sqo 3) (fun v w h => h)
 ·exact q_loadSt (off := 0) (l := 5) (fs := [.n P.x, .n P.y, .v (.bool P.i)]) (gs := [.n P.x, .n P.y, .v (.bool P.i)]) hp (free_of rfl) trivial (mq 3 rfl) (.inl rfl) rfl row_api_Point rfl (sqo 4) (fun v w h => h)
 ·exact q_loadSt (off := 0) (l := 5) (fs := [.n Q.x, .n Q.y, .v (.bool Q.i)]) (gs := [.n Q.x, .n Q.y, .v (.bool Q.i)]) hp (free_of rfl) trivial (mq 2 rfl) (.inl rfl) rfl row_api_Point rfl (sqo 5) (fun v w h => h)
 ·exact q_call3 (F := (Fq.st [.n A, .n B, .n M]).P) (G := (Fq.st [.n P.x, .n P.y, .v (.bool P.i)]).P) (F3 := (Fq.st [.n Q.x, .n Q.y, .v (.bool Q.i)]).P) hp (free_of rfl) trivial (enq_f_algorist_point_sum) (sqi 0) (sqi 1) (sqi 2) (fun v v' u w h h' g => exSum h h' g hM.out hA.out (onB_ok kp.out).1 (onB_ok kq.out).1 HR.out)
 ·exact q_move hp (free_of rfl) trivial (sqi 3)
 ·exact q_extract2 hp (free_of rfl) trivial (sqi 4) (fun v1 v2 w h1 h2 => ⟨_, rfl, h1⟩)
 ·exact q_extract2 hp (free_of rfl) trivial (sqi 4) (fun v1 v2 w h1 h2 => ⟨_, rfl, h2⟩)
 ·exact q_allocSt (us := [.bool false, .slice none 0 0, .bool false, .slice none 0 0, .bool false]) (fs := [.n 0, .n 0, .v (.bool false)]) hp (mq 0 rfl) rfl rfl rfl (Nat.lt_of_sub_eq_succ rfl) rfl fits0_api_Point (fun ρ w => ralloc_api_Point ρ w) rfl (Nat.ne_of_beq_eq_false rfl) (fun _ _ => trivial) (old_ne rfl) (newk_ne rfl)
 ·exact q_allocInt hp (mq 1 rfl) rfl rfl rfl rfl (Nat.ne_of_beq_eq_false rfl) (fun _ _ => trivial) (old_ne rfl) (newk_ne rfl) (fun w => Num.zero w)
 ·exact q_storeNewSt (fs := [.n 0, .n 0, .v (.bool false)]) (gs := [.n R.x, .n R.y, .v (.bool R.i)]) hp (mq 0 rfl) rfl rfl rfl rfl size_api_Point rfl (own_ptr rfl rfl (by simp) rfl) (sq_in 5 rfl rfl (by simp) rfl (fun v w h => fitv_st h)) (fun _ _ => trivial) (old_ne rfl) (newi_ne rfl)
 ·exact q_storeNewInt hp (mq 1 rfl) rfl rfl rfl (own_ptr rfl rfl (by simp) rfl) (sq_in 6 rfl rfl (by simp) rfl (fun v w h => intV_num h)) (fun _ _ => trivial) (old_ne rfl) (newi_ne rfl)
 intro L vs w7 nb hL hC hn E7
 have e7 : vs 7 = .pointer (some ⟨nb 7, 0, none⟩) := hn _ (mq 0 rfl)
 have e8 : vs 8 = .pointer (some ⟨nb 8, 0, none⟩) := hn _ (mq 1 rfl)
 have E : Fr w [(nb 7, 5, Fq.st [.n R.x, .n R.y, .v (.bool R.i)]), (nb 8, 2, Fq.num d), (b5, 2, Fq.num 0), (b4, 5, Fq.st [.n 0, .n 0, .v (.bool false)]), (b3, 5, Fq.st [.n Q.x, .n Q.y, .v (.bool Q.i)]), (b2, 5, Fq.st [.n P.x, .n P.y, .v (.bool P.i)]), (b1, 6, Fq.st [.n A, .n B, .n M])] w7 := E7
 rw [lay_all hL]
 simp only [putAll, dstOf, List.length_cons, List.length_nil, Nat.zero_add, Nat.reduceAdd, List.getElem?_toArray, List.getElem?_cons_zero, List.getElem?_cons_succ, Option.bind_some, Act.put, List.setIfInBounds_toArray, List.set_cons_succ, List.set_cons_zero]
 rw [e7, e8]
 generalize nb 7 = b7_7 at E ⊢
 generalize nb 8 = b7_8 at E ⊢
 generalize vs 0 = u7_0
 generalize vs 1 = u7_1
 generalize vs 2 = u7_2
 generalize vs 3 = u7_3
 generalize vs 4 = u7_4
 generalize vs 5 = u7_5
 generalize vs 6 = u7_6
 clear e7 e8 hC hn E7 hL vs L nb
 go_upto_region 4 with (fail)
 refine region_fr (C := [Fq.num d, Fq.is (.int .i64 (cmpI d 0)), Fq.is (.bool false)]) (ks := [none, none, none, none, none, none, none]) (new := []) E rfl (by kernel_rfl) rfl rfl (fun hp => ⟨?_, ?_, ?_, trivial⟩) ?_
 ·exact q_loadInt (off := 0) hp (free_of rfl) trivial (mq 1 rfl) (.inl rfl) (Nat.le_of_ble_eq_true rfl) (sqo 10) (fun us w hl h => ld_num hl h)
 ·exact q_call1 (F := (Fq.num d).P) hp (free_of rfl) trivial (enq_Sign) (sqi 0) (fun v w h => exSign h)
 ·exact q_one (F := fun v _ => v = .int .i64 (cmpI d 0)) hp (free_of rfl) trivial (sqi 1) (fun ρ w hc h => ⟨.bool false, by simp [execOp, go_sem, h, hc, T1.out], rfl⟩)
 intro L vs w8 nb hL hC hn E8
 have e1 : vs 1 = .int .i64 (cmpI d 0) := hC 1 (by simp)
 have e2 : vs 2 = .bool false := hC 2 (by simp)
 have E : Fr w [(b7_7, 5, Fq.st [.n R.x, .n R.y, .v (.bool R.i)]), (b7_8, 2, Fq.num d), (b5, 2, Fq.num 0), (b4, 5, Fq.st [.n 0, .n 0, .v (.bool false)]), (b3, 5, Fq.st [.n Q.x, .n Q.y, .v (.bool Q.i)]), (b2, 5, Fq.st [.n P.x, .n P.y, .v (.bool P.i)]), (b1, 6, Fq.st [.n A, .n B, .n M])] w8 := E8
 rw [lay_all hL]
 simp only [putAll, dstOf, List.length_cons, List.length_nil, Nat.zero_add, Nat.reduceAdd, List.getElem?_toArray, List.getElem?_cons_zero, List.getElem?_cons_succ, Option.bind_some, Act.put, List.setIfInBounds_toArray, List.set_cons_succ, List.set_cons_zero]
 rw [e1, e2]
 generalize vs 0 = u8_0
 clear e1 e2 hC hn E8 hL vs L nb
 go_upto_region 6 with (fail)
 refine region_fr (C := [Fq.st [.n R.x, .n R.y, .v (.bool R.i)], Fq.num 0, Fq.any, Fq.any, Fq.is (.int .i64 0)]) (ks := [none, none, some (3, Fq.num 0), some (2, Fq.st [.n R.x, .n R.y, .v (.bool R.i)]), none, none, none]) (new := []) E rfl (by kernel_rfl) rfl rfl (fun hp => ⟨?_, ?_, ?_, ?_, ?_, trivial⟩) ?_
 ·exact q_loadSt (off := 0) (l := 5) (fs := [.n R.x, .n R.y, .v (.bool R.i)]) (gs := [.n R.x, .n R.y, .v (.bool R.i)]) hp (free_of rfl) trivial (mq 0 rfl) (.inl rfl) rfl row_api_Point rfl (sqo 9) (fun v w h => h)
 ·exact q_zeroInt hp (free_of rfl) trivial (fun w => Num.zero w)
 ·exact q_storeOldSt (off := 0) (fs := [.n 0, .n 0, .v (.bool false)]) (gs := [.n R.x, .n R.y, .v (.bool R.i)]) (fs' := [.n R.x, .n R.y, .v (.bool R.i)]) hp (mq 3 rfl) rfl rfl rfl size_api_Point rfl (sqo 6) (sq_in 0 rfl rfl (by simp) rfl (fun v w h => fitv_st h)) (fun _ _ => trivial) (newik_ne rfl)
 ·exact q_storeOldInt hp (mq 2 rfl) rfl rfl (sqo 7) (sq_in 1 rfl rfl (by simp) rfl (fun v w h => intV_num h)) (fun _ _ => trivial) (newik_ne rfl)
 ·exact q_assign hp (free_of rfl) trivial (sq_const (fun _ => rfl))
 intro L vs w9 nb hL hC hn E9
 have e4 : vs 4 = .int .i64 0 := hC 4 (by simp)
 have E : Fr w [(b7_7, 5, Fq.st [.n R.x, .n R.y, .v (.bool R.i)]), (b7_8, 2, Fq.num d), (b5, 2, Fq.num 0), (b4, 5, Fq.st [.n R.x, .n R.y, .v (.bool R.i)]), (b3, 5, Fq.st [.n Q.x, .n Q.y, .v (.bool Q.i)]), (b2, 5, Fq.st [.n P.x, .n P.y, .v (.bool P.i)]), (b1, 6, Fq.st [.n A, .n B, .n M])] w9 := E9
 rw [lay_all hL]
 simp only [putAll, dstOf, List.length_cons, List.length_nil, Nat.zero_add, Nat.reduceAdd, List.getElem?_toArray, List.getElem?_cons_zero, List.getElem?_cons_succ, Option.bind_some, Act.put, List.setIfInBounds_toArray, List.set_cons_succ, List.set_cons_zero]
 rw [e4]
 generalize vs 0 = u9_0
 generalize vs 1 = u9_1
 clear e4 hC hn E9 hL vs L nb
 clear kp kq T1 HR
 obtain ⟨_, _, hc, hf⟩ := box_st (E.box 3 rfl)
 have hR := hf
 obtain ⟨r_p0, r_q0, _, rfl, _r_n0, r_p1, r_q1, _, rfl, _r_n1, _, rfl, _, rfl⟩ := hf
 have c0 := hc 0 (by simp)
 have c1 := hc 1 (by simp)
 have c2 := hc 2 (by simp)
 have c3 := hc 3 (by simp)
 have c4 := hc 4 (by simp)
 simp only [List.getD_cons_zero, List.getD_cons_succ] at c0 c1 c2 c3 c4
 clear hc
 obtain ⟨d0, d1, e0, e1, hD⟩ := box_num (E.box 2 rfl)
 clear hM hA hB hP hQ
 go_wp2
 refine bodyPost_ret (v := .tuple #[.agg #[r_p0, r_q0, r_p1, r_q1, .bool R.i], .agg #[d0, d1], .int .i64 0]) ?_ rfl ⟨_, rfl, E.below, _, _, _, rfl, ⟨_, rfl, hR⟩, hD, rfl⟩
 simp [results, Try.results34, go_sem, e0, e1, c0, c1, c2, c3, c4]

end Go.Proofs.Ytihhlaagndingaa

namespace Go.Proofs.Ytihhlaagndingaa
open Go Go.RowKit

end Go.Proofs.Ytihhlaagndingaa

namespace Go.Proofs.Ytihhlaagndingaa
open Go Go.RowKit

end Go.Proofs.Ytihhlaagndingaa

namespace Go.Proofs.Ytihhlaagndingaa
open Go Go.RowKit

end Go.Proofs.Ytihhlaagndingaa

namespace Go.Proofs.Ytihhlaagndingaa
open Go Go.RowKit

def v2 (z : Int) : Nat := Lib.ctzFrom (nbits z) z.natAbs
section
variable {os : List Oper} {Q : Exit → Act → World → Prop} {a : Act} {p : Pq} {B B0 : Nat} {w0 : World}
variable {i s : Nat} {d : Option Tmp} {ty : TypeId} {ps : String} {af : Array Edge} {gd : Option (Nat × Bool)}
end
end Go.Proofs.Ytihhlaagndingaa

namespace Go.Proofs.Ytihhlaagndingaa
open Go Go.RowKit

section
variable {os : List Oper} {Q : Exit → Act → World → Prop} {a : Act} {p : Pq} {B B0 : Nat} {w0 : World}
variable {i s : Nat} {d : Option Tmp} {ty : TypeId} {ps : String} {af : Array Edge} {gd : Option (Nat × Bool)}
theorem q_call2W {x y : Operand} {F G : Value → World → Prop} {f : FuncId} {ts : Array TypeId} (hp : p.Ok B B0) (hF : p.Free i) (hg : GdQ os a p B B0 w0 af gd) (hen : ∀ args w, (callFunc f args).run Try.prog w = .ok (.enter f args) w) (hB : B = w0.heap.size)
  (hx : SrcQ os a p B B0 w0 af x F) (hy : SrcQ os a p B B0 w0 af y G) (hC : ∀ v v' w, Below w0.heap.size w0 w → F v w → G v' w → Calls Try.prog f #[v, v'] w fun e w' => ∃ v', e = .returned v' ∧ Below w.heap.size w w' ∧ (p.c i).P v' w') :
  StepQ os Q a p B B0 w0 i { dst := d, op := .call { callee := .value (.func f), args := #[x, y], argTypes := ts }, type := ty, pos := ps, after := af, guard := gd } := by
 subst hB
 exact stq_call hp hF hg hen fun L vs w hG hd => ⟨#[_, _], by simp, hC _ _ _ hG.below (hx L vs w hG hd) (hy L vs w hG hd)⟩
end
end Go.Proofs.Ytihhlaagndingaa

namespace Go.Proofs.Ytihhlaagndingaa
open Go Go.RowKit

end Go.Proofs.Ytihhlaagndingaa

namespace Go.Proofs.Ytihhlaagndingaa
open Go Go.RowKit

section
variable {U Y y1 y0 B u q r : Nat}
end
end Go.Proofs.Ytihhlaagndingaa

namespace Go.Proofs.Ytihhlaagndingaa
open Go Go.RowKit

end Go.Proofs.Ytihhlaagndingaa

namespace Go.Proofs.Ytihhlaagndingaa
open Go Go.RowKit

end Go.Proofs.Ytihhlaagndingaa

namespace Go.Proofs.Ytihhlaagndingaa
open Go Go.RowKit

end Go.Proofs.Ytihhlaagndingaa

namespace Go.Proofs.Ytihhlaagndingaa
open Go Go.RowKit

theorem prime_mul {p : Nat} (hp : Pr p) {a b : Int} (h : (a * b) % p = 0) : a % p = 0 ∨ b % p = 0 := by
 by_cases ha : a % p = 0
 ·exact .inl ha
 ·by_cases hb : b % p = 0
  ·exact .inr hb
  ·exact absurd h (cop_mod (hp.cop ha) hb)
def sw (p : Nat) (a : Int) (x : Nat) : Nat := ((a * (x : Int) ^ (p - 2)) % p).toNat
def ad (x y : Int × Int) : Int × Int := (x.1 + y.1, x.2 + y.2)
def sm (c : Int) (x : Int × Int) : Int × Int := (c * x.1, c * x.2)
def Eqp (p : Int) (x y : Int × Int) : Prop := x.1 % p = y.1 % p ∧ x.2 % p = y.2 % p
theorem Eqp.refl (p : Int) (x : Int × Int) : Eqp p x x := ⟨rfl, rfl⟩
theorem Eqp.symm {p : Int} {x y : Int × Int} (h : Eqp p x y) : Eqp p y x := ⟨h.1.symm, h.2.symm⟩
theorem Eqp.trans {p : Int} {x y z : Int × Int} (h : Eqp p x y) (h' : Eqp p y z) : Eqp p x z := ⟨h.1.trans h'.1, h.2.trans h'.2⟩
theorem mul_modm {p a b c d : Int} (h : a % p = c % p) (h' : b % p = d % p) : (a * b) % p = (c * d) % p := by rw [Int.mul_emod, h, h', ← Int.mul_emod]
theorem add_modm {p a b c d : Int} (h : a % p = c % p) (h' : b % p = d % p) : (a + b) % p = (c + d) % p := by rw [Int.add_emod, h, h', ← Int.add_emod]
theorem Eqp.ad {p : Int} {x y x' y' : Int × Int} (h : Eqp p x x') (h' : Eqp p y y') : Eqp p (ad x y) (ad x' y') := ⟨add_modm h.1 h'.1, add_modm h.2 h'.2⟩
theorem Eqp.sm {p : Int} {c d : Int} {x y : Int × Int} (hc : c % p = d % p) (h : Eqp p x y) : Eqp p (sm c x) (sm d y) := ⟨mul_modm hc h.1, mul_modm hc h.2⟩
def ch : Nat → Nat → Nat
 | _, 0 => 1
 | 0, _ + 1 => 0
 | n + 1, k + 1 => ch n k + ch n (k + 1)
theorem pr_of {p : Nat} (h2 : 2 ≤ p) (h : ∀ d, 2 ≤ d → d * d ≤ p → p % d ≠ 0) : Pr p := by
 refine ⟨h2, fun d hd => ?_⟩
 obtain ⟨c, hc⟩ := hd
 refine Classical.byContradiction fun hne => ?_
 have d0 : d ≠ 0 := fun e => by rw [e, Nat.zero_mul] at hc; omega
 have c0 : c ≠ 0 := fun e => by rw [e, Nat.mul_zero] at hc; omega
 have c1 : c ≠ 1 := fun e => by rw [e, Nat.mul_one] at hc; omega
 rcases Nat.le_total d c with hl | hl
 ·refine h d (by omega) ?_ (by rw [hc]; exact Nat.mul_mod_right _ _)
  rw [hc]; exact Nat.mul_le_mul_left _ hl
 ·refine h c (by omega) ?_ (by rw [hc]; exact Nat.mul_mod_left _ _)
  rw [hc]; exact Nat.mul_le_mul_right _ hl
end Go.Proofs.Ytihhlaagndingaa

namespace Go.Proofs.Ytihhlaagndingaa
open Go Go.RowKit

end Go.Proofs.Ytihhlaagndingaa

namespace Go.Proofs.Ytihhlaagndingaa
open Go Go.RowKit

end Go.Proofs.Ytihhlaagndingaa

namespace Go.Proofs.Ytihhlaagndingaa
open Go Go.RowKit

end Go.Proofs.Ytihhlaagndingaa

namespace Go.Proofs.Ytihhlaagndingaa
open Go Go.RowKit

end Go.Proofs.Ytihhlaagndingaa

namespace Go.Proofs.Ytihhlaagndingaa
open Go Go.RowKit

end Go.Proofs.Ytihhlaagndingaa

namespace Go.Proofs.Ytihhlaagndingaa
open Go Go.RowKit

end Go.Proofs.Ytihhlaagndingaa

namespace Go.Proofs.Ytihhlaagndingaa
open Go Go.RowKit

end Go.Proofs.Ytihhlaagndingaa

namespace Go.Proofs.Ytihhlaagndingaa
open Go Go.RowKit Go.Shelf

attribute [local go_sem] Oper.semAt_some

abbrev MulP (p n : Nat) := { x : Nat // p * p ≤ x ∧ x ≤ n ∧ x % p = 0 }
def KpM (Bp Bn : Nat) (A B : World) : Prop := B.heap[Bp]? = A.heap[Bp]? ∧ B.heap[Bn]? = A.heap[Bn]?
theorem cell_same {A B : World} {b j : Nat} (h : B.heap[b]? = A.heap[b]?) : B.cell? ⟨b, j, none⟩ = A.cell? ⟨b, j, none⟩ := by
 unfold World.cell?
 simp only [h]
theorem frozen_same {A B : World} {b j : Nat} (h : B.heap[b]? = A.heap[b]?) : B.frozen? ⟨b, j, none⟩ = A.frozen? ⟨b, j, none⟩ := by
 unfold World.frozen?
 simp only [h]
theorem KpM.trans {Bp Bn : Nat} {A B C : World} (h : KpM Bp Bn A B) (k : KpM Bp Bn B C) : KpM Bp Bn A C := ⟨k.1.trans h.1, k.2.trans h.2⟩
end Go.Proofs.Ytihhlaagndingaa

namespace Go.Proofs.Ytihhlaagndingaa
open Go Go.RowKit Go.Shelf

attribute [local go_sem] Oper.semAt_some

def isP (q : Nat) : Bool := decide (2 ≤ q) && (List.range q).all (fun d => decide (d < 2) || decide (q % d ≠ 0))
def mkB (p m : Nat) : Bool := (List.range p).any (fun q => isP q && decide (q * q ≤ m) && (m % q == 0))
def below (p : Nat) : List Nat := (List.range p).filter isP
def Ni (W : World) (B : Nat) (v : Value) (xs : List Nat) : Prop := W.ownsRow B 3 1 v xs.length (xs.map fun x : Nat => Value.int .i64 (x : Int))
theorem Ni.shape {W : World} {B : Nat} {v : Value} {xs : List Nat} (h : Ni W B v xs) : ∃ ao cap, v = .slice ao xs.length cap := by
 rcases h.2 with ⟨rfl, h0⟩ | ⟨g, cap, cur, rfl, _⟩
 ·exact ⟨none, 0, by rw [h0]⟩
 ·exact ⟨_, _, rfl⟩
theorem Ni.nil (w : World) (B : Nat) : Ni w B (.slice none 0 0) [] := World.ownsRow_nil w B _ _
theorem Ni.mono {w w' : World} {B : Nat} {v : Value} {xs : List Nat} (h : Ni w B v xs) (hb : ∀ g, (∃ cur t r, w.heap[g]? = some (.cells cur t r)) → B ≤ g → v.ownBlock = some g → w'.heap[g]? = w.heap[g]?) : Ni w' B v xs := by
 refine ⟨h.1, ?_⟩
 rcases h.2 with h2 | ⟨g, cap, cur, h1, h2, h3, h4⟩
 ·exact .inl h2
 ·exact .inr ⟨g, cap, cur, h1, h2, by rw [hb g ⟨_, _, _, h3⟩ h2 (by rw [h1]; rfl)]; exact h3, h4⟩
theorem Ni.below {w w' : World} {B : Nat} {v : Value} {xs : List Nat} (h : Ni w B v xs) (hb : Below w.heap.size w w') : Ni w' B v xs :=
 h.mono fun g ⟨_, _, _, hg⟩ _ _ => hb.block g (Array.getElem?_eq_some_iff.1 hg).1
theorem Ni.cell {w : World} {B : Nat} {ao : Option Addr} {n c : Nat} {xs : List Nat} (h : Ni w B (.slice ao n c) xs) {i : Nat} (hi : i < xs.length) : ∃ g, ao = some ⟨g, 0, none⟩ ∧ w.cell? ⟨g, i, none⟩ = some (.int .i64 ((xs.getD i 0 : Nat) : Int)) := by
 rcases h.2 with ⟨_, h0⟩ | ⟨g, cap, cur, e, _⟩
 ·omega
 ·injection e with e1 e2 e3
  subst e1
  have := World.ownsRow.cells h (g := g) rfl i (.int .i64 ((xs.getD i 0 : Nat) : Int)) (by simp [hi])
  rw [add_plain'] at this
  exact ⟨g, rfl, this⟩
def Bo (W : World) (C N : Nat) (f : Nat → Bool) : Prop := ∀ m, m ≤ N → W.cell? ⟨C, m, none⟩ = some (.bool (f m)) ∧ W.frozen? ⟨C, m, none⟩ = false
def Marks (B : Nat) (W : World) (ds : List Deferred) : Prop := ∃ Ds : List Nat, ds = Ds.map (fun D => { target := .collected D, args := #[] }) ∧ Ds.Nodup ∧ ∀ D ∈ Ds, B ≤ D ∧ W.heap[D]? = some (Obj.deferred (some []))
theorem Marks.mono {B : Nat} {W W' : World} {ds : List Deferred} (h : Marks B W ds) (hk : ∀ D : Nat, W.heap[D]? = some (Obj.deferred (some [])) → W'.heap[D]? = some (Obj.deferred (some []))) : Marks B W' ds := by
 obtain ⟨Ds, h1, h2, h3⟩ := h
 exact ⟨Ds, h1, h2, fun D hD => ⟨(h3 D hD).1, hk D (h3 D hD).2⟩⟩
theorem Marks.nil (B : Nat) (W : World) : Marks B W [] := ⟨[], rfl, List.nodup_nil, fun _ h => by simp at h⟩
theorem Marks.cons {B : Nat} {W W1 : World} {ds : List Deferred} (h : Marks B W1 ds) (hk : ∀ E, E < W1.heap.size → W.heap[E]? = W1.heap[E]? ∨ W1.heap[E]? ≠ some (Obj.deferred (some []))) {D : Nat} (hB : B ≤ D) (hD1 : W1.heap.size ≤ D) (hD : W.heap[D]? = some (Obj.deferred (some []))) : Marks B W ({ target := .collected D, args := #[] } :: ds) := by
 obtain ⟨Ds, rfl, h2, h3⟩ := h
 have hlt : ∀ E ∈ Ds, E < W1.heap.size := fun E hE => (Array.getElem?_eq_some_iff.1 (h3 E hE).2).1
 refine ⟨D :: Ds, rfl, List.nodup_cons.2 ⟨fun hm => ?_, h2⟩, fun E hE => ?_⟩
 ·have := hlt D hm; omega
 ·rcases List.mem_cons.1 hE with rfl | hE
  ·exact ⟨hB, hD⟩
  ·refine ⟨(h3 E hE).1, ?_⟩
   rcases hk E (hlt E hE) with e | e
   ·exact e.trans (h3 E hE).2
   ·exact absurd (h3 E hE).2 e
end Go.Proofs.Ytihhlaagndingaa

namespace Go.Proofs.Ytihhlaagndingaa
open Go Go.RowKit Go.Shelf

attribute [local go_sem] Oper.semAt_some

def SvI (C N p : Nat) (S : World) (pre : List (MulP p N)) (W : World) : Prop :=
 S.heap.size ≤ W.heap.size ∧ (∀ k, k < S.heap.size → k ≠ C → W.heap[k]? = S.heap[k]?) ∧ Bo W C N (fun m => mkB p m || pre.any (fun x => x.1 == m)) ∧ Below C S W
theorem SvI.own {C N p : Nat} {S : World} (hC : C < S.heap.size) : OwnFrom S.heap.size (SvI C N p S) :=
 fun s A B row hs hg hr => ⟨Nat.le_trans hs.1 hg.size, fun k hk hkC => (hg.block k (by have := hs.1; omega) (fun e => by have := (hr k e.symm).1; omega)).trans (hs.2.1 k hk hkC), fun m hm => by
  have hc : B.heap[C]? = A.heap[C]? := hg.block C (by have := hs.1; omega) (fun e => by have := (hr C e.symm).1; omega)
  rw [cell_same hc, frozen_same hc]
  exact hs.2.2.1 m hm, hs.2.2.2.grown hg (by have := hs.1; omega) (fun k e => by have := (hr k e).1; omega)⟩
theorem SvI.step {C N p : Nat} {S W : World} {pre : List (MulP p N)} {x : MulP p N} {y : Nat} (h : SvI C N p S pre W) (hy : y = x.1) (hyN : y ≤ N) : SvI C N p S (pre ++ [x]) (W.setCell ⟨C, y, none⟩ (.bool true)) := by
 obtain ⟨h1, h2, h3, h4⟩ := h
 refine ⟨Nat.le_trans h1 (KeepsOthers.setCell _ _ _).size, fun k hk hkC => (Below.heap_setCell _ _ _ k (fun e => hkC e)).trans (h2 k hk hkC), fun m hm => ?_, h4.setCell (p := ⟨C, y, none⟩) (Nat.le_refl _) _⟩
 rw [World.frozen?_setCell]
 refine ⟨?_, (h3 m hm).2⟩
 show _ = some (Value.bool (mkB p m || (pre ++ [x]).any (fun x => x.1 == m)))
 have h3m : W.cell? ⟨C, m, none⟩ = some (.bool (mkB p m || pre.any (fun x => x.1 == m))) := (h3 m hm).1
 rw [List.any_append, List.any_cons, List.any_nil, Bool.or_false, ← hy]
 by_cases e : m = y
 ·subst e
  rw [World.cell?_setCell_same' _ _ _ (by rw [h3m]; rfl)]
  simp
 ·rw [World.cell?_setCell_other _ _ _ _ (by intro e2; injection e2 with e3 e4; omega), h3m]
  have : (y == m) = false := by simp; omega
  rw [this, Bool.or_false]
end Go.Proofs.Ytihhlaagndingaa

namespace Go.Proofs.Ytihhlaagndingaa
open Go Go.RowKit

end Go.Proofs.Ytihhlaagndingaa

namespace Go.Proofs.Ytihhlaagndingaa
open Go Go.RowKit

def Got (w : World) (v : Value) (z r : Int) : Prop := ∃ n ao k c, v = .agg #[.bool n, .slice ao k c, .int .i64 r] ∧ Num w (.agg #[.bool n, .slice ao k c]) z
theorem Got.parts {w : World} {v : Value} {z r : Int} (h : Got w v z r) : ∃ n ao k c, v = .agg #[.bool n, .slice ao k c, .int .i64 r] ∧ Num w (.agg #[.bool n, .slice ao k c]) z := h
def zeroGot : List Value := [.bool false, .slice none 0 0, .int .i64 0]
theorem Got.zero (w : World) : Got w (.agg zeroGot.toArray) 0 0 := ⟨_, _, _, _, rfl, Num.zero w⟩
section
variable {os : List Oper} {Q : Exit → Act → World → Prop} {a : Act} {p : Pq} {B B0 : Nat} {w0 : World}
variable {i s : Nat} {d : Option Tmp} {ty : TypeId} {ps : String} {af : Array Edge} {gd : Option (Nat × Bool)}
end
end Go.Proofs.Ytihhlaagndingaa

namespace Go.Proofs.Ytihhlaagndingaa
open Go Go.RowKit

section
variable {os : List Oper} {Q : Exit → Act → World → Prop} {a : Act} {p : Pq} {B B0 : Nat} {w0 : World}
variable {i s : Nat} {d : Option Tmp} {ty : TypeId} {ps : String} {af : Array Edge} {gd : Option (Nat × Bool)}
end
end Go.Proofs.Ytihhlaagndingaa

namespace Go.Proofs.Ytihhlaagndingaa
open Go Go.RowKit

end Go.Proofs.Ytihhlaagndingaa

namespace Go.Proofs.Ytihhlaagndingaa
open Go Go.RowKit

def Li (W : World) (B : Nat) (v : Value) (xs : List Int) : Prop := W.ownsRow B 2 1 v xs.length (xs.map (Value.int .i64))
theorem Li.shape {W : World} {B : Nat} {v : Value} {xs : List Int} (h : Li W B v xs) : ∃ ao cap, v = .slice ao xs.length cap := by
 rcases h.2 with ⟨rfl, h0⟩ | ⟨g, cap, cur, rfl, _⟩
 ·exact ⟨none, 0, by rw [h0]⟩
 ·exact ⟨_, _, rfl⟩
theorem Li.nil (w : World) (B : Nat) : Li w B (.slice none 0 0) [] := World.ownsRow_nil w B _ _
theorem Li.one (w : World) {B : Nat} (hB : B ≤ w.heap.size) (x : Int) : Li (w.alloc (.cells #[.int .i64 x] 2)) B (.slice (some ⟨w.heap.size, 0, none⟩) 1 1) [x] :=
 ⟨rfl, .inr ⟨w.heap.size, 1, #[.int .i64 x], rfl, hB, heap_alloc_new _ _, Nat.le_refl _, by decide, rfl, rfl⟩⟩
theorem Li.mono {w w' : World} {B : Nat} {v : Value} {xs : List Int} (h : Li w B v xs) (hb : Below w.heap.size w w') : Li w' B v xs := by
 refine ⟨h.1, ?_⟩
 rcases h.2 with h2 | ⟨g, cap, cur, h1, h2, h3, h4⟩
 ·exact .inl h2
 ·exact .inr ⟨g, cap, cur, h1, h2, by rw [hb.block g (Array.getElem?_eq_some_iff.1 h3).1]; exact h3, h4⟩
theorem Li.cell {w : World} {B : Nat} {ao : Option Addr} {n c : Nat} {xs : List Int} (h : Li w B (.slice ao n c) xs) {i : Nat} (hi : i < xs.length) : ∃ g, ao = some ⟨g, 0, none⟩ ∧ w.cell? ⟨g, i, none⟩ = some (.int .i64 (xs.getD i 0)) := by
 rcases h.2 with ⟨_, h0⟩ | ⟨g, cap, cur, e, _⟩
 ·omega
 ·injection e with e1 e2 e3
  subst e1
  have := World.ownsRow.cells h (g := g) rfl i (.int .i64 (xs.getD i 0)) (by simp [hi])
  rw [add_plain'] at this
  exact ⟨g, rfl, this⟩
theorem Li.step {B : Nat} {w wr w1 : World} {v v' : Value} {xs : List Int} {d : Int} {o : Obj} (h : Li wr B v xs) (hB : B ≤ wr.heap.size) (hnx : Below B w wr)
  (hown' : w1.ownsRow B 2 1 v' (xs.length + 1) (xs.map (Value.int .i64) ++ [.int .i64 d])) (hgrow : (wr.alloc o).grownBy w1 v.ownBlock) :
  Li w1 B v' (xs ++ [d]) ∧ Below B w w1 := by
 refine ⟨?_, ?_⟩
 ·unfold Li; simpa using hown'
 ·exact (hnx.alloc hB o).grown hgrow (by simp; omega) (fun j hj => (World.ownsRow.lt h j hj).1)

end Go.Proofs.Ytihhlaagndingaa

namespace Go.Proofs.Ytihhlaagndingaa
open Go Go.RowKit

theorem tmod_pos {x M : Int} (hx : 0 ≤ x) : x.tmod M = x % M := Int.tmod_eq_emod_of_nonneg hx
end Go.Proofs.Ytihhlaagndingaa

namespace Go.Proofs.Ytihhlaagndingaa
open Go Go.RowKit

end Go.Proofs.Ytihhlaagndingaa

namespace Go.Proofs.Ytihhlaagndingaa
open Go Go.RowKit

def GivesAt (w : World) (ax : Option Addr) (z : Int) (e : Ending) (w' : World) : Prop :=
 ∃ (neg : Bool) (ao : Option Addr) (n c : Nat) (xs : List Int), e = .returned (.agg #[.bool neg, .slice ao n c]) ∧ (ao = none ∨ ao = ax) ∧ Sl w' ao n c xs ∧ Canon xs ∧ (neg = true → n ≠ 0) ∧ z = sgn neg (val xs) ∧ Below w.heap.size w w'

end Go.Proofs.Ytihhlaagndingaa

namespace Go.Proofs.Ytihhlaagndingaa
open Go Go.RowKit

def NumAt (w : World) (g i : Nat) (z : Int) : Prop := ∃ n ao k c, w.cell? ⟨g, i * 2, none⟩ = some (.bool n) ∧ w.cell? ⟨g, i * 2 + 1, none⟩ = some (.slice ao k c) ∧ Num w (.agg #[.bool n, .slice ao k c]) z
def Nums (w : World) (v : Value) (zs : List Int) : Prop := ∃ ao cap, v = .slice ao zs.length cap ∧ (zs = [] ∨ ∃ g, ao = some ⟨g, 0, none⟩ ∧ g < w.heap.size ∧ ∀ i z, zs[i]? = some z → NumAt w g i z)
theorem NumAt.mono {w w' : World} {g i : Nat} {z : Int} (h : NumAt w g i z) (hb : Below w.heap.size w w') : NumAt w' g i z := by
 obtain ⟨n, ao, k, c, h1, h2, h3⟩ := h
 have hl := World.block_lt_of_cell? w _ h1
 exact ⟨n, ao, k, c, (hb.cell (p := ⟨g, i * 2, none⟩) hl).trans h1, (hb.cell (p := ⟨g, i * 2 + 1, none⟩) hl).trans h2, h3.mono hb⟩
theorem Nums.mono {w w' : World} {v : Value} {zs : List Int} (h : Nums w v zs) (hb : Below w.heap.size w w') : Nums w' v zs := by
 obtain ⟨ao, cap, e, h⟩ := h
 refine ⟨ao, cap, e, ?_⟩
 rcases h with h | ⟨g, h1, h2, h3⟩
 ·exact .inl h
 ·exact .inr ⟨g, h1, Nat.lt_of_lt_of_le h2 hb.size, fun i z hi => (h3 i z hi).mono hb⟩
theorem Nums.at {w : World} {ao : Option Addr} {n c : Nat} {zs : List Int} (h : Nums w (.slice ao n c) zs) {i : Nat} (hi : i < zs.length) :
  ∃ g p r k d, ao = some ⟨g, 0, none⟩ ∧ w.cell? ⟨g, i * 2, none⟩ = some (.bool p) ∧ w.cell? ⟨g, i * 2 + 1, none⟩ = some (.slice r k d) ∧ Num w (.agg #[.bool p, .slice r k d]) (zs.getD i 0) := by
 obtain ⟨ao', cap, e, h⟩ := h
 injection e with e1 e2 e3
 subst e1
 rcases h with h | ⟨g, h1, h2, h3⟩
 ·subst h; simp at hi
 ·obtain ⟨p, r, k, d, g1, g2, g3⟩ := h3 i (zs.getD i 0) (by simp [hi])
  exact ⟨g, p, r, k, d, h1, g1, g2, g3⟩

def NumCell (us : List Value) (w : World) (own : Option Nat) (i : Nat) (z : Int) : Prop :=
 ∃ n ao k c, us[i * 2]? = some (.bool n) ∧ us[i * 2 + 1]? = some (.slice ao k c) ∧ (∀ a, ao = some a → k ≠ 0 → some a.block ≠ own) ∧ Num w (.agg #[.bool n, .slice ao k c]) z
def Ln (W : World) (B : Nat) (v : Value) (zs : List Int) : Prop := ∃ us, W.ownsRow B 29 2 v zs.length us ∧ ∀ i z, zs[i]? = some z → NumCell us W v.ownBlock i z
theorem Ln.shape {W : World} {B : Nat} {v : Value} {zs : List Int} (h : Ln W B v zs) : ∃ ao cap, v = .slice ao zs.length cap := by
 obtain ⟨us, h, _⟩ := h
 rcases h.2 with ⟨rfl, h0⟩ | ⟨g, cap, cur, rfl, _⟩
 ·exact ⟨none, 0, by rw [h0]⟩
 ·exact ⟨_, _, rfl⟩
theorem Ln.nil (w : World) (B : Nat) : Ln w B (.slice none 0 0) [] := ⟨[], World.ownsRow_nil w B _ _, fun i z h => by simp at h⟩
theorem Ln.made (w : World) {B cap : Nat} (cur : Array Value) (hb : B ≤ w.heap.size) (hm : cap ≤ maxLen) (hs : cur.size = cap * 2) : Ln (w.alloc (.cells cur 29)) B (.slice (some ⟨w.heap.size, 0, none⟩) 0 cap) [] :=
 ⟨[], World.ownsRow_made w cur cap hb hm hs, fun i z h => by simp at h⟩
theorem Ln.mono {w w' : World} {B : Nat} {v : Value} {zs : List Int} (h : Ln w B v zs) (hb : Below w.heap.size w w') : Ln w' B v zs := by
 obtain ⟨us, h, hE⟩ := h
 refine ⟨us, ⟨h.1, ?_⟩, fun i z hi => ?_⟩
 ·rcases h.2 with h2 | ⟨g, cap, cur, h1, h2, h3, h4⟩
  ·exact .inl h2
  ·exact .inr ⟨g, cap, cur, h1, h2, by rw [hb.block g (Array.getElem?_eq_some_iff.1 h3).1]; exact h3, h4⟩
 ·obtain ⟨n, ao, k, c, g1, g2, g3, g4⟩ := hE i z hi
  exact ⟨n, ao, k, c, g1, g2, g3, g4.mono hb⟩
theorem Num.grown {w w' : World} {n : Bool} {ao : Option Addr} {k c : Nat} {z : Int} {row : Option Nat} (h : Num w (.agg #[.bool n, .slice ao k c]) z) (hg : w.grownBy w' row) (hne : ∀ a, ao = some a → k ≠ 0 → some a.block ≠ row) : Num w' (.agg #[.bool n, .slice ao k c]) z := by
 obtain ⟨neg, ao', k', c', xs, hv, hs, hn, hz⟩ := h
 injection hv with hv
 have hv2 := congrArg Array.toList hv
 simp at hv2
 obtain ⟨rfl, rfl, rfl, rfl⟩ := hv2
 refine ⟨n, ao, k, c, xs, rfl, ⟨hs.len, hs.cap, hs.cells.1, ?_⟩, hn, hz⟩
 rcases hs.cells.2 with h0 | ⟨b, off, rfl, hlt, hc⟩
 ·exact .inl h0
 ·rcases Nat.eq_zero_or_pos k with h0 | h0
  ·exact .inl (List.eq_nil_of_length_eq_zero (hs.len.trans h0))
  ·refine .inr ⟨b, off, rfl, Nat.lt_of_lt_of_le hlt hg.size, fun j hj => hg.cell (hc j hj) (show some b ≠ row from hne ⟨b, off, none⟩ rfl (by omega))⟩
theorem Num.blk {w : World} {n : Bool} {a : Addr} {k c : Nat} {z : Int} (h : Num w (.agg #[.bool n, .slice (some a) k c]) z) (hk : k ≠ 0) : a.block < w.heap.size := by
 obtain ⟨neg, ao', k', c', xs, hv, hs, hn, hz⟩ := h
 injection hv with hv
 have hv2 := congrArg Array.toList hv
 simp at hv2
 obtain ⟨rfl, rfl, rfl, rfl⟩ := hv2
 rcases hs.cells.2 with h0 | ⟨b, off, e, hlt, hc⟩
 ·have := hs.len; rw [h0] at this; simp at this; omega
 ·injection e with e; rw [e]; exact hlt
theorem Ln.step {B : Nat} {w wr w1 w2 : World} {v : Value} {zs : List Int} {us : List Value} {z : Int} {o : Obj} {g cap H : Nat} {ng : Bool} {ao : Option Addr} {n c : Nat}
  (hO : wr.ownsRow B 29 2 v zs.length us) (hE : ∀ i z, zs[i]? = some z → NumCell us wr v.ownBlock i z) (hB : B ≤ wr.heap.size) (hnx : Below B w wr) (hb : Below wr.heap.size wr w1)
  (hnew : ∀ a, ao = some a → wr.heap.size ≤ a.block) (hN : Num w1 (.agg #[.bool ng, .slice ao n c]) z)
  (hown' : w2.ownsRow B 29 2 (.slice (some ⟨g, 0, none⟩) (zs.length + 1) cap) (zs.length + 1) (us ++ [.bool ng, .slice ao n c])) (hgrow : (w1.alloc o).grownBy w2 v.ownBlock) (hat : v.ownBlock = some g ∨ g = H) (hH : (w1.alloc o).heap.size = H) :
  Ln w2 B (.slice (some ⟨g, 0, none⟩) (zs.length + 1) cap) (zs ++ [z]) ∧ Below B w w2 := by
 have hsz := hb.size
 have hH2 : w1.heap.size + 1 = H := by rw [← hH]; simp
 have hlt := hO.lt
 have hul := hO.1
 refine ⟨⟨us ++ [.bool ng, .slice ao n c], by simpa using hown', fun i y hi => ?_⟩, ?_⟩
 ·have hne : ∀ {a : Addr} {k : Nat} {m : Bool} {d : Nat} {x : Int}, Num w1 (.agg #[.bool m, .slice (some a) k d]) x → k ≠ 0 → some a.block ≠ v.ownBlock → a.block ≠ g := by
   intro a k m d x hx hk hr e
   have h1 := hx.blk hk
   rcases hat with h | h
   ·rw [h, e] at hr; exact hr rfl
   ·omega
  by_cases hil : i < zs.length
  ·rw [List.getElem?_append_left hil] at hi
   obtain ⟨p, r, k, d, g1, g2, g3, g4⟩ := hE i y hi
   refine ⟨p, r, k, d, ?_, ?_, fun a ha hk => ?_, ?_⟩
   ·rw [List.getElem?_append_left (by omega)]; exact g1
   ·rw [List.getElem?_append_left (by omega)]; exact g2
   ·subst ha
    intro e
    exact hne (g4.mono hb) hk (g3 _ rfl hk) (by simpa [Value.ownBlock] using e)
   ·exact ((g4.mono hb).mono (alloc_below w1 o)).grown hgrow g3
  ·have hi2 : i = zs.length := by
    rcases Nat.lt_or_ge i (zs ++ [z]).length with h | h
    ·simp at h; omega
    ·rw [List.getElem?_eq_none h] at hi; cases hi
   subst hi2
   rw [List.getElem?_append_right (Nat.le_refl _), Nat.sub_self] at hi
   simp only [List.getElem?_cons_zero, Option.some.injEq] at hi
   subst hi
   have hfar : ∀ a, ao = some a → some a.block ≠ v.ownBlock := fun a ha e => by
    have h1 := hnew a ha
    have h2 := (hlt a.block e.symm).2
    omega
   refine ⟨ng, ao, n, c, ?_, ?_, fun a ha hk => ?_, ?_⟩
   ·rw [List.getElem?_append_right (by omega), show zs.length * 2 - us.length = 0 by omega]; rfl
   ·rw [List.getElem?_append_right (by omega), show zs.length * 2 + 1 - us.length = 1 by omega]; rfl
   ·subst ha
    intro e
    exact hne hN hk (hfar _ rfl) (by simpa [Value.ownBlock] using e)
   ·exact (hN.mono (alloc_below w1 o)).grown hgrow fun a ha _ => hfar a ha
 ·exact ((hnx.trans (hb.mono hB)).alloc (by omega) o).grown hgrow (by simp; omega) (fun j hj => (hO.lt j hj).1)
end Go.Proofs.Ytihhlaagndingaa

namespace Go.Proofs.Ytihhlaagndingaa
open Go Go.RowKit

section
variable {os : List Oper} {Q : Exit → Act → World → Prop} {a : Act} {p : Pq} {B B0 : Nat} {w0 : World}
variable {i s : Nat} {d : Option Tmp} {ty : TypeId} {ps : String} {af : Array Edge} {gd : Option (Nat × Bool)}
end
theorem owns_below {w w' : World} {base : Nat} {e : TypeId} {size : Nat} {v : Value} {n : Nat} {xs : List Value} (h : w.ownsRow base e size v n xs) (hb : Below w.heap.size w w') : w'.ownsRow base e size v n xs := by
 refine ⟨h.1, ?_⟩
 rcases h.2 with h2 | ⟨g, cap, cur, h1, h2, h3, h4⟩
 ·exact .inl h2
 ·exact .inr ⟨g, cap, cur, h1, h2, by rw [hb.block g (Array.getElem?_eq_some_iff.1 h3).1]; exact h3, h4⟩
end Go.Proofs.Ytihhlaagndingaa

namespace Go.Proofs.Ytihhlaagndingaa
open Go Go.RowKit

section
variable {n1 n2 n3 : Bool} {a1 a2 a3 : Option Addr} {k1 c1 k2 c2 k3 c3 : Nat} {xs1 xs2 xs3 : List Int}
end

section
variable {os : List Oper} {Q : Exit → Act → World → Prop} {a : Act} {p : Pq} {B B0 : Nat} {w0 : World}
variable {i s : Nat} {d : Option Tmp} {ty : TypeId} {ps : String} {af : Array Edge} {gd : Option (Nat × Bool)}
end
end Go.Proofs.Ytihhlaagndingaa

namespace Go.Proofs.Ytihhlaagndingaa
open Go Go.RowKit

section
variable {os : List Oper} {Q : Exit → Act → World → Prop} {a : Act} {p : Pq} {B B0 : Nat} {w0 : World}
variable {i s : Nat} {d : Option Tmp} {ty : TypeId} {ps : String} {af : Array Edge} {gd : Option (Nat × Bool)}
end
end Go.Proofs.Ytihhlaagndingaa

namespace Go.Proofs.Ytihhlaagndingaa
open Go Go.RowKit

def Fq.nraw (n : Bool) (a : Option Addr) (k c : Nat) (xs : List Int) (z : Int) : Fq := ⟨fun v w => v = .agg #[.bool n, .slice a k c] ∧ Sl w a k c xs ∧ Num w v z, fun h hb => ⟨h.1, h.2.1.mono hb, h.2.2.mono hb⟩, fun h ha ht hl => ⟨h.1, h.2.1.putAt ha ht hl, h.2.2.putAt ha ht hl⟩⟩
theorem ld_nrawS {n : Bool} {a : Option Addr} {k c : Nat} {xs : List Int} {z : Int} {us : List Value} {w : World} (hl : us.length = 2) (h : (Fq.nraw n a k c xs z).P (.agg us.toArray) w) : us.getD 1 undef = .slice a k c := by
 match us, hl with
 | [p, q], _ =>
  obtain ⟨e, _⟩ := h
  injection e with e
  have e2 := congrArg Array.toList e
  simp at e2
  simp [e2]
section
variable {os : List Oper} {Q : Exit → Act → World → Prop} {a : Act} {p : Pq} {B B0 : Nat} {w0 : World}
variable {i s : Nat} {d : Option Tmp} {ty : TypeId} {ps : String} {af : Array Edge} {gd : Option (Nat × Bool)}
theorem q_loadMagP {o : Ob} {off : Nat} {x : Operand} {v : Value} (hp : p.Ok B B0) (hF : p.Free i) (hg : GdQ os a p B B0 w0 af gd) (ho : o ∈ p.old) (hk : o.F1 = o.F0 ∨ leadsB os 9 o.k i = true) (hoff : off + 1 ≤ o.m)
  (hx : SrcQ os a p B B0 w0 af x fun u _ => u = .pointer (some ⟨o.b, off, none⟩)) (hC : ∀ (us : List Value) (w : World), us.length = o.m → o.F0.P (.agg us.toArray) w → us.getD off undef = v ∧ (p.c i).P v w) :
  StepQ os Q a p B B0 w0 i { dst := d, op := .load 27 x, type := ty, pos := ps, after := af, guard := gd } := by
 refine stq_val hp hF hg fun L vs w hG hL hc hd => ?_
 obtain ⟨us, hl, h0, hat, ht, hP⟩ := box_now ho hk hG hL hc
 have e := hx L vs w hG hd
 have c0 := (hat off (by omega)).1
 obtain ⟨e2, hP2⟩ := hC us w hl hP
 refine ⟨_, ?_, hP2⟩
 rw [e2] at c0
 generalize (lay os.toArray L vs os.toArray.size a).eval = ρ at e
 simp [execOp, go_sem, e, c0]
theorem q_loadWord {o : Ob} {bx : Nat} {ad : Addr} {x : Operand} {x0 : Int} (hp : p.Ok B B0) (hF : p.Free i) (hg : GdQ os a p B B0 w0 af gd) (ho : o ∈ p.old) (hk : o.F1 = o.F0 ∨ leadsB os 9 o.k i = true)
  (hx : SrcQ os a p B B0 w0 af x fun u _ => u = .pointer (some ad)) (hC : ∀ (us : List Value) (w : World), us.length = o.m → o.F0.P (.agg us.toArray) w → w.cell? ad = some (.int .u32 x0)) (hI : ∀ w, (p.c i).P (.int .u32 x0) w) (_hb : o.b = bx := by rfl) :
  StepQ os Q a p B B0 w0 i { dst := d, op := .load 82 x, type := ty, pos := ps, after := af, guard := gd } := by
 refine stq_val hp hF hg fun L vs w hG hL hc hd => ?_
 obtain ⟨us, hl, h0, hat, ht, hP⟩ := box_now ho hk hG hL hc
 have e := hx L vs w hG hd
 have c0 := hC us w hl hP
 refine ⟨_, ?_, hI w⟩
 generalize (lay os.toArray L vs os.toArray.size a).eval = ρ at e
 simp [execOp, go_sem, e, c0]
end
theorem nraw_addr {w : World} {n : Bool} {a : Option Addr} {k c : Nat} {xs : List Int} {z : Int} {v : Value} (h : (Fq.nraw n a k c xs z).P v w) (hk : 0 < k) : ∃ ab off, a = some ⟨ab, off, none⟩ := by
 obtain ⟨b, off, e, _⟩ := h.2.1.cells.at (k := 0) (by rw [h.2.1.len]; exact hk)
 exact ⟨b, off, e⟩
end Go.Proofs.Ytihhlaagndingaa

namespace Go.Proofs.Ytihhlaagndingaa
open Go Go.RowKit

end Go.Proofs.Ytihhlaagndingaa

namespace Go.Proofs.Ytihhlaagndingaa
open Go Go.RowKit

theorem Num.opens {w : World} {v : Value} {z : Int} (h : Num w v z) : ∃ n a k c xs, v = .agg #[.bool n, .slice a k c] ∧ (z = sgn n (val xs) ∧ Canon xs ∧ xs.length = k ∧ (n = true → k ≠ 0) ∧ Digs xs) ∧ (Fq.nraw n a k c xs z).P v w := by
 obtain ⟨neg, ao, k, c, xs, hv, hs, hn, hz, hc, hnn⟩ := id h
 exact ⟨neg, ao, k, c, xs, hv, ⟨hz, hc, hs.len, hnn, hs.digs⟩, hv, hs, h⟩
theorem nat_word {n : Bool} {ab : Nat} {off k c : Nat} {xs : List Int} {z x0 : Int} {q : Nat} (hk : q < k) (hx : xs.getD q 0 = x0) {v : Value} {w : World} (h : (Fq.nraw n (some ⟨ab, off, none⟩) k c xs z).P v w) : w.cell? ⟨ab, off + q, none⟩ = some (.int .u32 x0) := by
 obtain ⟨x, h1, _, _, h4⟩ := h.2.1.cells.at' (k := q) (by rw [h.2.1.len]; exact hk)
 rw [h1, ← hx, h4.out]
theorem word_bit {n : Bool} {xs : List Int} {z : Int} {k i : Nat} (h : z = sgn n (val xs) ∧ Canon xs ∧ xs.length = k ∧ (n = true → k ≠ 0) ∧ Digs xs) (hi : i < nbits z) : i / 32 < k ∧ ∃ x0 y : Int, xs.getD (i / 32) 0 = x0 ∧ x0 / 2 ^ (i % 32) = y ∧ bits .and .u32 y 1 = ((z.natAbs / 2 ^ i % 2 : Nat) : Int) := by
 obtain ⟨hz, hc, hl, hn, hd⟩ := h
 have h1 : ab z = val xs := by rw [hz, ab_sgn, ab_of (val_nonneg hd)]
 have h2 : ab z < pw k := by rw [h1, ← hl]; exact val_lt hd
 have h3 : i / 32 < k := by have := nbits_le h2; omega
 refine ⟨h3, _, _, rfl, rfl, ?_⟩
 have hb := bit_of_val hd (k := i / 32) (r := i % 32) (by omega) (by omega)
 rw [show 32 * (i / 32) + i % 32 = i by omega] at hb
 have hx := hd.getD (i / 32)
 have e3 : 0 ≤ xs.getD (i / 32) 0 / 2 ^ (i % 32) ∧ xs.getD (i / 32) 0 / 2 ^ (i % 32) < 4294967296 := by
  have h := Int.ediv_nonneg hx.1 (show (0 : Int) ≤ 2 ^ (i % 32) by have := pow_two_pos (i % 32); omega)
  have h2 := Int.ediv_le_self (a := xs.getD (i / 32) 0) (2 ^ (i % 32)) hx.1
  have := hx.2
  omega
 rw [and_one _ e3.1 e3.2, ← hb, ← h1]
 unfold ab
 rw [Int.natCast_emod, Int.natCast_ediv, Int.natCast_pow]
 rfl
end Go.Proofs.Ytihhlaagndingaa

namespace Go.Proofs.Ytihhlaagndingaa
open Go Go.RowKit

theorem lay_defers {ops : Array Oper} {L : Nat → Bool} {vs : Nat → Value} : ∀ (k : Nat) (a : Act), (lay ops L vs k a).defers = a.defers
 | 0, _ => rfl
 | k + 1, a => by
  unfold lay
  split
  ·have : ((lay ops L vs k a).put (dstOf ops k) (vs k)).defers = (lay ops L vs k a).defers := by
    unfold Act.put
    split <;> rfl
   rw [this, lay_defers k a]
  ·exact lay_defers k a
section
variable {os : List Oper} {Q : Exit → Act → World → Prop} {a : Act} {p : Pq} {B B0 : Nat} {w0 : World}
variable {i s : Nat} {d : Option Tmp} {ty : TypeId} {ps : String} {af : Array Edge}
set_option maxRecDepth 100000 in
theorem stq_panic {f : FuncId} {xs : Array Operand} {ts : Array TypeId} {T : World → List PanicEntry → World → Prop} (hen : ∀ args w, (callFunc f args).run Try.prog w = .ok (.enter f args) w)
  (hr : ∀ L vs w, p.G B B0 w0 L vs w → (∀ e ∈ af, Region.binds .any e = true → L e.on = true) → ∃ args, xs.map (lay os.toArray L vs os.toArray.size a).eval = args ∧ Calls Try.prog f args w fun e w' => ∃ ch, e = .panicked ch ∧ Below w.heap.size w w' ∧ T w ch w')
  (hQ : ∀ L vs w ch w' A, p.G B B0 w0 L vs w → Below w.heap.size w w' → T w ch w' → A.defers = a.defers → A.tmps.size = a.tmps.size → (∀ s, (os.map (·.dst)).contains (some s) = false → A.eval (.tmp s) = a.eval (.tmp s)) → Q (.panic ch) A w') :
  StepQ os Q a p B B0 w0 i { dst := d, op := .call { callee := .value (.func f), args := xs, argTypes := ts }, type := ty, pos := ps, after := af, guard := none } := by
 intro hio L vs w hG hL hd hc
 refine wpOp_step hio fun K' hK => ?_
 obtain ⟨args, hx, hC⟩ := hr L vs w hG hd
 rw [if_pos (wanted_of (o := { dst := d, op := .call { callee := .value (.func f), args := xs, argTypes := ts }, type := ty, pos := ps, after := af, guard := none }) trivial hG hd)]
 have e : (execOp (lay os.toArray L vs os.toArray.size a).eval ({ dst := d, op := .call { callee := .value (.func f), args := xs, argTypes := ts }, type := ty, pos := ps, after := af, guard := none } : Oper)).run Try.prog w = (.ok (.enter f args) w) := by
  have hf : (lay os.toArray L vs os.toArray.size a).eval (.func f) = .func (.func f) #[] #[] := rfl
  generalize (lay os.toArray L vs os.toArray.size a).eval = ρ at hx hf
  simp [execOp, go_sem, hx, hf, hen]
 unfold Oper.wp
 rw [e]
 refine hC.mono ?_
 rintro e' w' ⟨ch, rfl, hb, hT⟩
 exact hQ L vs w ch w' _ hG hb hT (lay_defers _ _) (lay_size _ _) fun s hs => lay_out hs _
theorem q_callP2 {x y : Operand} {F G : Value → World → Prop} {f : FuncId} {ts : Array TypeId} {T : World → List PanicEntry → World → Prop} (_hp : p.Ok B B0) (_hF : p.Free i) (hen : ∀ args w, (callFunc f args).run Try.prog w = .ok (.enter f args) w)
  (hx : SrcQ os a p B B0 w0 af x F) (hy : SrcQ os a p B B0 w0 af y G) (hC : ∀ v v' w, F v w → G v' w → Calls Try.prog f #[v, v'] w fun e w' => ∃ ch, e = .panicked ch ∧ Below w.heap.size w w' ∧ T w ch w')
  (hQ : ∀ L vs w ch w' A, p.G B B0 w0 L vs w → Below w.heap.size w w' → T w ch w' → A.defers = a.defers → A.tmps.size = a.tmps.size → (∀ s, (os.map (·.dst)).contains (some s) = false → A.eval (.tmp s) = a.eval (.tmp s)) → Q (.panic ch) A w') :
  StepQ os Q a p B B0 w0 i { dst := d, op := .call { callee := .value (.func f), args := #[x, y], argTypes := ts }, type := ty, pos := ps, after := af, guard := none } :=
 stq_panic hen (fun L vs w hG hd => ⟨#[_, _], by simp, hC _ _ _ (hx L vs w hG hd) (hy L vs w hG hd)⟩) hQ
theorem q_callP3 {x y z : Operand} {F G F3 : Value → World → Prop} {f : FuncId} {ts : Array TypeId} {T : World → List PanicEntry → World → Prop} (_hp : p.Ok B B0) (_hF : p.Free i) (hen : ∀ args w, (callFunc f args).run Try.prog w = .ok (.enter f args) w)
  (hx : SrcQ os a p B B0 w0 af x F) (hy : SrcQ os a p B B0 w0 af y G) (hz : SrcQ os a p B B0 w0 af z F3) (hC : ∀ v v' u w, F v w → G v' w → F3 u w → Calls Try.prog f #[v, v', u] w fun e w' => ∃ ch, e = .panicked ch ∧ Below w.heap.size w w' ∧ T w ch w')
  (hQ : ∀ L vs w ch w' A, p.G B B0 w0 L vs w → Below w.heap.size w w' → T w ch w' → A.defers = a.defers → A.tmps.size = a.tmps.size → (∀ s, (os.map (·.dst)).contains (some s) = false → A.eval (.tmp s) = a.eval (.tmp s)) → Q (.panic ch) A w') :
  StepQ os Q a p B B0 w0 i { dst := d, op := .call { callee := .value (.func f), args := #[x, y, z], argTypes := ts }, type := ty, pos := ps, after := af, guard := none } :=
 stq_panic hen (fun L vs w hG hd => ⟨#[_, _, _], by simp, hC _ _ _ _ (hx L vs w hG hd) (hy L vs w hG hd) (hz L vs w hG hd)⟩) hQ
end
def PanN (d : Int) (_w : World) (ch : List PanicEntry) (w' : World) : Prop := ∃ v, ch = [{ v := .iface 29 v, recovered := false }] ∧ Num w' v d
noncomputable def stepP (A M : Int) (P : Pt) (R : Pt × Int) (b : Bool) : Pt × Int := if R.2 = 0 then (if (sumP A M R.1 R.1).2 = 0 then (if b then sumP A M (sumP A M R.1 R.1).1 P else sumP A M R.1 R.1) else sumP A M R.1 R.1) else R
noncomputable def mulP (A M : Int) (P : Pt) : Nat → Nat → Pt × Int
 | 0, _ => (⟨0, 0, true⟩, 0)
 | k + 1, m => stepP A M P (mulP A M P k (m / 2)) (decide (m % 2 = 1))
noncomputable def xjP (A M : Int) (P : Pt) (N L j : Nat) : Pt × Int := mulP A M P (L - j) (N / 2 ^ j)
theorem xj_step {A M : Int} {P : Pt} {N L j : Nat} (h : j < L) : xjP A M P N L j = stepP A M P (xjP A M P N L (j + 1)) (decide (N / 2 ^ j % 2 = 1)) := by
 unfold xjP
 rw [show L - j = L - (j + 1) + 1 by omega, mulP, Nat.div_div_eq_div_mul, ← Nat.pow_succ]
theorem xj_bad {A M : Int} {P : Pt} {N L : Nat} : ∀ {j : Nat}, j ≤ L → ¬ (xjP A M P N L j).2 = 0 → xjP A M P N L 0 = xjP A M P N L j
 | 0, _, _ => rfl
 | j + 1, h, hd => by
  have h1 : xjP A M P N L j = xjP A M P N L (j + 1) := by rw [xj_step (by omega), stepP, if_neg hd]
  rw [← h1]
  exact xj_bad (by omega) (by rw [h1]; exact hd)
theorem sumP_ok {A M : Int} {P Q : Pt} (hP : P.Ok M) (hQ : Q.Ok M) : (sumP A M P Q).1.Ok M := by
 have h0 : 0 < M := by have := hP.1; have := hP.2.1; omega
 have hz : (⟨0, 0, true⟩ : Pt).Ok M := ⟨by show (0 : Int) ≤ 0; omega, h0, by show (0 : Int) ≤ 0; omega, h0⟩
 unfold sumP
 split
 ·exact hQ
 ·split
  ·exact hP
  ·unfold finP
   split
   ·exact hz
   ·split
    ·exact ⟨Int.emod_nonneg _ (by omega), Int.emod_lt_of_pos _ h0, Int.emod_nonneg _ (by omega), Int.emod_lt_of_pos _ h0⟩
    ·exact hz
theorem stepP_ok {A M : Int} {P : Pt} {R : Pt × Int} {b : Bool} (hP : P.Ok M) (hR : R.1.Ok M) : (stepP A M P R b).1.Ok M := by
 unfold stepP
 split
 ·split
  ·split
   ·exact sumP_ok (sumP_ok hR hR) hP
   ·exact sumP_ok hR hR
  ·exact sumP_ok hR hR
 ·exact hR
theorem xj_ok {A M : Int} {P : Pt} {N L : Nat} (hP : P.Ok M) (j : Nat) : (xjP A M P N L j).1.Ok M := by
 unfold xjP
 generalize L - j = k
 generalize N / 2 ^ j = m
 have h0 : 0 < M := by have := hP.1; have := hP.2.1; omega
 induction k generalizing m with
 | zero => exact ⟨by show (0 : Int) ≤ 0; omega, h0, by show (0 : Int) ≤ 0; omega, h0⟩
 | succ k ih => exact stepP_ok hP (ih _)
set_option maxRecDepth 100000 in
set_option maxHeartbeats 4000000 in
theorem exMultiple {w : World} {v v' u : Value} {A B M n : Int} {P : Pt} {T : Pt × Int} (h : (Fq.st [.n A, .n B, .n M]).P v w) (h' : Num w v' n) (g : (Fq.pt P).P u w) (hM : ab M < pw 5) (hA : ab A < pw 5) (hn : ab n < pw 20) (hP : P.Ok M) (ht : xjP A M P n.natAbs (nbits n) 0 = T) :
  Calls Try.prog 66 #[v, v', u] w fun e w' => Below w.heap.size w w' ∧ ((T.2 = 0 ∧ ∃ v', e = .returned v' ∧ (Fq.pt T.1).P v' w') ∨ (¬ T.2 = 0 ∧ ∃ v', e = .panicked [{ v := .iface 29 v', recovered := false }] ∧ Num w' v' T.2)) := by
 replace hM := hidd hM
 replace hA := hidd hA
 obtain ⟨m1, d1, j1, cc1, ys, rfl, hop, h'⟩ := h'.opens
 have HA := hidd (show 0 < j1 → ∃ ab off, d1 = some ⟨ab, off, none⟩ from nraw_addr h')
 have HOP := hidd hop
 replace hn := hidd hn
 have HP := hidd hP
 have HT := hidd ht
 clear hop hP ht
 obtain ⟨_, rfl, hf0⟩ := h
 have hF0 := hf0
 obtain ⟨y0_p0, y0_q0, _, rfl, _y0_n0, y0_p1, y0_q1, _, rfl, _y0_n1, y0_p2, y0_q2, _, rfl, _y0_n2, rfl⟩ := hf0
 obtain ⟨_, rfl, hf2⟩ := g
 have hF2 := hf2
 obtain ⟨y2_p0, y2_q0, _, rfl, _y2_n0, y2_p1, y2_q1, _, rfl, _y2_n1, _, rfl, _, rfl⟩ := hf2
 obtain ⟨w1, b1, hw1, hb1, hs1, E⟩ := fr_start w (F := Fq.st [.n A, .n B, .n M]) (us := [y0_p0, y0_q0, y0_p1, y0_q1, y0_p2, y0_q2]) 31 rfl (by simp) (hF0.tame) (show (Fq.st [.n A, .n B, .n M]).P _ w from ⟨_, rfl, hF0⟩)
 obtain ⟨w2, b2, hw2, hb2, hs2, E⟩ := fr_more E hs1 (F := Fq.nraw m1 d1 j1 cc1 ys n) (us := [.bool m1, .slice d1 j1 cc1]) 29 rfl (by simp) (tame_int _ _ _ _) ((Fq.nraw m1 d1 j1 cc1 ys n).mono (show (Fq.nraw m1 d1 j1 cc1 ys n).P _ w from h') E.below)
 obtain ⟨w3, b3, hw3, hb3, hs3, E⟩ := fr_more E hs2 (F := Fq.st [.n P.x, .n P.y, .v (.bool P.i)]) (us := [y2_p0, y2_q0, y2_p1, y2_q1, .bool P.i]) 37 rfl (by simp) (hF2.tame) ((Fq.st [.n P.x, .n P.y, .v (.bool P.i)]).mono (show (Fq.st [.n P.x, .n P.y, .v (.bool P.i)]).P _ w from ⟨_, rfl, hF2⟩) E.below)
 obtain ⟨w4, b4, hw4, hb4, hs4, E⟩ := fr_more E hs3 (F := Fq.st [.n 0, .n 0, .v (.bool false)]) (us := [.bool false, .slice none 0 0, .bool false, .slice none 0 0, .bool false]) 37 rfl (by simp) ((Fits.tame (fits0_api_Point w))) (fits0P_api_Point _)
 go_enter Try.func66, Try.ntmps66
 go_upto_region 1 with (fail)
 rw [← hw1]
 rw [← hw2]
 rw [← hw3]
 rw [← hw4]
 rw [← hb4]
 rw [← hb3]
 rw [← hb2]
 rw [← hb1]
 clear hw1 hw2 hw3 hw4 hb1 hb2 hb3 hb4 hs4 hs1 hs2 hs3
 refine region_fr (C := [Fq.st [.n 0, .n 0, .v (.bool true)], Fq.any, Fq.any]) (ks := [none, none, none, none]) (new := [⟨1, 2, 5, Fq.st [.n 0, .n 0, .v (.bool false)], Fq.st [.n 0, .n 0, .v (.bool true)], none⟩]) E rfl (by kernel_rfl) rfl rfl (fun hp => ⟨?_, ?_, ?_, trivial⟩) ?_
 ·exact q_build_api_Point_2 (u2 := true) hp (free_of rfl) trivial (sq_const (fun _ => rfl)) (fun v w h => h)
 ·exact q_allocSt (us := [.bool false, .slice none 0 0, .bool false, .slice none 0 0, .bool false]) (fs := [.n 0, .n 0, .v (.bool false)]) hp (mq 0 rfl) rfl rfl rfl (Nat.lt_of_sub_eq_succ rfl) rfl fits0_api_Point (fun ρ w => ralloc_api_Point ρ w) rfl (Nat.ne_of_beq_eq_false rfl) (fun _ _ => trivial) (old_ne rfl) (newk_ne rfl)
 ·exact q_storeNewSt (fs := [.n 0, .n 0, .v (.bool false)]) (gs := [.n 0, .n 0, .v (.bool true)]) hp (mq 0 rfl) rfl rfl rfl rfl size_api_Point rfl (own_ptr rfl rfl (by simp) rfl) (sq_in 0 rfl rfl (by simp) rfl (fun v w h => fitv_st h)) (fun _ _ => trivial) (old_ne rfl) (newi_ne rfl)
 intro L vs w5 nb hL hC hn E5
 have e1 : vs 1 = .pointer (some ⟨nb 1, 0, none⟩) := hn _ (mq 0 rfl)
 have E : Fr w [(nb 1, 5, Fq.st [.n 0, .n 0, .v (.bool true)]), (b4, 5, Fq.st [.n 0, .n 0, .v (.bool false)]), (b3, 5, Fq.st [.n P.x, .n P.y, .v (.bool P.i)]), (b2, 2, Fq.nraw m1 d1 j1 cc1 ys n), (b1, 6, Fq.st [.n A, .n B, .n M])] w5 := E5
 rw [lay_all hL]
 simp only [putAll, dstOf, List.length_cons, List.length_nil, Nat.zero_add, Nat.reduceAdd, List.getElem?_toArray, List.getElem?_cons_zero, List.getElem?_cons_succ, Option.bind_some, Act.put, List.setIfInBounds_toArray, List.set_cons_succ, List.set_cons_zero]
 rw [e1]
 generalize nb 1 = b5_1 at E ⊢
 generalize vs 0 = u5_0
 clear e1 hC hn E5 hL vs L nb
 have HNB : Hid (nbits n ≤ 640) := nbits_le hn.out
 have TW : Hid (IntKind.i64.wrap (((nbits n : Nat) : Int) - 1) = ((nbits n : Nat) : Int) - 1) := IntWalk.i64_in _ (by have := HNB.out; omega)
 go_upto_region 2 with (fail)
 refine region_fr (C := [Fq.num n, Fq.is (.int .i64 ((nbits n : Nat) : Int)), Fq.is (.int .i64 (((nbits n : Nat) : Int) - 1)), Fq.is (.int .i64 (((nbits n : Nat) : Int) - 1))]) (ks := [none, none, none, none, none]) (new := []) E rfl (by kernel_rfl) rfl rfl (fun hp => ⟨?_, ?_, ?_, ?_, trivial⟩) ?_
 ·exact q_loadInt (off := 0) hp (free_of rfl) trivial (mq 3 rfl) (.inl rfl) (Nat.le_of_ble_eq_true rfl) (sqo 4) (fun us w hl h => ld_num hl h.2.2)
 ·exact q_call1 (F := (Fq.num n).P) hp (free_of rfl) trivial (enq_Bits) (sqi 0) (fun v w h => exBits h)
 ·exact q_one (F := fun v _ => v = .int .i64 ((nbits n : Nat) : Int)) hp (free_of rfl) trivial (sqi 1) (fun ρ w hc h => ⟨.int .i64 (((nbits n : Nat) : Int) - 1), by simp [execOp, go_sem, h, hc, TW.out], rfl⟩)
 ·exact q_assign hp (free_of rfl) trivial (sqi 2)
 intro L vs w6 nb hL hC hn E6
 have e1 : vs 1 = .int .i64 ((nbits n : Nat) : Int) := hC 1 (by simp)
 have e2 : vs 2 = .int .i64 (((nbits n : Nat) : Int) - 1) := hC 2 (by simp)
 have e3 : vs 3 = .int .i64 (((nbits n : Nat) : Int) - 1) := hC 3 (by simp)
 have E : Fr w [(b5_1, 5, Fq.st [.n 0, .n 0, .v (.bool true)]), (b4, 5, Fq.st [.n 0, .n 0, .v (.bool false)]), (b3, 5, Fq.st [.n P.x, .n P.y, .v (.bool P.i)]), (b2, 2, Fq.nraw m1 d1 j1 cc1 ys n), (b1, 6, Fq.st [.n A, .n B, .n M])] w6 := E6
 rw [lay_all hL]
 simp only [putAll, dstOf, List.length_cons, List.length_nil, Nat.zero_add, Nat.reduceAdd, List.getElem?_toArray, List.getElem?_cons_zero, List.getElem?_cons_succ, Option.bind_some, Act.put, List.setIfInBounds_toArray, List.set_cons_succ, List.set_cons_zero]
 rw [e1, e2, e3]
 generalize vs 0 = u6_0
 clear e1 e2 e3 hC hn E6 hL vs L nb
 clear TW
 have HS := hidd E
 go_upto_region 3 with (fail)
 go_loopw [8] (fun vi W => ∃ (j : Nat) (R : Pt), j ≤ nbits n ∧ vi = .int .i64 ((j : Int) - 1) ∧ xjP A M P n.natAbs (nbits n) j = (R, 0) ∧ Fr w [(b5_1, 5, Fq.st [.n R.x, .n R.y, .v (.bool R.i)]), (b4, 5, Fq.st [.n 0, .n 0, .v (.bool false)]), (b3, 5, Fq.st [.n P.x, .n P.y, .v (.bool P.i)]), (b2, 2, Fq.nraw m1 d1 j1 cc1 ys n), (b1, 6, Fq.st [.n A, .n B, .n M])] W) (fun vi _ => (intOf vi + 1).toNat)
 case atStart => exact ⟨nbits n, ⟨0, 0, true⟩, Nat.le_refl _, rfl, by unfold xjP; rw [Nat.sub_self]; rfl, HS.out⟩
 case round =>
  obtain ⟨j, R, hj, rfl, hR, E⟩ := hrel
  clear HS
  by_cases h0 : j = 0
  ·subst h0
   have HR := hidd hR
   clear hj hR
   go_upto_region 3 with (fail)
   refine region_fr (C := [Fq.is (.int .i64 (((0 : Nat) : Int) - 1)), Fq.is (.bool false)]) (ks := [none, none, none, none, none]) (new := []) E rfl (by kernel_rfl) rfl rfl (fun hp => ⟨?_, ?_, trivial⟩) ?_
   ·exact q_move hp (free_of rfl) trivial (sqo 8)
   ·exact q_one (F := fun v _ => v = .int .i64 (((0 : Nat) : Int) - 1)) hp (free_of rfl) trivial (sqi 0) (fun ρ w hc h => ⟨.bool false, by simp [execOp, go_sem, h, hc], rfl⟩)
   intro L vs w7 nb hL hC hn E7
   have e0 : vs 0 = .int .i64 (((0 : Nat) : Int) - 1) := hC 0 (by simp)
   have e1 : vs 1 = .bool false := hC 1 (by simp)
   have E : Fr w [(b5_1, 5, Fq.st [.n R.x, .n R.y, .v (.bool R.i)]), (b4, 5, Fq.st [.n 0, .n 0, .v (.bool false)]), (b3, 5, Fq.st [.n P.x, .n P.y, .v (.bool P.i)]), (b2, 2, Fq.nraw m1 d1 j1 cc1 ys n), (b1, 6, Fq.st [.n A, .n B, .n M])] w7 := E7
   rw [lay_all hL]
   simp only [putAll, dstOf, List.length_cons, List.length_nil, Nat.zero_add, Nat.reduceAdd, List.getElem?_toArray, List.getElem?_cons_zero, List.getElem?_cons_succ, Option.bind_some, Act.put, List.setIfInBounds_toArray, List.set_cons_succ, List.set_cons_zero]
   rw [e0, e1]
   clear e0 e1 hC hn E7 hL vs L nb
   go_upto_region 8 with (fail)
   refine region_fr (C := [Fq.st [.n R.x, .n R.y, .v (.bool R.i)], Fq.any]) (ks := [none, some (1, Fq.st [.n R.x, .n R.y, .v (.bool R.i)]), none, none, none]) (new := []) E rfl (by kernel_rfl) rfl rfl (fun hp => ⟨?_, ?_, trivial⟩) ?_
   ·exact q_loadSt (off := 0) (l := 5) (fs := [.n R.x, .n R.y, .v (.bool R.i)]) (gs := [.n R.x, .n R.y, .v (.bool R.i)]) hp (free_of rfl) trivial (mq 0 rfl) (.inl rfl) rfl row_api_Point rfl (sqo 7) (fun v w h => h)
   ·exact q_storeOldSt (off := 0) (fs := [.n 0, .n 0, .v (.bool false)]) (gs := [.n R.x, .n R.y, .v (.bool R.i)]) (fs' := [.n R.x, .n R.y, .v (.bool R.i)]) hp (mq 1 rfl) rfl rfl rfl size_api_Point rfl (sqo 6) (sq_in 0 rfl rfl (by simp) rfl (fun v w h => fitv_st h)) (fun _ _ => trivial) (newik_ne rfl)
   intro L vs w8 nb hL hC hn E8
   have E : Fr w [(b5_1, 5, Fq.st [.n R.x, .n R.y, .v (.bool R.i)]), (b4, 5, Fq.st [.n R.x, .n R.y, .v (.bool R.i)]), (b3, 5, Fq.st [.n P.x, .n P.y, .v (.bool P.i)]), (b2, 2, Fq.nraw m1 d1 j1 cc1 ys n), (b1, 6, Fq.st [.n A, .n B, .n M])] w8 := E8
   rw [lay_all hL]
   simp only [putAll, dstOf, List.length_cons, List.length_nil, Nat.zero_add, Nat.reduceAdd, List.getElem?_toArray, List.getElem?_cons_zero, List.getElem?_cons_succ, Option.bind_some, Act.put, List.setIfInBounds_toArray, List.set_cons_succ, List.set_cons_zero]
   generalize vs 0 = u8_0
   clear  hC hn E8 hL vs L nb
   obtain ⟨_, _, hc, hf⟩ := box_st (E.box 1 rfl)
   have hR2 := hf
   obtain ⟨r_p0, r_q0, _, rfl, _r_n0, r_p1, r_q1, _, rfl, _r_n1, _, rfl, _, rfl⟩ := hf
   have c0 := hc 0 (by simp)
   have c1 := hc 1 (by simp)
   have c2 := hc 2 (by simp)
   have c3 := hc 3 (by simp)
   have c4 := hc 4 (by simp)
   simp only [List.getD_cons_zero, List.getD_cons_succ] at c0 c1 c2 c3 c4
   clear hc
   clear hM hA
   have HE := HT.out
   clear HP HT HNB HA HOP hn
   go_wp2
   refine bodyPost_ret (v := .agg #[r_p0, r_q0, r_p1, r_q1, .bool R.i]) ?_ rfl ⟨E.below, .inl ⟨by rw [← HE, HR.out], _, rfl, by rw [← HE, HR.out]; exact ⟨_, rfl, hR2⟩⟩⟩
   simp [results, Try.results66, go_sem, c0, c1, c2, c3, c4]
  ·obtain ⟨i, rfl⟩ : ∃ i, j = i + 1 := ⟨j - 1, by omega⟩
   have ei : (((i + 1 : Nat) : Int) - 1) = (i : Int) := by omega
   rw [ei]
   have HJ := hidd hj
   have HST := hidd (xj_step (A := A) (M := M) (P := P) (N := n.natAbs) (L := nbits n) (j := i) (by omega))
   have HR := hidd hR
   have HRO : Hid (R.Ok M) := by have := xj_ok (A := A) (N := n.natAbs) (L := nbits n) HP.out (i + 1); rw [hR] at this; exact this
   have TL : Hid (0 ≤ (i : Int)) := by show 0 ≤ _; omega
   have hw : wrap64 ((i : Int) - 1) = (i : Int) - 1 := by have := HJ.out; have := HNB.out; simp only [wrap64]; omega
   obtain ⟨S, hS⟩ : ∃ S, S = sumP A M R R := ⟨_, rfl⟩
   obtain ⟨S, e1⟩ := S
   have HSO : Hid (S.Ok M) := by have := sumP_ok (A := A) HRO.out HRO.out; rw [← hS] at this; exact this
   have HS := hidd hS.symm
   obtain ⟨hqk, x0, y, hx0, hy, hband⟩ := word_bit HOP.out (i := i) (by omega)
   obtain ⟨ad, off, rfl⟩ := HA.out (by omega)
   obtain ⟨q, hq⟩ : ∃ q, q = i / 32 := ⟨_, rfl⟩
   obtain ⟨r, hr⟩ : ∃ r, r = i % 32 := ⟨_, rfl⟩
   rw [← hq] at hqk hx0
   rw [← hr] at hy
   have HX0 := hidd hx0
   have HQK := hidd hqk
   have HQI : Hid ((q : Int) < j1) := by show (q : Int) < j1; omega
   have HBA := hidd hband
   have HR32 : Hid (r < 32) := by show r < 32; omega
   have WQ : Hid (Int.tdiv (i : Int) 32 = (q : Int)) := by show _ = _; rw [Int.tdiv_eq_ediv_of_nonneg (by omega)]; omega
   have WQ3 : Hid (IntKind.i64.wrap (q : Int) = q) := IntWalk.i64_in _ (by have := HJ.out; have := HNB.out; omega)
   have WR : Hid (Int.tmod (i : Int) 32 = (r : Int)) := by show _ = _; rw [Int.tmod_eq_emod_of_nonneg (by omega)]; omega
   have WR3 : Hid (IntKind.i64.wrap (r : Int) = r) := IntWalk.i64_in _ (by omega)
   have WS : Hid (x0 / 2 ^ r = y) := hy
   have WM : Hid (min r 32 = r) := by show _ = _; omega
   have WG : Hid ((0 : Int) ≤ r) := by show (0 : Int) ≤ _; omega
   clear ei hR hS h0 hj hq hr hqk hx0 hy hband
   go_upto_region 3 with (fail)
   refine region_fr (C := [Fq.is (.int .i64 (i : Int)), Fq.is (.bool true)]) (ks := [none, none, none, none, none]) (new := []) E rfl (by kernel_rfl) rfl rfl (fun hp => ⟨?_, ?_, trivial⟩) ?_
   ·exact q_move hp (free_of rfl) trivial (sqo 8)
   ·exact q_one (F := fun v _ => v = .int .i64 (i : Int)) hp (free_of rfl) trivial (sqi 0) (fun ρ w hc h => ⟨.bool true, by simp [execOp, go_sem, h, hc, TL.out], rfl⟩)
   intro L vs w9 nb hL hC hn E9
   have e0 : vs 0 = .int .i64 (i : Int) := hC 0 (by simp)
   have e1 : vs 1 = .bool true := hC 1 (by simp)
   have E : Fr w [(b5_1, 5, Fq.st [.n R.x, .n R.y, .v (.bool R.i)]), (b4, 5, Fq.st [.n 0, .n 0, .v (.bool false)]), (b3, 5, Fq.st [.n P.x, .n P.y, .v (.bool P.i)]), (b2, 2, Fq.nraw m1 (some ⟨ad, off, none⟩) j1 cc1 ys n), (b1, 6, Fq.st [.n A, .n B, .n M])] w9 := E9
   rw [lay_all hL]
   simp only [putAll, dstOf, List.length_cons, List.length_nil, Nat.zero_add, Nat.reduceAdd, List.getElem?_toArray, List.getElem?_cons_zero, List.getElem?_cons_succ, Option.bind_some, Act.put, List.setIfInBounds_toArray, List.set_cons_succ, List.set_cons_zero]
   rw [e0, e1]
   clear e0 e1 hC hn E9 hL vs L nb
   clear TL
   by_cases he : ¬ e1 = 0
   ·have HD := hidd he
    have HX : Hid (xjP A M P n.natAbs (nbits n) 0 = (S, e1)) := by
     have h9 : xjP A M P n.natAbs (nbits n) i = (S, e1) := by rw [HST.out, HR.out, stepP, if_pos rfl, HS.out, if_neg he]
     show _ = _
     rw [xj_bad (j := i) (by have := HJ.out; omega) (by rw [h9]; exact he), h9]
    clear he
    go_upto_region 5 with (fail)
    refine region_fr (C := [Fq.st [.n A, .n B, .n M], Fq.st [.n R.x, .n R.y, .v (.bool R.i)], Fq.st [.n R.x, .n R.y, .v (.bool R.i)], Fq.tup2 (Fq.st [.n S.x, .n S.y, .v (.bool S.i)]) (Fq.num e1), Fq.st [.n S.x, .n S.y, .v (.bool S.i)], Fq.num e1, Fq.pre fun _ => False, Fq.any]) (ks := [some (7, Fq.st [.n R.x, .n R.y, .v (.bool R.i)]), none, none, none, none]) (new := []) E rfl (by kernel_rfl) rfl rfl (fun hp => ⟨?_, ?_, ?_, ?_, ?_, ?_, ?_, ?_, trivial⟩) ?_
    ·exact q_loadSt (off := 0) (l := 6) (fs := [.n A, .n B, .n M]) (gs := [.n A, .n B, .n M]) hp (free_of rfl) trivial (mq 4 rfl) (.inl rfl) rfl row_api_Mod rfl (sqo 3) (fun v w h => h)
    ·exact q_loadSt (off := 0) (l := 5) (fs := [.n R.x, .n R.y, .v (.bool R.i)]) (gs := [.n R.x, .n R.y, .v (.bool R.i)]) hp (free_of rfl) trivial (mq 0 rfl) (.inr rfl) rfl row_api_Point rfl (sqo 7) (fun v w h => h)
    ·exact q_loadSt (off := 0) (l := 5) (fs := [.n R.x, .n R.y, .v (.bool R.i)]) (gs := [.n R.x, .n R.y, .v (.bool R.i)]) hp (free_of rfl) trivial (mq 0 rfl) (.inr rfl) rfl row_api_Point rfl (sqo 7) (fun v w h => h)
    ·exact q_call3 (F := (Fq.st [.n A, .n B, .n M]).P) (G := (Fq.st [.n R.x, .n R.y, .v (.bool R.i)]).P) (F3 := (Fq.st [.n R.x, .n R.y, .v (.bool R.i)]).P) hp (free_of rfl) trivial (enq_f_algorist_point_sum) (sqi 0) (sqi 1) (sqi 2) (fun v v' u w h h' g => exSum h h' g hM.out hA.out HRO.out HRO.out HS.out)
    ·exact q_extract2 hp (free_of rfl) trivial (sqi 3) (fun v1 v2 w h1 h2 => ⟨_, rfl, h1⟩)
    ·exact q_extract2 hp (free_of rfl) trivial (sqi 3) (fun v1 v2 w h1 h2 => ⟨_, rfl, h2⟩)
    ·refine q_callP2 (T := PanN e1) (F := (Fq.st [.n S.x, .n S.y, .v (.bool S.i)]).P) (G := (Fq.num e1).P) hp (free_of rfl) (enq_f_algorist_point_existing) (sqi 4) (sqi 5) (fun v v' w h h' => (exExistingP h h' HD.out).mono fun e w' hh => by obtain ⟨v2, he, hb, hn9⟩ := hh; exact ⟨_, he, hb, v2, rfl, hn9⟩) ?_
     intro L9 vs9 w9 ch w' A9 hG9 hb9 hT9 hdf _ _
     obtain ⟨v2, rfl, hn9⟩ := hT9
     have HE := HT.out
     have hbw := hG9.below.trans (hb9.mono (by have := hG9.below.size; omega))
     refine ⟨hdf, hbw, .inr ⟨by rw [← HE, HX.out]; exact HD.out, v2, rfl, by rw [← HE, HX.out]; exact hn9⟩⟩
    ·exact q_storeOldSt (off := 0) (fs := [.n R.x, .n R.y, .v (.bool R.i)]) (gs := [.n R.x, .n R.y, .v (.bool R.i)]) (fs' := [.n R.x, .n R.y, .v (.bool R.i)]) hp (mq 0 rfl) rfl rfl rfl size_api_Point rfl (sqo 7) (sq_in 6 rfl rfl (by simp) rfl (fun v w h => False.elim h)) (fun _ _ => trivial) (newik_ne rfl)
    intro L vs w9 nb hL hC hn E9
    exact False.elim (hC 6 (by simp))
   ·replace he : e1 = 0 := by omega
    subst he
    go_upto_region 5 with (fail)
    refine region_fr (C := [Fq.st [.n A, .n B, .n M], Fq.st [.n R.x, .n R.y, .v (.bool R.i)], Fq.st [.n R.x, .n R.y, .v (.bool R.i)], Fq.tup2 (Fq.st [.n S.x, .n S.y, .v (.bool S.i)]) (Fq.num 0), Fq.st [.n S.x, .n S.y, .v (.bool S.i)], Fq.num 0, Fq.st [.n S.x, .n S.y, .v (.bool S.i)], Fq.any]) (ks := [some (7, Fq.st [.n S.x, .n S.y, .v (.bool S.i)]), none, none, none, none]) (new := []) E rfl (by kernel_rfl) rfl rfl (fun hp => ⟨?_, ?_, ?_, ?_, ?_, ?_, ?_, ?_, trivial⟩) ?_
    ·exact q_loadSt (off := 0) (l := 6) (fs := [.n A, .n B, .n M]) (gs := [.n A, .n B, .n M]) hp (free_of rfl) trivial (mq 4 rfl) (.inl rfl) rfl row_api_Mod rfl (sqo 3) (fun v w h => h)
    ·exact q_loadSt (off := 0) (l := 5) (fs := [.n R.x, .n R.y, .v (.bool R.i)]) (gs := [.n R.x, .n R.y, .v (.bool R.i)]) hp (free_of rfl) trivial (mq 0 rfl) (.inr rfl) rfl row_api_Point rfl (sqo 7) (fun v w h => h)
    ·exact q_loadSt (off := 0) (l := 5) (fs := [.n R.x, .n R.y, .v (.bool R.i)]) (gs := [.n R.x, .n R.y, .v (.bool R.i)]) hp (free_of rfl) trivial (mq 0 rfl) (.inr rfl) rfl row_api_Point rfl (sqo 7) (fun v w h => h)
    ·exact q_call3 (F := (Fq.st [.n A, .n B, .n M]).P) (G := (Fq.st [.n R.x, .n R.y, .v (.bool R.i)]).P) (F3 := (Fq.st [.n R.x, .n R.y, .v (.bool R.i)]).P) hp (free_of rfl) trivial (enq_f_algorist_point_sum) (sqi 0) (sqi 1) (sqi 2) (fun v v' u w h h' g => exSum h h' g hM.out hA.out HRO.out HRO.out HS.out)
    ·exact q_extract2 hp (free_of rfl) trivial (sqi 3) (fun v1 v2 w h1 h2 => ⟨_, rfl, h1⟩)
    ·exact q_extract2 hp (free_of rfl) trivial (sqi 3) (fun v1 v2 w h1 h2 => ⟨_, rfl, h2⟩)
    ·exact q_call2 (F := (Fq.st [.n S.x, .n S.y, .v (.bool S.i)]).P) (G := (Fq.num 0).P) hp (free_of rfl) trivial (enq_f_algorist_point_existing) (sqi 4) (sqi 5) (fun v v' w h h' => exExisting h h' rfl)
    ·exact q_storeOldSt (off := 0) (fs := [.n R.x, .n R.y, .v (.bool R.i)]) (gs := [.n S.x, .n S.y, .v (.bool S.i)]) (fs' := [.n S.x, .n S.y, .v (.bool S.i)]) hp (mq 0 rfl) rfl rfl rfl size_api_Point rfl (sqo 7) (sq_in 6 rfl rfl (by simp) rfl (fun v w h => fitv_st h)) (fun _ _ => trivial) (newik_ne rfl)
    intro L vs w10 nb hL hC hn E10
    have E : Fr w [(b5_1, 5, Fq.st [.n S.x, .n S.y, .v (.bool S.i)]), (b4, 5, Fq.st [.n 0, .n 0, .v (.bool false)]), (b3, 5, Fq.st [.n P.x, .n P.y, .v (.bool P.i)]), (b2, 2, Fq.nraw m1 (some ⟨ad, off, none⟩) j1 cc1 ys n), (b1, 6, Fq.st [.n A, .n B, .n M])] w10 := E10
    rw [lay_all hL]
    simp only [putAll, dstOf, List.length_cons, List.length_nil, Nat.zero_add, Nat.reduceAdd, List.getElem?_toArray, List.getElem?_cons_zero, List.getElem?_cons_succ, Option.bind_some, Act.put, List.setIfInBounds_toArray, List.set_cons_succ, List.set_cons_zero]
    generalize vs 0 = u10_0
    generalize vs 1 = u10_1
    generalize vs 2 = u10_2
    generalize vs 3 = u10_3
    generalize vs 4 = u10_4
    generalize vs 5 = u10_5
    generalize vs 6 = u10_6
    clear  hC hn E10 hL vs L nb
    by_cases hb : n.natAbs / 2 ^ i % 2 = 1
    ·have TB : Hid (bits .and .u32 y 1 = 1) := by show _ = _; rw [HBA.out, hb]; rfl
     obtain ⟨U, hU⟩ : ∃ U, U = sumP A M S P := ⟨_, rfl⟩
     obtain ⟨U, e2⟩ := U
     have HUO : Hid (U.Ok M) := by have := sumP_ok (A := A) HSO.out HP.out; rw [← hU] at this; exact this
     have HU := hidd hU.symm
     have HXI : Hid (xjP A M P n.natAbs (nbits n) i = (U, e2)) := by show _ = _; rw [HST.out, HR.out, stepP, if_pos rfl, HS.out, if_pos rfl, decide_eq_true hb, if_pos rfl, HU.out]
     clear hU hb
     go_upto_region 6 with (fail)
     refine region_fr (C := [Fq.is (.pointer (some ⟨b2, 1, none⟩)), Fq.is (.slice (some ⟨ad, off, none⟩) j1 cc1), Fq.is (.int .i64 (i : Int)), Fq.is (.int .i64 (q : Int)), Fq.is (.pointer (some ⟨ad, off + q, none⟩)), Fq.is (.int .u32 x0), Fq.is (.int .i64 (i : Int)), Fq.is (.int .i64 (r : Int)), Fq.is (.int .u32 y), Fq.is (.int .u32 1), Fq.is (.bool true)]) (ks := [none, none, none, none, none]) (new := []) E rfl (by kernel_rfl) rfl rfl (fun hp => ⟨?_, ?_, ?_, ?_, ?_, ?_, ?_, ?_, ?_, ?_, ?_, trivial⟩) ?_
     ·exact q_addr (b := b2) (off := 0) (off' := 1) hp (free_of rfl) trivial (sqo 4) (fun ρ w h => by simp [execOp, go_sem, h]) (fun _ => rfl)
     ·exact q_loadMagP (off := 1) (v := .slice (some ⟨ad, off, none⟩) j1 cc1) hp (free_of rfl) trivial (mq 3 rfl) (.inl rfl) (Nat.le_of_ble_eq_true rfl) (sqi 0) (fun us w hl h => ⟨ld_nrawS hl h, rfl⟩)
     ·exact q_move hp (free_of rfl) trivial (sqo 8)
     ·exact q_one (F := fun v _ => v = .int .i64 (i : Int)) hp (free_of rfl) trivial (sqi 2) (fun ρ w hc h => ⟨.int .i64 (q : Int), by simp [execOp, go_sem, h, hc, WQ.out, WQ3.out], rfl⟩)
     ·exact q_two (F := fun v _ => v = .slice (some ⟨ad, off, none⟩) j1 cc1) (G := fun v _ => v = .int .i64 (q : Int)) hp (free_of rfl) trivial (sqi 1) (sqi 3) (fun ρ w hc h h' => ⟨.pointer (some ⟨ad, off + q, none⟩), by simp [execOp, go_sem, h, h', hc, HQI.out], rfl⟩)
     ·exact q_loadWord (bx := b2) (x0 := x0) hp (free_of rfl) trivial (mq 3 rfl) (.inl rfl) (sqi 4) (fun us w hl h => nat_word HQK.out HX0.out h) (fun _ => rfl)
     ·exact q_move hp (free_of rfl) trivial (sqo 8)
     ·exact q_one (F := fun v _ => v = .int .i64 (i : Int)) hp (free_of rfl) trivial (sqi 6) (fun ρ w hc h => ⟨.int .i64 (r : Int), by simp [execOp, go_sem, h, hc, WR.out], rfl⟩)
     ·exact q_two (F := fun v _ => v = .int .u32 x0) (G := fun v _ => v = .int .i64 (r : Int)) hp (free_of rfl) trivial (sqi 5) (sqi 7) (fun ρ w hc h h' => ⟨.int .u32 y, by simp [execOp, go_sem, h, h', WG.out, WS.out, WM.out], rfl⟩)
     ·exact q_one (F := fun v _ => v = .int .u32 y) hp (free_of rfl) trivial (sqi 8) (fun ρ w hc h => ⟨.int .u32 1, by simp [execOp, go_sem, h, hc, TB.out], rfl⟩)
     ·exact q_one (F := fun v _ => v = .int .u32 1) hp (free_of rfl) trivial (sqi 9) (fun ρ w hc h => ⟨.bool true, by simp [execOp, go_sem, h, hc], rfl⟩)
     intro L vs w11 nb hL hC hn E11
     have e0 : vs 0 = .pointer (some ⟨b2, 1, none⟩) := hC 0 (by simp)
     have e1 : vs 1 = .slice (some ⟨ad, off, none⟩) j1 cc1 := hC 1 (by simp)
     have e2 : vs 2 = .int .i64 (i : Int) := hC 2 (by simp)
     have e3 : vs 3 = .int .i64 (q : Int) := hC 3 (by simp)
     have e4 : vs 4 = .pointer (some ⟨ad, off + q, none⟩) := hC 4 (by simp)
     have e5 : vs 5 = .int .u32 x0 := hC 5 (by simp)
     have e6 : vs 6 = .int .i64 (i : Int) := hC 6 (by simp)
     have e7 : vs 7 = .int .i64 (r : Int) := hC 7 (by simp)
     have e8 : vs 8 = .int .u32 y := hC 8 (by simp)
     have e9 : vs 9 = .int .u32 1 := hC 9 (by simp)
     have e10 : vs 10 = .bool true := hC 10 (by simp)
     have E : Fr w [(b5_1, 5, Fq.st [.n S.x, .n S.y, .v (.bool S.i)]), (b4, 5, Fq.st [.n 0, .n 0, .v (.bool false)]), (b3, 5, Fq.st [.n P.x, .n P.y, .v (.bool P.i)]), (b2, 2, Fq.nraw m1 (some ⟨ad, off, none⟩) j1 cc1 ys n), (b1, 6, Fq.st [.n A, .n B, .n M])] w11 := E11
     rw [lay_all hL]
     simp only [putAll, dstOf, List.length_cons, List.length_nil, Nat.zero_add, Nat.reduceAdd, List.getElem?_toArray, List.getElem?_cons_zero, List.getElem?_cons_succ, Option.bind_some, Act.put, List.setIfInBounds_toArray, List.set_cons_succ, List.set_cons_zero]
     rw [e0, e1, e2, e3, e4, e5, e6, e7, e8, e9, e10]
     clear e0 e1 e2 e3 e4 e5 e6 e7 e8 e9 e10 hC hn E11 hL vs L nb
     clear TB HX0 HQK HQI HBA HR32 WQ WQ3 WR WR3 WS WM WG
     by_cases he : ¬ e2 = 0
     ·have HD := hidd he
      have HX : Hid (xjP A M P n.natAbs (nbits n) 0 = (U, e2)) := by
       show _ = _
       rw [xj_bad (j := i) (by have := HJ.out; omega) (by rw [HXI.out]; exact he), HXI.out]
      clear he
      go_upto_region 7 with (fail)
      refine region_fr (C := [Fq.st [.n A, .n B, .n M], Fq.st [.n S.x, .n S.y, .v (.bool S.i)], Fq.st [.n P.x, .n P.y, .v (.bool P.i)], Fq.tup2 (Fq.st [.n U.x, .n U.y, .v (.bool U.i)]) (Fq.num e2), Fq.st [.n U.x, .n U.y, .v (.bool U.i)], Fq.num e2, Fq.pre fun _ => False, Fq.any]) (ks := [some (7, Fq.st [.n S.x, .n S.y, .v (.bool S.i)]), none, none, none, none]) (new := []) E rfl (by kernel_rfl) rfl rfl (fun hp => ⟨?_, ?_, ?_, ?_, ?_, ?_, ?_, ?_, trivial⟩) ?_
      ·exact q_loadSt (off := 0) (l := 6) (fs := [.n A, .n B, .n M]) (gs := [.n A, .n B, .n M]) hp (free_of rfl) trivial (mq 4 rfl) (.inl rfl) rfl row_api_Mod rfl (sqo 3) (fun v w h => h)
      ·exact q_loadSt (off := 0) (l := 5) (fs := [.n S.x, .n S.y, .v (.bool S.i)]) (gs := [.n S.x, .n S.y, .v (.bool S.i)]) hp (free_of rfl) trivial (mq 0 rfl) (.inr rfl) rfl row_api_Point rfl (sqo 7) (fun v w h => h)
      ·exact q_loadSt (off := 0) (l := 5) (fs := [.n P.x, .n P.y, .v (.bool P.i)]) (gs := [.n P.x, .n P.y, .v (.bool P.i)]) hp (free_of rfl) trivial (mq 2 rfl) (.inl rfl) rfl row_api_Point rfl (sqo 5) (fun v w h => h)
      ·exact q_call3 (F := (Fq.st [.n A, .n B, .n M]).P) (G := (Fq.st [.n S.x, .n S.y, .v (.bool S.i)]).P) (F3 := (Fq.st [.n P.x, .n P.y, .v (.bool P.i)]).P) hp (free_of rfl) trivial (enq_f_algorist_point_sum) (sqi 0) (sqi 1) (sqi 2) (fun v v' u w h h' g => exSum h h' g hM.out hA.out HSO.out HP.out HU.out)
      ·exact q_extract2 hp (free_of rfl) trivial (sqi 3) (fun v1 v2 w h1 h2 => ⟨_, rfl, h1⟩)
      ·exact q_extract2 hp (free_of rfl) trivial (sqi 3) (fun v1 v2 w h1 h2 => ⟨_, rfl, h2⟩)
      ·refine q_callP2 (T := PanN e2) (F := (Fq.st [.n U.x, .n U.y, .v (.bool U.i)]).P) (G := (Fq.num e2).P) hp (free_of rfl) (enq_f_algorist_point_existing) (sqi 4) (sqi 5) (fun v v' w h h' => (exExistingP h h' HD.out).mono fun e w' hh => by obtain ⟨v2, he, hb, hn9⟩ := hh; exact ⟨_, he, hb, v2, rfl, hn9⟩) ?_
       intro L9 vs9 w9 ch w' A9 hG9 hb9 hT9 hdf _ _
       obtain ⟨v2, rfl, hn9⟩ := hT9
       have HE := HT.out
       have hbw := hG9.below.trans (hb9.mono (by have := hG9.below.size; omega))
       refine ⟨hdf, hbw, .inr ⟨by rw [← HE, HX.out]; exact HD.out, v2, rfl, by rw [← HE, HX.out]; exact hn9⟩⟩
      ·exact q_storeOldSt (off := 0) (fs := [.n S.x, .n S.y, .v (.bool S.i)]) (gs := [.n S.x, .n S.y, .v (.bool S.i)]) (fs' := [.n S.x, .n S.y, .v (.bool S.i)]) hp (mq 0 rfl) rfl rfl rfl size_api_Point rfl (sqo 7) (sq_in 6 rfl rfl (by simp) rfl (fun v w h => False.elim h)) (fun _ _ => trivial) (newik_ne rfl)
      intro L vs w9 nb hL hC hn E9
      exact False.elim (hC 6 (by simp))
     ·replace he : e2 = 0 := by omega
      subst he
      go_upto_region 7 with (fail)
      refine region_fr (C := [Fq.st [.n A, .n B, .n M], Fq.st [.n S.x, .n S.y, .v (.bool S.i)], Fq.st [.n P.x, .n P.y, .v (.bool P.i)], Fq.tup2 (Fq.st [.n U.x, .n U.y, .v (.bool U.i)]) (Fq.num 0), Fq.st [.n U.x, .n U.y, .v (.bool U.i)], Fq.num 0, Fq.st [.n U.x, .n U.y, .v (.bool U.i)], Fq.any]) (ks := [some (7, Fq.st [.n U.x, .n U.y, .v (.bool U.i)]), none, none, none, none]) (new := []) E rfl (by kernel_rfl) rfl rfl (fun hp => ⟨?_, ?_, ?_, ?_, ?_, ?_, ?_, ?_, trivial⟩) ?_
      ·exact q_loadSt (off := 0) (l := 6) (fs := [.n A, .n B, .n M]) (gs := [.n A, .n B, .n M]) hp (free_of rfl) trivial (mq 4 rfl) (.inl rfl) rfl row_api_Mod rfl (sqo 3) (fun v w h => h)
      ·exact q_loadSt (off := 0) (l := 5) (fs := [.n S.x, .n S.y, .v (.bool S.i)]) (gs := [.n S.x, .n S.y, .v (.bool S.i)]) hp (free_of rfl) trivial (mq 0 rfl) (.inr rfl) rfl row_api_Point rfl (sqo 7) (fun v w h => h)
      ·exact q_loadSt (off := 0) (l := 5) (fs := [.n P.x, .n P.y, .v (.bool P.i)]) (gs := [.n P.x, .n P.y, .v (.bool P.i)]) hp (free_of rfl) trivial (mq 2 rfl) (.inl rfl) rfl row_api_Point rfl (sqo 5) (fun v w h => h)
      ·exact q_call3 (F := (Fq.st [.n A, .n B, .n M]).P) (G := (Fq.st [.n S.x, .n S.y, .v (.bool S.i)]).P) (F3 := (Fq.st [.n P.x, .n P.y, .v (.bool P.i)]).P) hp (free_of rfl) trivial (enq_f_algorist_point_sum) (sqi 0) (sqi 1) (sqi 2) (fun v v' u w h h' g => exSum h h' g hM.out hA.out HSO.out HP.out HU.out)
      ·exact q_extract2 hp (free_of rfl) trivial (sqi 3) (fun v1 v2 w h1 h2 => ⟨_, rfl, h1⟩)
      ·exact q_extract2 hp (free_of rfl) trivial (sqi 3) (fun v1 v2 w h1 h2 => ⟨_, rfl, h2⟩)
      ·exact q_call2 (F := (Fq.st [.n U.x, .n U.y, .v (.bool U.i)]).P) (G := (Fq.num 0).P) hp (free_of rfl) trivial (enq_f_algorist_point_existing) (sqi 4) (sqi 5) (fun v v' w h h' => exExisting h h' rfl)
      ·exact q_storeOldSt (off := 0) (fs := [.n S.x, .n S.y, .v (.bool S.i)]) (gs := [.n U.x, .n U.y, .v (.bool U.i)]) (fs' := [.n U.x, .n U.y, .v (.bool U.i)]) hp (mq 0 rfl) rfl rfl rfl size_api_Point rfl (sqo 7) (sq_in 6 rfl rfl (by simp) rfl (fun v w h => fitv_st h)) (fun _ _ => trivial) (newik_ne rfl)
      intro L vs w12 nb hL hC hn E12
      have E : Fr w [(b5_1, 5, Fq.st [.n U.x, .n U.y, .v (.bool U.i)]), (b4, 5, Fq.st [.n 0, .n 0, .v (.bool false)]), (b3, 5, Fq.st [.n P.x, .n P.y, .v (.bool P.i)]), (b2, 2, Fq.nraw m1 (some ⟨ad, off, none⟩) j1 cc1 ys n), (b1, 6, Fq.st [.n A, .n B, .n M])] w12 := E12
      rw [lay_all hL]
      simp only [putAll, dstOf, List.length_cons, List.length_nil, Nat.zero_add, Nat.reduceAdd, List.getElem?_toArray, List.getElem?_cons_zero, List.getElem?_cons_succ, Option.bind_some, Act.put, List.setIfInBounds_toArray, List.set_cons_succ, List.set_cons_zero]
      generalize vs 0 = u12_0
      generalize vs 1 = u12_1
      generalize vs 2 = u12_2
      generalize vs 3 = u12_3
      generalize vs 4 = u12_4
      generalize vs 5 = u12_5
      generalize vs 6 = u12_6
      clear  hC hn E12 hL vs L nb
      have HZ := HXI.out
      replace HZ := hidd HZ
      go_wp2
      go_roundw
      case rel => exact ⟨i, U, by have := HJ.out; omega, by first | go_num | (rw [hw]; go_num), HZ.out, E⟩
      case measure => first | exact measP | (rw [hw]; exact measP)
    ·have TB : Hid (bits .and .u32 y 1 = 0) := by show _ = _; rw [HBA.out, show n.natAbs / 2 ^ i % 2 = 0 by omega]; rfl
     have HXI : Hid (xjP A M P n.natAbs (nbits n) i = (S, 0)) := by show _ = _; rw [HST.out, HR.out, stepP, if_pos rfl, HS.out, if_pos rfl, decide_eq_false hb]; rfl
     clear hb
     go_upto_region 6 with (fail)
     refine region_fr (C := [Fq.is (.pointer (some ⟨b2, 1, none⟩)), Fq.is (.slice (some ⟨ad, off, none⟩) j1 cc1), Fq.is (.int .i64 (i : Int)), Fq.is (.int .i64 (q : Int)), Fq.is (.pointer (some ⟨ad, off + q, none⟩)), Fq.is (.int .u32 x0), Fq.is (.int .i64 (i : Int)), Fq.is (.int .i64 (r : Int)), Fq.is (.int .u32 y), Fq.is (.int .u32 0), Fq.is (.bool false)]) (ks := [none, none, none, none, none]) (new := []) E rfl (by kernel_rfl) rfl rfl (fun hp => ⟨?_, ?_, ?_, ?_, ?_, ?_, ?_, ?_, ?_, ?_, ?_, trivial⟩) ?_
     ·exact q_addr (b := b2) (off := 0) (off' := 1) hp (free_of rfl) trivial (sqo 4) (fun ρ w h => by simp [execOp, go_sem, h]) (fun _ => rfl)
     ·exact q_loadMagP (off := 1) (v := .slice (some ⟨ad, off, none⟩) j1 cc1) hp (free_of rfl) trivial (mq 3 rfl) (.inl rfl) (Nat.le_of_ble_eq_true rfl) (sqi 0) (fun us w hl h => ⟨ld_nrawS hl h, rfl⟩)
     ·exact q_move hp (free_of rfl) trivial (sqo 8)
     ·exact q_one (F := fun v _ => v = .int .i64 (i : Int)) hp (free_of rfl) trivial (sqi 2) (fun ρ w hc h => ⟨.int .i64 (q : Int), by simp [execOp, go_sem, h, hc, WQ.out, WQ3.out], rfl⟩)
     ·exact q_two (F := fun v _ => v = .slice (some ⟨ad, off, none⟩) j1 cc1) (G := fun v _ => v = .int .i64 (q : Int)) hp (free_of rfl) trivial (sqi 1) (sqi 3) (fun ρ w hc h h' => ⟨.pointer (some ⟨ad, off + q, none⟩), by simp [execOp, go_sem, h, h', hc, HQI.out], rfl⟩)
     ·exact q_loadWord (bx := b2) (x0 := x0) hp (free_of rfl) trivial (mq 3 rfl) (.inl rfl) (sqi 4) (fun us w hl h => nat_word HQK.out HX0.out h) (fun _ => rfl)
     ·exact q_move hp (free_of rfl) trivial (sqo 8)
     ·exact q_one (F := fun v _ => v = .int .i64 (i : Int)) hp (free_of rfl) trivial (sqi 6) (fun ρ w hc h => ⟨.int .i64 (r : Int), by simp [execOp, go_sem, h, hc, WR.out], rfl⟩)
     ·exact q_two (F := fun v _ => v = .int .u32 x0) (G := fun v _ => v = .int .i64 (r : Int)) hp (free_of rfl) trivial (sqi 5) (sqi 7) (fun ρ w hc h h' => ⟨.int .u32 y, by simp [execOp, go_sem, h, h', WG.out, WS.out, WM.out], rfl⟩)
     ·exact q_one (F := fun v _ => v = .int .u32 y) hp (free_of rfl) trivial (sqi 8) (fun ρ w hc h => ⟨.int .u32 0, by simp [execOp, go_sem, h, hc, TB.out], rfl⟩)
     ·exact q_one (F := fun v _ => v = .int .u32 0) hp (free_of rfl) trivial (sqi 9) (fun ρ w hc h => ⟨.bool false, by simp [execOp, go_sem, h, hc], rfl⟩)
     intro L vs w13 nb hL hC hn E13
     have e0 : vs 0 = .pointer (some ⟨b2, 1, none⟩) := hC 0 (by simp)
     have e1 : vs 1 = .slice (some ⟨ad, off, none⟩) j1 cc1 := hC 1 (by simp)
     have e2 : vs 2 = .int .i64 (i : Int) := hC 2 (by simp)
     have e3 : vs 3 = .int .i64 (q : Int) := hC 3 (by simp)
     have e4 : vs 4 = .pointer (some ⟨ad, off + q, none⟩) := hC 4 (by simp)
     have e5 : vs 5 = .int .u32 x0 := hC 5 (by simp)
     have e6 : vs 6 = .int .i64 (i : Int) := hC 6 (by simp)
     have e7 : vs 7 = .int .i64 (r : Int) := hC 7 (by simp)
     have e8 : vs 8 = .int .u32 y := hC 8 (by simp)
     have e9 : vs 9 = .int .u32 0 := hC 9 (by simp)
     have e10 : vs 10 = .bool false := hC 10 (by simp)
     have E : Fr w [(b5_1, 5, Fq.st [.n S.x, .n S.y, .v (.bool S.i)]), (b4, 5, Fq.st [.n 0, .n 0, .v (.bool false)]), (b3, 5, Fq.st [.n P.x, .n P.y, .v (.bool P.i)]), (b2, 2, Fq.nraw m1 (some ⟨ad, off, none⟩) j1 cc1 ys n), (b1, 6, Fq.st [.n A, .n B, .n M])] w13 := E13
     rw [lay_all hL]
     simp only [putAll, dstOf, List.length_cons, List.length_nil, Nat.zero_add, Nat.reduceAdd, List.getElem?_toArray, List.getElem?_cons_zero, List.getElem?_cons_succ, Option.bind_some, Act.put, List.setIfInBounds_toArray, List.set_cons_succ, List.set_cons_zero]
     rw [e0, e1, e2, e3, e4, e5, e6, e7, e8, e9, e10]
     clear e0 e1 e2 e3 e4 e5 e6 e7 e8 e9 e10 hC hn E13 hL vs L nb
     clear TB HX0 HQK HQI HBA HR32 WQ WQ3 WR WR3 WS WM WG
     have HZ := HXI.out
     replace HZ := hidd HZ
     go_wp2
     go_roundw
     case rel => exact ⟨i, S, by have := HJ.out; omega, by first | go_num | (rw [hw]; go_num), HZ.out, E⟩
     case measure => first | exact measP | (rw [hw]; exact measP)

end Go.Proofs.Ytihhlaagndingaa

namespace Go.Proofs.Ytihhlaagndingaa
open Go Go.RowKit

theorem Fr.store {w0 W : World} {bs : List (Nat × Nat × Fq)} (E : Fr w0 bs W) (k : Nat) {b m : Nat} {F F' : Fq} (hk : bs[k]? = some (b, m, F)) {us : List Value} (hl : us.length = m) (ht : Tame us) (hF : F'.P (.agg us.toArray) W) : Fr w0 (bs.set k (b, m, F')) (putFrom W b 0 us) := by
 have hm := List.mem_of_getElem? hk
 have hkl : k < bs.length := (List.getElem?_eq_some_iff.1 hk).1
 have hap : ∀ i, i < bs.length → i ≠ k → ∀ y, bs[i]? = some y → y.1 ≠ b := by
  intro i hi hne y hy e
  have h1 := E.apart
  rw [List.nodup_iff_pairwise_ne, List.pairwise_map, List.pairwise_iff_getElem] at h1
  have hy' := (List.getElem?_eq_some_iff.1 hy).2
  have hk' := (List.getElem?_eq_some_iff.1 hk).2
  rcases Nat.lt_or_gt_of_ne hne with h | h
  ·have := h1 i k hi hkl h
   rw [hy', hk'] at this
   exact this e
  ·have := h1 k i hkl hi h
   rw [hy', hk'] at this
   exact this e.symm
 refine ⟨putFrom_below (E.boxes _ hm).1 us 0 _ _ E.below, fun x hx => ?_, ?_⟩
 ·obtain ⟨i, hi, e⟩ := List.mem_iff_getElem.1 hx
  rw [List.getElem_set] at e
  split at e
  ·subst e
   exact ⟨(E.boxes _ hm).1, (E.boxes _ hm).2.same hl ht hF⟩
  ·rename_i hne
   have hi' : i < bs.length := by simpa using hi
   have hx' : bs[i]? = some x := by rw [List.getElem?_eq_getElem hi', e]
   have hxm := List.mem_of_getElem? hx'
   exact ⟨(E.boxes _ hxm).1, (E.boxes _ hxm).2.other (E.boxes _ hm).2 (hap i hi' (fun h => hne h.symm) x hx') hl⟩
 ·have e : (bs.set k (b, m, F')).map (·.1) = bs.map (·.1) := by
   apply List.ext_getElem?
   intro i
   rw [List.getElem?_map, List.getElem?_map, List.getElem?_set]
   split
   ·rename_i h
    subst h
    simp [hkl]
    exact (congrArg (·.1) (List.getElem?_eq_some_iff.1 hk).2).symm
   ·rfl
  rw [e]
  exact E.apart
theorem oldOf_of {bs : List (Nat × Nat × Fq)} {ks : List (Option (Nat × Fq))} {d : Nat} (hl : ks.length = bs.length) : ∀ x ∈ bs, ∃ o ∈ oldOf bs ks d, o.b = x.1 ∧ o.m = x.2.1 ∧ o.F0 = x.2.2 := by
 induction bs generalizing ks d with
 | nil => intro x hx; simp at hx
 | cons y r ih =>
  obtain ⟨b, m, F⟩ := y
  cases ks with
  | nil => simp at hl
  | cons k ks =>
   have hl' : ks.length = r.length := by simpa using hl
   intro x hx
   rcases List.mem_cons.1 hx with rfl | hx
   ·cases k with
    | none => exact ⟨_, by simp only [oldOf]; exact List.mem_cons_self .., rfl, rfl, rfl⟩
    | some kk => obtain ⟨k, F1⟩ := kk; exact ⟨_, by simp only [oldOf]; exact List.mem_cons_self .., rfl, rfl, rfl⟩
   ·cases k with
    | none => obtain ⟨o, ho, h⟩ := ih (ks := ks) hl' x hx; exact ⟨o, by simp only [oldOf]; exact List.mem_cons_of_mem _ ho, h⟩
    | some kk => obtain ⟨k, F1⟩ := kk; obtain ⟨o, ho, h⟩ := ih (ks := ks) hl' x hx; exact ⟨o, by simp only [oldOf]; exact List.mem_cons_of_mem _ ho, h⟩
theorem fr_of_G {w0 W w : World} {C : List Fq} {bs : List (Nat × Nat × Fq)} {ks : List (Option (Nat × Fq))} {new : List Nb} {len : Nat} {L : Nat → Bool} {vs : Nat → Value} (E : Fr w0 bs W) (hG : (plq C bs ks new len).G w0.heap.size W.heap.size w0 L vs w) (hl : ks.length = bs.length) (hs : ∀ o ∈ (plq C bs ks new len).old, o.F1 = o.F0) : Fr w0 bs w := by
 refine ⟨hG.below, fun x hx => ?_, E.apart⟩
 obtain ⟨o, ho, h1, h2, h3⟩ := oldOf_of (d := len) hl x hx
 have hB := hG.old o ho
 rw [hs o ho, ite_self, h1, h2, h3] at hB
 exact ⟨(E.boxes x hx).1, hB⟩
theorem Fr.later {w0 W W' : World} {bs : List (Nat × Nat × Fq)} (E : Fr w0 bs W) (hb : Below W.heap.size W W') : Fr w0 bs W' := ⟨E.below.trans (hb.mono E.below.size), fun x hx => ⟨(E.boxes x hx).1, (E.boxes x hx).2.mono hb⟩, E.apart⟩

theorem ta_int (X : TypeId) (v : Value) (w : World) : (Instr.typeAssert (.iface 29 v) X 29 true).run Try.prog w = .ok (.tuple #[v, .bool true]) w := by
 simp [Instr.typeAssert, go_sem]
set_option maxRecDepth 20000 in
theorem times_catch (bd be : Nat) (n : Bool) (ao : Option Addr) (k c : Nat) (older : List PanicEntry) (w : World) (hne : bd ≠ be) {x0 y0 e0 : Value} (h0 : w.cell? ⟨bd, 0, none⟩ = some x0) (h1 : w.cell? ⟨bd, 1, none⟩ = some y0) (h2 : w.cell? ⟨be, 0, none⟩ = some e0) (f0 : w.frozen? ⟨bd, 0, none⟩ = false) (f1 : w.frozen? ⟨bd, 1, none⟩ = false) (f2 : w.frozen? ⟨be, 0, none⟩ = false) :
  CallsD Try.prog 65 #[.pointer (some ⟨bd, 0, none⟩), .pointer (some ⟨be, 0, none⟩)] (.panicking ({ v := .iface 29 (.agg #[.bool n, .slice ao k c]), recovered := false } :: older)) w fun e u' w' =>
   e = .returned (.tuple #[]) ∧ u' = .panicking ({ v := .iface 29 (.agg #[.bool n, .slice ao k c]), recovered := true } :: older) ∧ w' = putFrom (putFrom w bd 0 [.bool n, .slice ao k c]) be 0 [.int .i64 6] := by
 refine callsD_of_wpS Try.func65 rfl fun c₀ cs hu => ?_
 apply wpS_seq
 apply wpS_region
 simp [wpOpsS, go_sem, recoverD, hu, Try.ntmps65, Exit.thenS]
 apply wpS_seq
 apply wpS_region
 simp [wpOpsS, go_sem, Exit.thenS]
 refine wpS_cond (t := true) (by simp [Act.eval, Array.replicate]) ?_
 simp only [if_true]
 refine wpS_of_wp ?_
 have hta := fun X => ta_int X (.agg #[.bool n, .slice ao k c]) w
 simp only [Array.replicate, List.replicate]
 go_wp2
 simp [bodyPostS, results, Try.results65, putFrom]
set_option maxRecDepth 20000 in
theorem times_idle (bd be : Nat) (w : World) :
  CallsD Try.prog 65 #[.pointer (some ⟨bd, 0, none⟩), .pointer (some ⟨be, 0, none⟩)] .returning w fun e u' w' => e = .returned (.tuple #[]) ∧ u' = .returning ∧ w' = w := by
 refine callsD_of_wpS Try.func65 rfl fun c₀ cs hu => ?_
 apply wpS_seq
 apply wpS_region
 simp [wpOpsS, go_sem, recoverD, hu, Try.ntmps65, Exit.thenS]
 apply wpS_seq
 apply wpS_region
 simp [wpOpsS, go_sem, Exit.thenS]
 refine wpS_cond (t := false) (by simp [Act.eval, Array.replicate]) ?_
 simp only [Bool.false_eq_true, if_false]
 refine wpS_of_wp (wp_skip ?_)
 cases c₀
 simp_all [bodyPostS, results, Try.results65]
end Go.Proofs.Ytihhlaagndingaa

namespace Go.Proofs.Ytihhlaagndingaa
open Go Go.RowKit

theorem fits0_api_Errno (w : World) : Fits w [.v (.int .i64 0)] [.int .i64 0] := ⟨_, rfl, rfl, rfl⟩
theorem fits0P_api_Errno (w : World) : (Fq.st [.v (.int .i64 0)]).P (.agg ([.int .i64 0] : List Value).toArray) w := ⟨_, rfl, fits0_api_Errno w⟩
noncomputable def timesP (A M : Int) (P : Pt) (n : Int) : Pt × Int := xjP A M (if n < 0 then oppP M P else P) n.natAbs (nbits n) 0
theorem oppP_ok {M : Int} {P : Pt} (hP : P.Ok M) : (oppP M P).Ok M := by
 have h0 : 0 < M := by have := hP.1; have := hP.2.1; omega
 unfold oppP
 split
 ·exact ⟨by show (0 : Int) ≤ 0; omega, h0, by show (0 : Int) ≤ 0; omega, h0⟩
 ·exact ⟨hP.1, hP.2.1, Int.emod_nonneg _ (by omega), Int.emod_lt_of_pos _ h0⟩
theorem make_func (fn : Fn) (first cap : Array Value) (w : World) : (Instr.makeFunc fn first cap).run Try.prog w = .ok (.func fn first cap) w := rfl
theorem box_free {w : World} {b m : Nat} {F : Fq} (h : Bq w b m F) (j : Nat) (hj : j < m) : w.frozen? ⟨b, j, none⟩ = false := by
 obtain ⟨us, h1, _, h3, _⟩ := h
 exact (h3 j (by omega)).2
set_option maxRecDepth 20000 in
theorem times_results {A9 : Act} {w : World} {b6 b7 b8 : Nat} {p0 p1 p2 p3 p4 d0 d1 q0 : Value} (t6 : A9.eval (.tmp 6) = .pointer (some ⟨b6, 0, none⟩)) (t7 : A9.eval (.tmp 7) = .pointer (some ⟨b7, 0, none⟩)) (t8 : A9.eval (.tmp 8) = .pointer (some ⟨b8, 0, none⟩))
  (c0 : w.cell? ⟨b6, 0, none⟩ = some p0) (c1 : w.cell? ⟨b6, 1, none⟩ = some p1) (c2 : w.cell? ⟨b6, 2, none⟩ = some p2) (c3 : w.cell? ⟨b6, 3, none⟩ = some p3) (c4 : w.cell? ⟨b6, 4, none⟩ = some p4) (e0 : w.cell? ⟨b7, 0, none⟩ = some d0) (e1 : w.cell? ⟨b7, 1, none⟩ = some d1) (g0 : w.cell? ⟨b8, 0, none⟩ = some q0) :
  (results Try.f39 A9.tmps).run Try.prog w = .ok (.tuple #[.agg #[p0, p1, p2, p3, p4], .agg #[d0, d1], q0]) w := by
 simp [Act.eval] at t6 t7 t8
 simp [results, Try.results39, go_sem, t6, t7, t8, c0, c1, c2, c3, c4, e0, e1, g0]
set_option maxRecDepth 100000 in
set_option maxHeartbeats 4000000 in
theorem exTimesE {w : World} {v v' u : Value} {A B M n : Int} {P : Pt} (h : (Fq.st [.n A, .n B, .n M]).P v w) (h' : Num w v' n) (g : (Fq.pt P).P u w) (hM : ab M < pw 5) (hA : ab A < pw 5) (hB : ab B < pw 5) (hn : ab n < pw 20) (hP : ab P.x < pw 5 ∧ ab P.y < pw 5) (ht : onB A B M P.x P.y P.i = false) :
  Calls Try.prog 39 #[v, v', u] w fun e w' => ∃ v', e = .returned v' ∧ Below w.heap.size w w' ∧ (Fq.tup3 (Fq.pt ⟨0, 0, false⟩) (Fq.num 0) (Fq.is (.int .i64 1))).P v' w' := by
 replace hM := hidd hM
 replace hA := hidd hA
 replace hB := hidd hB
 replace hn := hidd hn
 replace hP := hidd hP
 replace ht := hidd ht
 obtain ⟨_, rfl, hf0⟩ := h
 have hF0 := hf0
 obtain ⟨y0_p0, y0_q0, _, rfl, _y0_n0, y0_p1, y0_q1, _, rfl, _y0_n1, y0_p2, y0_q2, _, rfl, _y0_n2, rfl⟩ := hf0
 obtain ⟨n1, ao1, k1, c1, rfl⟩ := h'.parts
 obtain ⟨_, rfl, hf2⟩ := g
 have hF2 := hf2
 obtain ⟨y2_p0, y2_q0, _, rfl, _y2_n0, y2_p1, y2_q1, _, rfl, _y2_n1, _, rfl, _, rfl⟩ := hf2
 obtain ⟨w1, b1, hw1, hb1, hs1, E⟩ := fr_start w (F := Fq.st [.n A, .n B, .n M]) (us := [y0_p0, y0_q0, y0_p1, y0_q1, y0_p2, y0_q2]) 31 rfl (by simp) (hF0.tame) (show (Fq.st [.n A, .n B, .n M]).P _ w from ⟨_, rfl, hF0⟩)
 obtain ⟨w2, b2, hw2, hb2, hs2, E⟩ := fr_more E hs1 (F := Fq.num n) (us := [.bool n1, .slice ao1 k1 c1]) 29 rfl (by simp) (tame_int _ _ _ _) (h'.mono E.below)
 obtain ⟨w3, b3, hw3, hb3, hs3, E⟩ := fr_more E hs2 (F := Fq.st [.n P.x, .n P.y, .v (.bool P.i)]) (us := [y2_p0, y2_q0, y2_p1, y2_q1, .bool P.i]) 37 rfl (by simp) (hF2.tame) ((Fq.st [.n P.x, .n P.y, .v (.bool P.i)]).mono (show (Fq.st [.n P.x, .n P.y, .v (.bool P.i)]).P _ w from ⟨_, rfl, hF2⟩) E.below)
 obtain ⟨w4, b4, hw4, hb4, hs4, E⟩ := fr_more E hs3 (F := Fq.st [.n 0, .n 0, .v (.bool false)]) (us := [.bool false, .slice none 0 0, .bool false, .slice none 0 0, .bool false]) 37 rfl (by simp) ((Fits.tame (fits0_api_Point w))) (fits0P_api_Point _)
 obtain ⟨w5, b5, hw5, hb5, hs5, E⟩ := fr_more E hs4 (F := Fq.num 0) (us := [.bool false, .slice none 0 0]) 29 rfl (by simp) (tame_int _ _ _ _) (Num.zero _)
 obtain ⟨w6, b6, hw6, hb6, hs6, E⟩ := fr_more E hs5 (F := Fq.st [.v (.int .i64 0)]) (us := [.int .i64 0]) 39 rfl (by simp) ((Fits.tame (fits0_api_Errno w))) (fits0P_api_Errno _)
 go_enter_defers Try.func39, Try.ntmps39
 go_upto_region 1 with (fail)
 rw [← hw1]
 rw [← hw2]
 rw [← hw3]
 rw [← hw4]
 rw [← hw5]
 rw [← hw6]
 rw [← hb6]
 rw [← hb5]
 rw [← hb4]
 rw [← hb3]
 rw [← hb2]
 rw [← hb1]
 clear hw1 hw2 hw3 hw4 hw5 hw6 hb1 hb2 hb3 hb4 hb5 hb6 hs6 hs1 hs2 hs3 hs4 hs5
 refine region_fr (C := [Fq.st [.n A, .n B, .n M], Fq.st [.n P.x, .n P.y, .v (.bool P.i)], Fq.is (.bool false), Fq.is (.bool true)]) (ks := [none, none, none, none, none, none]) (new := []) E rfl (by kernel_rfl) rfl rfl (fun hp => ⟨?_, ?_, ?_, ?_, trivial⟩) ?_
 ·exact q_loadSt (off := 0) (l := 6) (fs := [.n A, .n B, .n M]) (gs := [.n A, .n B, .n M]) hp (free_of rfl) trivial (mq 5 rfl) (.inl rfl) rfl row_api_Mod rfl (sqo 3) (fun v w h => h)
 ·exact q_loadSt (off := 0) (l := 5) (fs := [.n P.x, .n P.y, .v (.bool P.i)]) (gs := [.n P.x, .n P.y, .v (.bool P.i)]) hp (free_of rfl) trivial (mq 3 rfl) (.inl rfl) rfl row_api_Point rfl (sqo 5) (fun v w h => h)
 ·exact q_call2 (F := (Fq.st [.n A, .n B, .n M]).P) (G := (Fq.st [.n P.x, .n P.y, .v (.bool P.i)]).P) hp (free_of rfl) trivial (enq_f_algorist_point_On) (sqi 0) (sqi 1) (fun v v' w h h' => exOn h h' hM.out hA.out hB.out hP.out.1 hP.out.2 ht.out)
 ·exact q_one (F := fun v _ => v = .bool false) hp (free_of rfl) trivial (sqi 2) (fun ρ w _ h => ⟨.bool true, by simp [execOp, go_sem, h], rfl⟩)
 intro L vs w7 nb hL hC hn E7
 have e2 : vs 2 = .bool false := hC 2 (by simp)
 have e3 : vs 3 = .bool true := hC 3 (by simp)
 have E : Fr w [(b6, 1, Fq.st [.v (.int .i64 0)]), (b5, 2, Fq.num 0), (b4, 5, Fq.st [.n 0, .n 0, .v (.bool false)]), (b3, 5, Fq.st [.n P.x, .n P.y, .v (.bool P.i)]), (b2, 2, Fq.num n), (b1, 6, Fq.st [.n A, .n B, .n M])] w7 := E7
 rw [lay_all hL]
 simp only [putAll, dstOf, List.length_cons, List.length_nil, Nat.zero_add, Nat.reduceAdd, List.getElem?_toArray, List.getElem?_cons_zero, List.getElem?_cons_succ, Option.bind_some, Act.put, List.setIfInBounds_toArray, List.set_cons_succ, List.set_cons_zero]
 rw [e2, e3]
 generalize vs 0 = u7_0
 generalize vs 1 = u7_1
 clear e2 e3 hC hn E7 hL vs L nb
 go_upto_region 2 with (fail)
 refine region_fr (C := [Fq.st [.n 0, .n 0, .v (.bool false)], Fq.num 0, Fq.any, Fq.any, Fq.any]) (ks := [some (4, Fq.st [.v (.int .i64 1)]), some (3, Fq.num 0), some (2, Fq.st [.n 0, .n 0, .v (.bool false)]), none, none, none]) (new := []) E rfl (by kernel_rfl) rfl rfl (fun hp => ⟨?_, ?_, ?_, ?_, ?_, trivial⟩) ?_
 ·exact q_build_api_Point_ hp (free_of rfl) trivial (fun v w h => h)
 ·exact q_zeroInt hp (free_of rfl) trivial (fun w => Num.zero w)
 ·exact q_storeOldSt (off := 0) (fs := [.n 0, .n 0, .v (.bool false)]) (gs := [.n 0, .n 0, .v (.bool false)]) (fs' := [.n 0, .n 0, .v (.bool false)]) hp (mq 2 rfl) rfl rfl rfl size_api_Point rfl (sqo 6) (sq_in 0 rfl rfl (by simp) rfl (fun v w h => fitv_st h)) (fun _ _ => trivial) (newik_ne rfl)
 ·exact q_storeOldInt hp (mq 1 rfl) rfl rfl (sqo 7) (sq_in 1 rfl rfl (by simp) rfl (fun v w h => intV_num h)) (fun _ _ => trivial) (newik_ne rfl)
 ·exact q_storeOldSt (off := 0) (fs := [.v (.int .i64 0)]) (gs := [.v (.int .i64 1)]) (fs' := [.v (.int .i64 1)]) hp (mq 0 rfl) rfl rfl rfl size_api_Errno rfl (sqo 8) (sq_const (fun _ => fitv_is rfl rfl)) (fun _ _ => trivial) (newik_ne rfl)
 intro L vs w8 nb hL hC hn E8
 have E : Fr w [(b6, 1, Fq.st [.v (.int .i64 1)]), (b5, 2, Fq.num 0), (b4, 5, Fq.st [.n 0, .n 0, .v (.bool false)]), (b3, 5, Fq.st [.n P.x, .n P.y, .v (.bool P.i)]), (b2, 2, Fq.num n), (b1, 6, Fq.st [.n A, .n B, .n M])] w8 := E8
 rw [lay_all hL]
 simp only [putAll, dstOf, List.length_cons, List.length_nil, Nat.zero_add, Nat.reduceAdd, List.getElem?_toArray, List.getElem?_cons_zero, List.getElem?_cons_succ, Option.bind_some, Act.put, List.setIfInBounds_toArray, List.set_cons_succ, List.set_cons_zero]
 generalize vs 0 = u8_0
 generalize vs 1 = u8_1
 clear  hC hn E8 hL vs L nb
 obtain ⟨_, _, hcr, hfr⟩ := box_st (E.box 2 rfl)
 have hRr := hfr
 obtain ⟨r_p0, r_q0, _, rfl, _r_n0, r_p1, r_q1, _, rfl, _r_n1, _, rfl, _, rfl⟩ := hfr
 have cr0 := hcr 0 (by simp)
 have cr1 := hcr 1 (by simp)
 have cr2 := hcr 2 (by simp)
 have cr3 := hcr 3 (by simp)
 have cr4 := hcr 4 (by simp)
 simp only [List.getD_cons_zero, List.getD_cons_succ] at cr0 cr1 cr2 cr3 cr4
 clear hcr
 obtain ⟨d0, d1, e0, e1, hD⟩ := box_num (E.box 1 rfl)
 obtain ⟨_, _, hcq, hfq⟩ := box_st (E.box 0 rfl)
 have hRq := hfq
 obtain ⟨_, rfl, _, rfl⟩ := hfq
 have cq0 := hcq 0 (by simp)
 simp only [List.getD_cons_zero] at cq0
 clear hcq
 clear hM hA hB hn hP
 clear ht
 go_wp2
 simp only [bodyPostD, Leaves]
 refine ⟨.tuple #[.agg #[r_p0, r_q0, r_p1, r_q1, .bool false], .agg #[d0, d1], .int .i64 1], ?_, _, rfl, E.below, _, _, _, rfl, ⟨_, rfl, hRr⟩, hD, rfl⟩
 simp [results, Try.results39, go_sem, cr0, cr1, cr2, cr3, cr4, e0, e1, cq0]

set_option maxRecDepth 100000 in
set_option maxHeartbeats 4000000 in
theorem exTimes00 {w : World} {v v' u : Value} {A B M n : Int} {P : Pt} (h : (Fq.st [.n A, .n B, .n M]).P v w) (h' : Num w v' n) (g : (Fq.pt P).P u w) (hM : ab M < pw 5) (hA : ab A < pw 5) (hB : ab B < pw 5) (hn : ab n < pw 20) (hP : ab P.x < pw 5 ∧ ab P.y < pw 5) (ht : onB A B M P.x P.y P.i = true) {T : Pt × Int} (hT : timesP A M P n = T) (hneg : ¬ n < 0) (hd :  T.2 = 0) :
  Calls Try.prog 39 #[v, v', u] w fun e w' => ∃ v', e = .returned v' ∧ Below w.heap.size w w' ∧ (Fq.tup3 (Fq.pt T.1) (Fq.num 0) (Fq.is (.int .i64 0))).P v' w' := by
 replace hM := hidd hM
 replace hA := hidd hA
 replace hB := hidd hB
 replace hn := hidd hn
 replace hP := hidd hP
 replace ht := hidd ht
 obtain ⟨T, dT⟩ := T
 have HPO := hidd (onB_ok ht.out).1
 have T1 : Hid (¬ cmpI n 0 < 0) := fun e => hneg (cmpIqlt.1 e)
 unfold timesP at hT
 rw [if_neg hneg] at hT
 have HT := hidd hT
 clear hneg hT
 have hd0 : dT = 0 := hd
 subst hd0
 clear hd
 obtain ⟨_, rfl, hf0⟩ := h
 have hF0 := hf0
 obtain ⟨y0_p0, y0_q0, _, rfl, _y0_n0, y0_p1, y0_q1, _, rfl, _y0_n1, y0_p2, y0_q2, _, rfl, _y0_n2, rfl⟩ := hf0
 obtain ⟨n1, ao1, k1, c1, rfl⟩ := h'.parts
 obtain ⟨_, rfl, hf2⟩ := g
 have hF2 := hf2
 obtain ⟨y2_p0, y2_q0, _, rfl, _y2_n0, y2_p1, y2_q1, _, rfl, _y2_n1, _, rfl, _, rfl⟩ := hf2
 obtain ⟨w1, b1, hw1, hb1, hs1, E⟩ := fr_start w (F := Fq.st [.n A, .n B, .n M]) (us := [y0_p0, y0_q0, y0_p1, y0_q1, y0_p2, y0_q2]) 31 rfl (by simp) (hF0.tame) (show (Fq.st [.n A, .n B, .n M]).P _ w from ⟨_, rfl, hF0⟩)
 obtain ⟨w2, b2, hw2, hb2, hs2, E⟩ := fr_more E hs1 (F := Fq.num n) (us := [.bool n1, .slice ao1 k1 c1]) 29 rfl (by simp) (tame_int _ _ _ _) (h'.mono E.below)
 obtain ⟨w3, b3, hw3, hb3, hs3, E⟩ := fr_more E hs2 (F := Fq.st [.n P.x, .n P.y, .v (.bool P.i)]) (us := [y2_p0, y2_q0, y2_p1, y2_q1, .bool P.i]) 37 rfl (by simp) (hF2.tame) ((Fq.st [.n P.x, .n P.y, .v (.bool P.i)]).mono (show (Fq.st [.n P.x, .n P.y, .v (.bool P.i)]).P _ w from ⟨_, rfl, hF2⟩) E.below)
 obtain ⟨w4, b4, hw4, hb4, hs4, E⟩ := fr_more E hs3 (F := Fq.st [.n 0, .n 0, .v (.bool false)]) (us := [.bool false, .slice none 0 0, .bool false, .slice none 0 0, .bool false]) 37 rfl (by simp) ((Fits.tame (fits0_api_Point w))) (fits0P_api_Point _)
 obtain ⟨w5, b5, hw5, hb5, hs5, E⟩ := fr_more E hs4 (F := Fq.num 0) (us := [.bool false, .slice none 0 0]) 29 rfl (by simp) (tame_int _ _ _ _) (Num.zero _)
 obtain ⟨w6, b6, hw6, hb6, hs6, E⟩ := fr_more E hs5 (F := Fq.st [.v (.int .i64 0)]) (us := [.int .i64 0]) 39 rfl (by simp) ((Fits.tame (fits0_api_Errno w))) (fits0P_api_Errno _)
 go_enter_defers Try.func39, Try.ntmps39
 go_upto_region 1 with (fail)
 rw [← hw1]
 rw [← hw2]
 rw [← hw3]
 rw [← hw4]
 rw [← hw5]
 rw [← hw6]
 rw [← hb6]
 rw [← hb5]
 rw [← hb4]
 rw [← hb3]
 rw [← hb2]
 rw [← hb1]
 clear hw1 hw2 hw3 hw4 hw5 hw6 hb1 hb2 hb3 hb4 hb5 hb6 hs6 hs1 hs2 hs3 hs4 hs5
 refine region_fr (C := [Fq.st [.n A, .n B, .n M], Fq.st [.n P.x, .n P.y, .v (.bool P.i)], Fq.is (.bool true), Fq.is (.bool false)]) (ks := [none, none, none, none, none, none]) (new := []) E rfl (by kernel_rfl) rfl rfl (fun hp => ⟨?_, ?_, ?_, ?_, trivial⟩) ?_
 ·exact q_loadSt (off := 0) (l := 6) (fs := [.n A, .n B, .n M]) (gs := [.n A, .n B, .n M]) hp (free_of rfl) trivial (mq 5 rfl) (.inl rfl) rfl row_api_Mod rfl (sqo 3) (fun v w h => h)
 ·exact q_loadSt (off := 0) (l := 5) (fs := [.n P.x, .n P.y, .v (.bool P.i)]) (gs := [.n P.x, .n P.y, .v (.bool P.i)]) hp (free_of rfl) trivial (mq 3 rfl) (.inl rfl) rfl row_api_Point rfl (sqo 5) (fun v w h => h)
 ·exact q_call2 (F := (Fq.st [.n A, .n B, .n M]).P) (G := (Fq.st [.n P.x, .n P.y, .v (.bool P.i)]).P) hp (free_of rfl) trivial (enq_f_algorist_point_On) (sqi 0) (sqi 1) (fun v v' w h h' => exOn h h' hM.out hA.out hB.out hP.out.1 hP.out.2 ht.out)
 ·exact q_one (F := fun v _ => v = .bool true) hp (free_of rfl) trivial (sqi 2) (fun ρ w _ h => ⟨.bool false, by simp [execOp, go_sem, h], rfl⟩)
 intro L vs w7 nb hL hC hn E7
 have e2 : vs 2 = .bool true := hC 2 (by simp)
 have e3 : vs 3 = .bool false := hC 3 (by simp)
 have E : Fr w [(b6, 1, Fq.st [.v (.int .i64 0)]), (b5, 2, Fq.num 0), (b4, 5, Fq.st [.n 0, .n 0, .v (.bool false)]), (b3, 5, Fq.st [.n P.x, .n P.y, .v (.bool P.i)]), (b2, 2, Fq.num n), (b1, 6, Fq.st [.n A, .n B, .n M])] w7 := E7
 rw [lay_all hL]
 simp only [putAll, dstOf, List.length_cons, List.length_nil, Nat.zero_add, Nat.reduceAdd, List.getElem?_toArray, List.getElem?_cons_zero, List.getElem?_cons_succ, Option.bind_some, Act.put, List.setIfInBounds_toArray, List.set_cons_succ, List.set_cons_zero]
 rw [e2, e3]
 generalize vs 0 = u7_0
 generalize vs 1 = u7_1
 clear e2 e3 hC hn E7 hL vs L nb
 have hmf := make_func
 go_upto_region 4 with (fail)
 clear hmf
 refine region_fr (C := [Fq.num n, Fq.is (.int .i64 (cmpI n 0)), Fq.is (.bool false)]) (ks := [none, none, none, none, none, none]) (new := []) E rfl (by kernel_rfl) rfl rfl (fun hp => ⟨?_, ?_, ?_, trivial⟩) ?_
 ·exact q_loadInt (off := 0) hp (free_of rfl) trivial (mq 4 rfl) (.inl rfl) (Nat.le_of_ble_eq_true rfl) (sqo 4) (fun us w hl h => ld_num hl h)
 ·exact q_call1 (F := (Fq.num n).P) hp (free_of rfl) trivial (enq_Sign) (sqi 0) (fun v w h => exSign h)
 ·exact q_one (F := fun v _ => v = .int .i64 (cmpI n 0)) hp (free_of rfl) trivial (sqi 1) (fun ρ w hc h => ⟨.bool false, by simp [execOp, go_sem, h, hc, T1.out], rfl⟩)
 intro L vs w8 nb hL hC hn E8
 have e1 : vs 1 = .int .i64 (cmpI n 0) := hC 1 (by simp)
 have e2 : vs 2 = .bool false := hC 2 (by simp)
 have E : Fr w [(b6, 1, Fq.st [.v (.int .i64 0)]), (b5, 2, Fq.num 0), (b4, 5, Fq.st [.n 0, .n 0, .v (.bool false)]), (b3, 5, Fq.st [.n P.x, .n P.y, .v (.bool P.i)]), (b2, 2, Fq.num n), (b1, 6, Fq.st [.n A, .n B, .n M])] w8 := E8
 rw [lay_all hL]
 simp only [putAll, dstOf, List.length_cons, List.length_nil, Nat.zero_add, Nat.reduceAdd, List.getElem?_toArray, List.getElem?_cons_zero, List.getElem?_cons_succ, Option.bind_some, Act.put, List.setIfInBounds_toArray, List.set_cons_succ, List.set_cons_zero]
 rw [e1, e2]
 generalize vs 0 = u8_0
 clear e1 e2 hC hn E8 hL vs L nb
 clear T1
 go_upto_region 6 with (fail)
 refine region_fr (C := [Fq.st [.n A, .n B, .n M], Fq.num n, Fq.st [.n P.x, .n P.y, .v (.bool P.i)], Fq.st [.n T.x, .n T.y, .v (.bool T.i)], Fq.num 0, Fq.any, Fq.any, Fq.any]) (ks := [some (7, Fq.st [.v (.int .i64 0)]), some (6, Fq.num 0), some (5, Fq.st [.n T.x, .n T.y, .v (.bool T.i)]), none, none, none]) (new := []) E rfl (by kernel_rfl) rfl rfl (fun hp => ⟨?_, ?_, ?_, ?_, ?_, ?_, ?_, ?_, trivial⟩) ?_
 ·exact q_loadSt (off := 0) (l := 6) (fs := [.n A, .n B, .n M]) (gs := [.n A, .n B, .n M]) hp (free_of rfl) trivial (mq 5 rfl) (.inl rfl) rfl row_api_Mod rfl (sqo 3) (fun v w h => h)
 ·exact q_loadInt (off := 0) hp (free_of rfl) trivial (mq 4 rfl) (.inl rfl) (Nat.le_of_ble_eq_true rfl) (sqo 4) (fun us w hl h => ld_num hl h)
 ·exact q_loadSt (off := 0) (l := 5) (fs := [.n P.x, .n P.y, .v (.bool P.i)]) (gs := [.n P.x, .n P.y, .v (.bool P.i)]) hp (free_of rfl) trivial (mq 3 rfl) (.inl rfl) rfl row_api_Point rfl (sqo 5) (fun v w h => h)
 ·exact q_call3 (F := (Fq.st [.n A, .n B, .n M]).P) (G := (Fq.num n).P) (F3 := (Fq.st [.n P.x, .n P.y, .v (.bool P.i)]).P) hp (free_of rfl) trivial (enq_f_algorist_point_multiple) (sqi 0) (sqi 1) (sqi 2) (fun v v' u w h h' g => (exMultiple h h' g hM.out hA.out hn.out HPO.out HT.out).mono fun e w' hh => by
   obtain ⟨hb, hh⟩ := hh
   rcases hh with ⟨_, v2, he, hp9⟩ | ⟨hd9, _⟩
   ·exact ⟨v2, he, hb, hp9⟩
   ·exact absurd rfl hd9)
 ·exact q_zeroInt hp (free_of rfl) trivial (fun w => Num.zero w)
 ·exact q_storeOldSt (off := 0) (fs := [.n 0, .n 0, .v (.bool false)]) (gs := [.n T.x, .n T.y, .v (.bool T.i)]) (fs' := [.n T.x, .n T.y, .v (.bool T.i)]) hp (mq 2 rfl) rfl rfl rfl size_api_Point rfl (sqo 6) (sq_in 3 rfl rfl (by simp) rfl (fun v w h => fitv_st h)) (fun _ _ => trivial) (newik_ne rfl)
 ·exact q_storeOldInt hp (mq 1 rfl) rfl rfl (sqo 7) (sq_in 4 rfl rfl (by simp) rfl (fun v w h => intV_num h)) (fun _ _ => trivial) (newik_ne rfl)
 ·exact q_storeOldSt (off := 0) (fs := [.v (.int .i64 0)]) (gs := [.v (.int .i64 0)]) (fs' := [.v (.int .i64 0)]) hp (mq 0 rfl) rfl rfl rfl size_api_Errno rfl (sqo 8) (sq_const (fun _ => fitv_is rfl rfl)) (fun _ _ => trivial) (newik_ne rfl)
 intro L vs w9 nb hL hC hn E9
 have E : Fr w [(b6, 1, Fq.st [.v (.int .i64 0)]), (b5, 2, Fq.num 0), (b4, 5, Fq.st [.n T.x, .n T.y, .v (.bool T.i)]), (b3, 5, Fq.st [.n P.x, .n P.y, .v (.bool P.i)]), (b2, 2, Fq.num n), (b1, 6, Fq.st [.n A, .n B, .n M])] w9 := E9
 rw [lay_all hL]
 simp only [putAll, dstOf, List.length_cons, List.length_nil, Nat.zero_add, Nat.reduceAdd, List.getElem?_toArray, List.getElem?_cons_zero, List.getElem?_cons_succ, Option.bind_some, Act.put, List.setIfInBounds_toArray, List.set_cons_succ, List.set_cons_zero]
 generalize vs 0 = u9_0
 generalize vs 1 = u9_1
 generalize vs 2 = u9_2
 generalize vs 3 = u9_3
 generalize vs 4 = u9_4
 clear  hC hn E9 hL vs L nb
 obtain ⟨_, _, hcr, hfr⟩ := box_st (E.box 2 rfl)
 have hRr := hfr
 obtain ⟨r_p0, r_q0, _, rfl, _r_n0, r_p1, r_q1, _, rfl, _r_n1, _, rfl, _, rfl⟩ := hfr
 have cr0 := hcr 0 (by simp)
 have cr1 := hcr 1 (by simp)
 have cr2 := hcr 2 (by simp)
 have cr3 := hcr 3 (by simp)
 have cr4 := hcr 4 (by simp)
 simp only [List.getD_cons_zero, List.getD_cons_succ] at cr0 cr1 cr2 cr3 cr4
 clear hcr
 obtain ⟨d0, d1, e0, e1, hD⟩ := box_num (E.box 1 rfl)
 obtain ⟨_, _, hcq, hfq⟩ := box_st (E.box 0 rfl)
 have hRq := hfq
 obtain ⟨_, rfl, _, rfl⟩ := hfq
 have cq0 := hcq 0 (by simp)
 simp only [List.getD_cons_zero] at cq0
 clear hcq
 clear hM hA hB hn hP
 clear ht HPO HT
 go_wp2
 refine leaves_cons (f := 65) (args := #[.pointer (some ⟨b5, 0, none⟩), .pointer (some ⟨b6, 0, none⟩)]) (by simp) (by simp [go_sem]) ?_
 refine (times_idle b5 b6 _).mono ?_
 rintro e u' w'' ⟨rfl, rfl, rfl⟩
 simp only [settle, Leaves]
 refine ⟨.tuple #[.agg #[r_p0, r_q0, r_p1, r_q1, .bool T.i], .agg #[d0, d1], .int .i64 0], ?_, _, rfl, E.below, _, _, _, rfl, ⟨_, rfl, hRr⟩, hD, rfl⟩
 simp [results, Try.results39, go_sem, cr0, cr1, cr2, cr3, cr4, e0, e1, cq0]

set_option maxRecDepth 100000 in
set_option maxHeartbeats 4000000 in
theorem exTimes01 {w : World} {v v' u : Value} {A B M n : Int} {P : Pt} (h : (Fq.st [.n A, .n B, .n M]).P v w) (h' : Num w v' n) (g : (Fq.pt P).P u w) (hM : ab M < pw 5) (hA : ab A < pw 5) (hB : ab B < pw 5) (hn : ab n < pw 20) (hP : ab P.x < pw 5 ∧ ab P.y < pw 5) (ht : onB A B M P.x P.y P.i = true) {T : Pt × Int} (hT : timesP A M P n = T) (hneg : ¬ n < 0) (hd : ¬ T.2 = 0) :
  Calls Try.prog 39 #[v, v', u] w fun e w' => ∃ v', e = .returned v' ∧ Below w.heap.size w w' ∧ (Fq.tup3 (Fq.pt ⟨0, 0, false⟩) (Fq.num T.2) (Fq.is (.int .i64 6))).P v' w' := by
 replace hM := hidd hM
 replace hA := hidd hA
 replace hB := hidd hB
 replace hn := hidd hn
 replace hP := hidd hP
 replace ht := hidd ht
 obtain ⟨T, dT⟩ := T
 have HPO := hidd (onB_ok ht.out).1
 have T1 : Hid (¬ cmpI n 0 < 0) := fun e => hneg (cmpIqlt.1 e)
 unfold timesP at hT
 rw [if_neg hneg] at hT
 have HT := hidd hT
 clear hneg hT
 have HD := hidd hd
 clear hd
 obtain ⟨_, rfl, hf0⟩ := h
 have hF0 := hf0
 obtain ⟨y0_p0, y0_q0, _, rfl, _y0_n0, y0_p1, y0_q1, _, rfl, _y0_n1, y0_p2, y0_q2, _, rfl, _y0_n2, rfl⟩ := hf0
 obtain ⟨n1, ao1, k1, c1, rfl⟩ := h'.parts
 obtain ⟨_, rfl, hf2⟩ := g
 have hF2 := hf2
 obtain ⟨y2_p0, y2_q0, _, rfl, _y2_n0, y2_p1, y2_q1, _, rfl, _y2_n1, _, rfl, _, rfl⟩ := hf2
 obtain ⟨w1, b1, hw1, hb1, hs1, E⟩ := fr_start w (F := Fq.st [.n A, .n B, .n M]) (us := [y0_p0, y0_q0, y0_p1, y0_q1, y0_p2, y0_q2]) 31 rfl (by simp) (hF0.tame) (show (Fq.st [.n A, .n B, .n M]).P _ w from ⟨_, rfl, hF0⟩)
 obtain ⟨w2, b2, hw2, hb2, hs2, E⟩ := fr_more E hs1 (F := Fq.num n) (us := [.bool n1, .slice ao1 k1 c1]) 29 rfl (by simp) (tame_int _ _ _ _) (h'.mono E.below)
 obtain ⟨w3, b3, hw3, hb3, hs3, E⟩ := fr_more E hs2 (F := Fq.st [.n P.x, .n P.y, .v (.bool P.i)]) (us := [y2_p0, y2_q0, y2_p1, y2_q1, .bool P.i]) 37 rfl (by simp) (hF2.tame) ((Fq.st [.n P.x, .n P.y, .v (.bool P.i)]).mono (show (Fq.st [.n P.x, .n P.y, .v (.bool P.i)]).P _ w from ⟨_, rfl, hF2⟩) E.below)
 obtain ⟨w4, b4, hw4, hb4, hs4, E⟩ := fr_more E hs3 (F := Fq.st [.n 0, .n 0, .v (.bool false)]) (us := [.bool false, .slice none 0 0, .bool false, .slice none 0 0, .bool false]) 37 rfl (by simp) ((Fits.tame (fits0_api_Point w))) (fits0P_api_Point _)
 obtain ⟨w5, b5, hw5, hb5, hs5, E⟩ := fr_more E hs4 (F := Fq.num 0) (us := [.bool false, .slice none 0 0]) 29 rfl (by simp) (tame_int _ _ _ _) (Num.zero _)
 obtain ⟨w6, b6, hw6, hb6, hs6, E⟩ := fr_more E hs5 (F := Fq.st [.v (.int .i64 0)]) (us := [.int .i64 0]) 39 rfl (by simp) ((Fits.tame (fits0_api_Errno w))) (fits0P_api_Errno _)
 go_enter_defers Try.func39, Try.ntmps39
 go_upto_region 1 with (fail)
 rw [← hw1]
 rw [← hw2]
 rw [← hw3]
 rw [← hw4]
 rw [← hw5]
 rw [← hw6]
 rw [← hb6]
 rw [← hb5]
 rw [← hb4]
 rw [← hb3]
 rw [← hb2]
 rw [← hb1]
 clear hw1 hw2 hw3 hw4 hw5 hw6 hb1 hb2 hb3 hb4 hb5 hb6 hs6 hs1 hs2 hs3 hs4 hs5
 refine region_fr (C := [Fq.st [.n A, .n B, .n M], Fq.st [.n P.x, .n P.y, .v (.bool P.i)], Fq.is (.bool true), Fq.is (.bool false)]) (ks := [none, none, none, none, none, none]) (new := []) E rfl (by kernel_rfl) rfl rfl (fun hp => ⟨?_, ?_, ?_, ?_, trivial⟩) ?_
 ·exact q_loadSt (off := 0) (l := 6) (fs := [.n A, .n B, .n M]) (gs := [.n A, .n B, .n M]) hp (free_of rfl) trivial (mq 5 rfl) (.inl rfl) rfl row_api_Mod rfl (sqo 3) (fun v w h => h)
 ·exact q_loadSt (off := 0) (l := 5) (fs := [.n P.x, .n P.y, .v (.bool P.i)]) (gs := [.n P.x, .n P.y, .v (.bool P.i)]) hp (free_of rfl) trivial (mq 3 rfl) (.inl rfl) rfl row_api_Point rfl (sqo 5) (fun v w h => h)
 ·exact q_call2 (F := (Fq.st [.n A, .n B, .n M]).P) (G := (Fq.st [.n P.x, .n P.y, .v (.bool P.i)]).P) hp (free_of rfl) trivial (enq_f_algorist_point_On) (sqi 0) (sqi 1) (fun v v' w h h' => exOn h h' hM.out hA.out hB.out hP.out.1 hP.out.2 ht.out)
 ·exact q_one (F := fun v _ => v = .bool true) hp (free_of rfl) trivial (sqi 2) (fun ρ w _ h => ⟨.bool false, by simp [execOp, go_sem, h], rfl⟩)
 intro L vs w7 nb hL hC hn E7
 have e2 : vs 2 = .bool true := hC 2 (by simp)
 have e3 : vs 3 = .bool false := hC 3 (by simp)
 have E : Fr w [(b6, 1, Fq.st [.v (.int .i64 0)]), (b5, 2, Fq.num 0), (b4, 5, Fq.st [.n 0, .n 0, .v (.bool false)]), (b3, 5, Fq.st [.n P.x, .n P.y, .v (.bool P.i)]), (b2, 2, Fq.num n), (b1, 6, Fq.st [.n A, .n B, .n M])] w7 := E7
 rw [lay_all hL]
 simp only [putAll, dstOf, List.length_cons, List.length_nil, Nat.zero_add, Nat.reduceAdd, List.getElem?_toArray, List.getElem?_cons_zero, List.getElem?_cons_succ, Option.bind_some, Act.put, List.setIfInBounds_toArray, List.set_cons_succ, List.set_cons_zero]
 rw [e2, e3]
 generalize vs 0 = u7_0
 generalize vs 1 = u7_1
 clear e2 e3 hC hn E7 hL vs L nb
 have hmf := make_func
 go_upto_region 4 with (fail)
 clear hmf
 refine region_fr (C := [Fq.num n, Fq.is (.int .i64 (cmpI n 0)), Fq.is (.bool false)]) (ks := [none, none, none, none, none, none]) (new := []) E rfl (by kernel_rfl) rfl rfl (fun hp => ⟨?_, ?_, ?_, trivial⟩) ?_
 ·exact q_loadInt (off := 0) hp (free_of rfl) trivial (mq 4 rfl) (.inl rfl) (Nat.le_of_ble_eq_true rfl) (sqo 4) (fun us w hl h => ld_num hl h)
 ·exact q_call1 (F := (Fq.num n).P) hp (free_of rfl) trivial (enq_Sign) (sqi 0) (fun v w h => exSign h)
 ·exact q_one (F := fun v _ => v = .int .i64 (cmpI n 0)) hp (free_of rfl) trivial (sqi 1) (fun ρ w hc h => ⟨.bool false, by simp [execOp, go_sem, h, hc, T1.out], rfl⟩)
 intro L vs w8 nb hL hC hn E8
 have e1 : vs 1 = .int .i64 (cmpI n 0) := hC 1 (by simp)
 have e2 : vs 2 = .bool false := hC 2 (by simp)
 have E : Fr w [(b6, 1, Fq.st [.v (.int .i64 0)]), (b5, 2, Fq.num 0), (b4, 5, Fq.st [.n 0, .n 0, .v (.bool false)]), (b3, 5, Fq.st [.n P.x, .n P.y, .v (.bool P.i)]), (b2, 2, Fq.num n), (b1, 6, Fq.st [.n A, .n B, .n M])] w8 := E8
 rw [lay_all hL]
 simp only [putAll, dstOf, List.length_cons, List.length_nil, Nat.zero_add, Nat.reduceAdd, List.getElem?_toArray, List.getElem?_cons_zero, List.getElem?_cons_succ, Option.bind_some, Act.put, List.setIfInBounds_toArray, List.set_cons_succ, List.set_cons_zero]
 rw [e1, e2]
 generalize vs 0 = u8_0
 clear e1 e2 hC hn E8 hL vs L nb
 clear T1
 go_upto_region 6 with (fail)
 refine region_fr (C := [Fq.st [.n A, .n B, .n M], Fq.num n, Fq.st [.n P.x, .n P.y, .v (.bool P.i)], Fq.pre fun _ => False, Fq.num 0, Fq.any, Fq.any, Fq.any]) (ks := [some (7, Fq.st [.v (.int .i64 0)]), some (6, Fq.num 0), some (5, Fq.st [.n 0, .n 0, .v (.bool false)]), none, none, none]) (new := []) E rfl (by kernel_rfl) rfl rfl (fun hp => ⟨?_, ?_, ?_, ?_, ?_, ?_, ?_, ?_, trivial⟩) ?_
 ·exact q_loadSt (off := 0) (l := 6) (fs := [.n A, .n B, .n M]) (gs := [.n A, .n B, .n M]) hp (free_of rfl) trivial (mq 5 rfl) (.inl rfl) rfl row_api_Mod rfl (sqo 3) (fun v w h => h)
 ·exact q_loadInt (off := 0) hp (free_of rfl) trivial (mq 4 rfl) (.inl rfl) (Nat.le_of_ble_eq_true rfl) (sqo 4) (fun us w hl h => ld_num hl h)
 ·exact q_loadSt (off := 0) (l := 5) (fs := [.n P.x, .n P.y, .v (.bool P.i)]) (gs := [.n P.x, .n P.y, .v (.bool P.i)]) hp (free_of rfl) trivial (mq 3 rfl) (.inl rfl) rfl row_api_Point rfl (sqo 5) (fun v w h => h)
 ·refine q_callP3 (T := PanN dT) (F := (Fq.st [.n A, .n B, .n M]).P) (G := (Fq.num n).P) (F3 := (Fq.st [.n P.x, .n P.y, .v (.bool P.i)]).P) hp (free_of rfl) (enq_f_algorist_point_multiple) (sqi 0) (sqi 1) (sqi 2) (fun v v' u w h h' g => (exMultiple h h' g hM.out hA.out hn.out HPO.out HT.out).mono fun e w' hh => by
   obtain ⟨hb, hh⟩ := hh
   rcases hh with ⟨hd9, _⟩ | ⟨_, v2, he, hp9⟩
   ·exact absurd hd9 HD.out
   ·exact ⟨_, he, hb, v2, rfl, hp9⟩) ?_
  intro L9 vs9 w9 ch w9' A9 hG9 hb9 hT9 hdf htsz hta
  obtain ⟨v2, rfl, hn9⟩ := hT9
  have F0 := (fr_of_G E hG9 rfl (by simp [plq, oldOf])).later hb9
  obtain ⟨n9, ao9, k9, c9, rfl⟩ := hn9.parts
  obtain ⟨x0, y0, g0, g1, _⟩ := box_num (F0.box 1 rfl)
  obtain ⟨_, _, hcq, hfq⟩ := box_st (F0.box 0 rfl)
  obtain ⟨_, rfl, _, rfl⟩ := hfq
  have g2 := hcq 0 (by simp)
  have z0 : w9'.frozen? ⟨b5, 0, none⟩ = false := box_free (F0.box 1 rfl) 0 (by omega)
  have z1 : w9'.frozen? ⟨b5, 1, none⟩ = false := box_free (F0.box 1 rfl) 1 (by omega)
  have z2 : w9'.frozen? ⟨b6, 0, none⟩ = false := box_free (F0.box 0 rfl) 0 (by omega)
  have hne : b5 ≠ b6 := by have := F0.apart; simp at this; omega
  have F1 := F0.store 1 (F' := Fq.num dT) rfl (us := [.bool n9, .slice ao9 k9 c9]) rfl (tame_int _ _ _ _) hn9
  have F2 := F1.store 0 (F' := Fq.st [.v (.int .i64 6)]) rfl (us := [.int .i64 6]) rfl (fun u hu q e => by simp at hu; subst hu; cases e) ⟨_, rfl, _, rfl, rfl, rfl⟩
  clear F0 F1 hG9 hb9
  show Leaves Try.prog _ A9.tmps _ A9.defers _ w9'
  rw [hdf]
  refine leaves_cons (f := 65) (args := #[.pointer (some ⟨b5, 0, none⟩), .pointer (some ⟨b6, 0, none⟩)]) (by simp) (by simp [go_sem]) ?_
  refine (times_catch b5 b6 n9 ao9 k9 c9 [] _ hne g0 g1 g2 z0 z1 z2).mono ?_
  rintro e u' w'' ⟨rfl, rfl, rfl⟩
  simp only [settle, List.dropWhile, Leaves]
  obtain ⟨_, _, hcr, hfr⟩ := box_st (F2.box 2 rfl)
  have hRr := hfr
  obtain ⟨r_p0, r_q0, _, rfl, _r_n0, r_p1, r_q1, _, rfl, _r_n1, _, rfl, _, rfl⟩ := hfr
  have cr0 := hcr 0 (by simp)
  have cr1 := hcr 1 (by simp)
  have cr2 := hcr 2 (by simp)
  have cr3 := hcr 3 (by simp)
  have cr4 := hcr 4 (by simp)
  simp only [List.getD_cons_zero, List.getD_cons_succ] at cr0 cr1 cr2 cr3 cr4
  clear hcr
  obtain ⟨d0, d1, e0, e1, hD⟩ := box_num (F2.box 1 rfl)
  obtain ⟨_, _, hcq, hfq⟩ := box_st (F2.box 0 rfl)
  have hRq := hfq
  obtain ⟨_, rfl, _, rfl⟩ := hfq
  have cq0 := hcq 0 (by simp)
  simp only [List.getD_cons_zero] at cq0
  clear hcq
  have t6 := hta 6 rfl
  have t7 := hta 7 rfl
  have t8 := hta 8 rfl
  refine ⟨.tuple #[.agg #[r_p0, r_q0, r_p1, r_q1, .bool false], .agg #[d0, d1], .int .i64 6], ?_, _, rfl, F2.below, _, _, _, rfl, ⟨_, rfl, hRr⟩, hD, rfl⟩
  exact times_results t6 t7 t8 cr0 cr1 cr2 cr3 cr4 e0 e1 cq0
 ·exact q_zeroInt hp (free_of rfl) trivial (fun w => Num.zero w)
 ·exact q_storeOldSt (off := 0) (fs := [.n 0, .n 0, .v (.bool false)]) (gs := [.n 0, .n 0, .v (.bool false)]) (fs' := [.n 0, .n 0, .v (.bool false)]) hp (mq 2 rfl) rfl rfl rfl size_api_Point rfl (sqo 6) (sq_in 3 rfl rfl (by simp) rfl (fun v w h => False.elim h)) (fun _ _ => trivial) (newik_ne rfl)
 ·exact q_storeOldInt hp (mq 1 rfl) rfl rfl (sqo 7) (sq_in 4 rfl rfl (by simp) rfl (fun v w h => intV_num h)) (fun _ _ => trivial) (newik_ne rfl)
 ·exact q_storeOldSt (off := 0) (fs := [.v (.int .i64 0)]) (gs := [.v (.int .i64 0)]) (fs' := [.v (.int .i64 0)]) hp (mq 0 rfl) rfl rfl rfl size_api_Errno rfl (sqo 8) (sq_const (fun _ => fitv_is rfl rfl)) (fun _ _ => trivial) (newik_ne rfl)
 intro L vs w9 nb hL hC hn E9
 exact False.elim (hC 3 (by simp))

set_option maxRecDepth 100000 in
set_option maxHeartbeats 4000000 in
theorem exTimes10 {w : World} {v v' u : Value} {A B M n : Int} {P : Pt} (h : (Fq.st [.n A, .n B, .n M]).P v w) (h' : Num w v' n) (g : (Fq.pt P).P u w) (hM : ab M < pw 5) (hA : ab A < pw 5) (hB : ab B < pw 5) (hn : ab n < pw 20) (hP : ab P.x < pw 5 ∧ ab P.y < pw 5) (ht : onB A B M P.x P.y P.i = true) {T : Pt × Int} (hT : timesP A M P n = T) (hneg :  n < 0) (hd :  T.2 = 0) :
  Calls Try.prog 39 #[v, v', u] w fun e w' => ∃ v', e = .returned v' ∧ Below w.heap.size w w' ∧ (Fq.tup3 (Fq.pt T.1) (Fq.num 0) (Fq.is (.int .i64 0))).P v' w' := by
 replace hM := hidd hM
 replace hA := hidd hA
 replace hB := hidd hB
 replace hn := hidd hn
 replace hP := hidd hP
 replace ht := hidd ht
 obtain ⟨T, dT⟩ := T
 have HPO := hidd (onB_ok ht.out).1
 have T1 : Hid ( cmpI n 0 < 0) := cmpIqlt.2 hneg
 unfold timesP at hT
 rw [if_pos hneg] at hT
 have HT := hidd hT
 clear hneg hT
 have hd0 : dT = 0 := hd
 subst hd0
 clear hd
 obtain ⟨O, hO⟩ : ∃ O, O = oppP M P := ⟨_, rfl⟩
 have HOO : Hid (O.Ok M) := by rw [hO]; exact oppP_ok HPO.out
 have HO := hidd hO
 have HT2 : Hid (xjP A M O n.natAbs (nbits n) 0 = (T, 0)) := by show _ = _; rw [hO]; exact HT.out
 clear hO HT
 obtain ⟨_, rfl, hf0⟩ := h
 have hF0 := hf0
 obtain ⟨y0_p0, y0_q0, _, rfl, _y0_n0, y0_p1, y0_q1, _, rfl, _y0_n1, y0_p2, y0_q2, _, rfl, _y0_n2, rfl⟩ := hf0
 obtain ⟨n1, ao1, k1, c1, rfl⟩ := h'.parts
 obtain ⟨_, rfl, hf2⟩ := g
 have hF2 := hf2
 obtain ⟨y2_p0, y2_q0, _, rfl, _y2_n0, y2_p1, y2_q1, _, rfl, _y2_n1, _, rfl, _, rfl⟩ := hf2
 obtain ⟨w1, b1, hw1, hb1, hs1, E⟩ := fr_start w (F := Fq.st [.n A, .n B, .n M]) (us := [y0_p0, y0_q0, y0_p1, y0_q1, y0_p2, y0_q2]) 31 rfl (by simp) (hF0.tame) (show (Fq.st [.n A, .n B, .n M]).P _ w from ⟨_, rfl, hF0⟩)
 obtain ⟨w2, b2, hw2, hb2, hs2, E⟩ := fr_more E hs1 (F := Fq.num n) (us := [.bool n1, .slice ao1 k1 c1]) 29 rfl (by simp) (tame_int _ _ _ _) (h'.mono E.below)
 obtain ⟨w3, b3, hw3, hb3, hs3, E⟩ := fr_more E hs2 (F := Fq.st [.n P.x, .n P.y, .v (.bool P.i)]) (us := [y2_p0, y2_q0, y2_p1, y2_q1, .bool P.i]) 37 rfl (by simp) (hF2.tame) ((Fq.st [.n P.x, .n P.y, .v (.bool P.i)]).mono (show (Fq.st [.n P.x, .n P.y, .v (.bool P.i)]).P _ w from ⟨_, rfl, hF2⟩) E.below)
 obtain ⟨w4, b4, hw4, hb4, hs4, E⟩ := fr_more E hs3 (F := Fq.st [.n 0, .n 0, .v (.bool false)]) (us := [.bool false, .slice none 0 0, .bool false, .slice none 0 0, .bool false]) 37 rfl (by simp) ((Fits.tame (fits0_api_Point w))) (fits0P_api_Point _)
 obtain ⟨w5, b5, hw5, hb5, hs5, E⟩ := fr_more E hs4 (F := Fq.num 0) (us := [.bool false, .slice none 0 0]) 29 rfl (by simp) (tame_int _ _ _ _) (Num.zero _)
 obtain ⟨w6, b6, hw6, hb6, hs6, E⟩ := fr_more E hs5 (F := Fq.st [.v (.int .i64 0)]) (us := [.int .i64 0]) 39 rfl (by simp) ((Fits.tame (fits0_api_Errno w))) (fits0P_api_Errno _)
 go_enter_defers Try.func39, Try.ntmps39
 go_upto_region 1 with (fail)
 rw [← hw1]
 rw [← hw2]
 rw [← hw3]
 rw [← hw4]
 rw [← hw5]
 rw [← hw6]
 rw [← hb6]
 rw [← hb5]
 rw [← hb4]
 rw [← hb3]
 rw [← hb2]
 rw [← hb1]
 clear hw1 hw2 hw3 hw4 hw5 hw6 hb1 hb2 hb3 hb4 hb5 hb6 hs6 hs1 hs2 hs3 hs4 hs5
 refine region_fr (C := [Fq.st [.n A, .n B, .n M], Fq.st [.n P.x, .n P.y, .v (.bool P.i)], Fq.is (.bool true), Fq.is (.bool false)]) (ks := [none, none, none, none, none, none]) (new := []) E rfl (by kernel_rfl) rfl rfl (fun hp => ⟨?_, ?_, ?_, ?_, trivial⟩) ?_
 ·exact q_loadSt (off := 0) (l := 6) (fs := [.n A, .n B, .n M]) (gs := [.n A, .n B, .n M]) hp (free_of rfl) trivial (mq 5 rfl) (.inl rfl) rfl row_api_Mod rfl (sqo 3) (fun v w h => h)
 ·exact q_loadSt (off := 0) (l := 5) (fs := [.n P.x, .n P.y, .v (.bool P.i)]) (gs := [.n P.x, .n P.y, .v (.bool P.i)]) hp (free_of rfl) trivial (mq 3 rfl) (.inl rfl) rfl row_api_Point rfl (sqo 5) (fun v w h => h)
 ·exact q_call2 (F := (Fq.st [.n A, .n B, .n M]).P) (G := (Fq.st [.n P.x, .n P.y, .v (.bool P.i)]).P) hp (free_of rfl) trivial (enq_f_algorist_point_On) (sqi 0) (sqi 1) (fun v v' w h h' => exOn h h' hM.out hA.out hB.out hP.out.1 hP.out.2 ht.out)
 ·exact q_one (F := fun v _ => v = .bool true) hp (free_of rfl) trivial (sqi 2) (fun ρ w _ h => ⟨.bool false, by simp [execOp, go_sem, h], rfl⟩)
 intro L vs w7 nb hL hC hn E7
 have e2 : vs 2 = .bool true := hC 2 (by simp)
 have e3 : vs 3 = .bool false := hC 3 (by simp)
 have E : Fr w [(b6, 1, Fq.st [.v (.int .i64 0)]), (b5, 2, Fq.num 0), (b4, 5, Fq.st [.n 0, .n 0, .v (.bool false)]), (b3, 5, Fq.st [.n P.x, .n P.y, .v (.bool P.i)]), (b2, 2, Fq.num n), (b1, 6, Fq.st [.n A, .n B, .n M])] w7 := E7
 rw [lay_all hL]
 simp only [putAll, dstOf, List.length_cons, List.length_nil, Nat.zero_add, Nat.reduceAdd, List.getElem?_toArray, List.getElem?_cons_zero, List.getElem?_cons_succ, Option.bind_some, Act.put, List.setIfInBounds_toArray, List.set_cons_succ, List.set_cons_zero]
 rw [e2, e3]
 generalize vs 0 = u7_0
 generalize vs 1 = u7_1
 clear e2 e3 hC hn E7 hL vs L nb
 have hmf := make_func
 go_upto_region 4 with (fail)
 clear hmf
 refine region_fr (C := [Fq.num n, Fq.is (.int .i64 (cmpI n 0)), Fq.is (.bool true)]) (ks := [none, none, none, none, none, none]) (new := []) E rfl (by kernel_rfl) rfl rfl (fun hp => ⟨?_, ?_, ?_, trivial⟩) ?_
 ·exact q_loadInt (off := 0) hp (free_of rfl) trivial (mq 4 rfl) (.inl rfl) (Nat.le_of_ble_eq_true rfl) (sqo 4) (fun us w hl h => ld_num hl h)
 ·exact q_call1 (F := (Fq.num n).P) hp (free_of rfl) trivial (enq_Sign) (sqi 0) (fun v w h => exSign h)
 ·exact q_one (F := fun v _ => v = .int .i64 (cmpI n 0)) hp (free_of rfl) trivial (sqi 1) (fun ρ w hc h => ⟨.bool true, by simp [execOp, go_sem, h, hc, T1.out], rfl⟩)
 intro L vs w8 nb hL hC hn E8
 have e1 : vs 1 = .int .i64 (cmpI n 0) := hC 1 (by simp)
 have e2 : vs 2 = .bool true := hC 2 (by simp)
 have E : Fr w [(b6, 1, Fq.st [.v (.int .i64 0)]), (b5, 2, Fq.num 0), (b4, 5, Fq.st [.n 0, .n 0, .v (.bool false)]), (b3, 5, Fq.st [.n P.x, .n P.y, .v (.bool P.i)]), (b2, 2, Fq.num n), (b1, 6, Fq.st [.n A, .n B, .n M])] w8 := E8
 rw [lay_all hL]
 simp only [putAll, dstOf, List.length_cons, List.length_nil, Nat.zero_add, Nat.reduceAdd, List.getElem?_toArray, List.getElem?_cons_zero, List.getElem?_cons_succ, Option.bind_some, Act.put, List.setIfInBounds_toArray, List.set_cons_succ, List.set_cons_zero]
 rw [e1, e2]
 generalize vs 0 = u8_0
 clear e1 e2 hC hn E8 hL vs L nb
 clear T1
 go_upto_region 5 with (fail)
 refine region_fr (C := [Fq.st [.n A, .n B, .n M], Fq.st [.n P.x, .n P.y, .v (.bool P.i)], Fq.st [.n O.x, .n O.y, .v (.bool O.i)], Fq.any]) (ks := [none, none, none, some (3, Fq.st [.n O.x, .n O.y, .v (.bool O.i)]), none, none]) (new := []) E rfl (by kernel_rfl) rfl rfl (fun hp => ⟨?_, ?_, ?_, ?_, trivial⟩) ?_
 ·exact q_loadSt (off := 0) (l := 6) (fs := [.n A, .n B, .n M]) (gs := [.n A, .n B, .n M]) hp (free_of rfl) trivial (mq 5 rfl) (.inl rfl) rfl row_api_Mod rfl (sqo 3) (fun v w h => h)
 ·exact q_loadSt (off := 0) (l := 5) (fs := [.n P.x, .n P.y, .v (.bool P.i)]) (gs := [.n P.x, .n P.y, .v (.bool P.i)]) hp (free_of rfl) trivial (mq 3 rfl) (.inr rfl) rfl row_api_Point rfl (sqo 5) (fun v w h => h)
 ·exact q_call2 (F := (Fq.st [.n A, .n B, .n M]).P) (G := (Fq.st [.n P.x, .n P.y, .v (.bool P.i)]).P) hp (free_of rfl) trivial (enq_f_algorist_point_opposite) (sqi 0) (sqi 1) (fun v v' w h h' => (by rw [HO.out]; exact exOppP h h' hM.out HPO.out))
 ·exact q_storeOldSt (off := 0) (fs := [.n P.x, .n P.y, .v (.bool P.i)]) (gs := [.n O.x, .n O.y, .v (.bool O.i)]) (fs' := [.n O.x, .n O.y, .v (.bool O.i)]) hp (mq 3 rfl) rfl rfl rfl size_api_Point rfl (sqo 5) (sq_in 2 rfl rfl (by simp) rfl (fun v w h => fitv_st h)) (fun _ _ => trivial) (newik_ne rfl)
 intro L vs w9 nb hL hC hn E9
 have E : Fr w [(b6, 1, Fq.st [.v (.int .i64 0)]), (b5, 2, Fq.num 0), (b4, 5, Fq.st [.n 0, .n 0, .v (.bool false)]), (b3, 5, Fq.st [.n O.x, .n O.y, .v (.bool O.i)]), (b2, 2, Fq.num n), (b1, 6, Fq.st [.n A, .n B, .n M])] w9 := E9
 rw [lay_all hL]
 simp only [putAll, dstOf, List.length_cons, List.length_nil, Nat.zero_add, Nat.reduceAdd, List.getElem?_toArray, List.getElem?_cons_zero, List.getElem?_cons_succ, Option.bind_some, Act.put, List.setIfInBounds_toArray, List.set_cons_succ, List.set_cons_zero]
 generalize vs 0 = u9_0
 generalize vs 1 = u9_1
 generalize vs 2 = u9_2
 clear  hC hn E9 hL vs L nb
 go_upto_region 6 with (fail)
 refine region_fr (C := [Fq.st [.n A, .n B, .n M], Fq.num n, Fq.st [.n O.x, .n O.y, .v (.bool O.i)], Fq.st [.n T.x, .n T.y, .v (.bool T.i)], Fq.num 0, Fq.any, Fq.any, Fq.any]) (ks := [some (7, Fq.st [.v (.int .i64 0)]), some (6, Fq.num 0), some (5, Fq.st [.n T.x, .n T.y, .v (.bool T.i)]), none, none, none]) (new := []) E rfl (by kernel_rfl) rfl rfl (fun hp => ⟨?_, ?_, ?_, ?_, ?_, ?_, ?_, ?_, trivial⟩) ?_
 ·exact q_loadSt (off := 0) (l := 6) (fs := [.n A, .n B, .n M]) (gs := [.n A, .n B, .n M]) hp (free_of rfl) trivial (mq 5 rfl) (.inl rfl) rfl row_api_Mod rfl (sqo 3) (fun v w h => h)
 ·exact q_loadInt (off := 0) hp (free_of rfl) trivial (mq 4 rfl) (.inl rfl) (Nat.le_of_ble_eq_true rfl) (sqo 4) (fun us w hl h => ld_num hl h)
 ·exact q_loadSt (off := 0) (l := 5) (fs := [.n O.x, .n O.y, .v (.bool O.i)]) (gs := [.n O.x, .n O.y, .v (.bool O.i)]) hp (free_of rfl) trivial (mq 3 rfl) (.inl rfl) rfl row_api_Point rfl (sqo 5) (fun v w h => h)
 ·exact q_call3 (F := (Fq.st [.n A, .n B, .n M]).P) (G := (Fq.num n).P) (F3 := (Fq.st [.n O.x, .n O.y, .v (.bool O.i)]).P) hp (free_of rfl) trivial (enq_f_algorist_point_multiple) (sqi 0) (sqi 1) (sqi 2) (fun v v' u w h h' g => (exMultiple h h' g hM.out hA.out hn.out HOO.out HT2.out).mono fun e w' hh => by
   obtain ⟨hb, hh⟩ := hh
   rcases hh with ⟨_, v2, he, hp9⟩ | ⟨hd9, _⟩
   ·exact ⟨v2, he, hb, hp9⟩
   ·exact absurd rfl hd9)
 ·exact q_zeroInt hp (free_of rfl) trivial (fun w => Num.zero w)
 ·exact q_storeOldSt (off := 0) (fs := [.n 0, .n 0, .v (.bool false)]) (gs := [.n T.x, .n T.y, .v (.bool T.i)]) (fs' := [.n T.x, .n T.y, .v (.bool T.i)]) hp (mq 2 rfl) rfl rfl rfl size_api_Point rfl (sqo 6) (sq_in 3 rfl rfl (by simp) rfl (fun v w h => fitv_st h)) (fun _ _ => trivial) (newik_ne rfl)
 ·exact q_storeOldInt hp (mq 1 rfl) rfl rfl (sqo 7) (sq_in 4 rfl rfl (by simp) rfl (fun v w h => intV_num h)) (fun _ _ => trivial) (newik_ne rfl)
 ·exact q_storeOldSt (off := 0) (fs := [.v (.int .i64 0)]) (gs := [.v (.int .i64 0)]) (fs' := [.v (.int .i64 0)]) hp (mq 0 rfl) rfl rfl rfl size_api_Errno rfl (sqo 8) (sq_const (fun _ => fitv_is rfl rfl)) (fun _ _ => trivial) (newik_ne rfl)
 intro L vs w10 nb hL hC hn E10
 have E : Fr w [(b6, 1, Fq.st [.v (.int .i64 0)]), (b5, 2, Fq.num 0), (b4, 5, Fq.st [.n T.x, .n T.y, .v (.bool T.i)]), (b3, 5, Fq.st [.n O.x, .n O.y, .v (.bool O.i)]), (b2, 2, Fq.num n), (b1, 6, Fq.st [.n A, .n B, .n M])] w10 := E10
 rw [lay_all hL]
 simp only [putAll, dstOf, List.length_cons, List.length_nil, Nat.zero_add, Nat.reduceAdd, List.getElem?_toArray, List.getElem?_cons_zero, List.getElem?_cons_succ, Option.bind_some, Act.put, List.setIfInBounds_toArray, List.set_cons_succ, List.set_cons_zero]
 generalize vs 0 = u10_0
 generalize vs 1 = u10_1
 generalize vs 2 = u10_2
 generalize vs 3 = u10_3
 generalize vs 4 = u10_4
 clear  hC hn E10 hL vs L nb
 obtain ⟨_, _, hcr, hfr⟩ := box_st (E.box 2 rfl)
 have hRr := hfr
 obtain ⟨r_p0, r_q0, _, rfl, _r_n0, r_p1, r_q1, _, rfl, _r_n1, _, rfl, _, rfl⟩ := hfr
 have cr0 := hcr 0 (by simp)
 have cr1 := hcr 1 (by simp)
 have cr2 := hcr 2 (by simp)
 have cr3 := hcr 3 (by simp)
 have cr4 := hcr 4 (by simp)
 simp only [List.getD_cons_zero, List.getD_cons_succ] at cr0 cr1 cr2 cr3 cr4
 clear hcr
 obtain ⟨d0, d1, e0, e1, hD⟩ := box_num (E.box 1 rfl)
 obtain ⟨_, _, hcq, hfq⟩ := box_st (E.box 0 rfl)
 have hRq := hfq
 obtain ⟨_, rfl, _, rfl⟩ := hfq
 have cq0 := hcq 0 (by simp)
 simp only [List.getD_cons_zero] at cq0
 clear hcq
 clear hM hA hB hn hP
 clear ht HPO HOO HO HT2
 go_wp2
 refine leaves_cons (f := 65) (args := #[.pointer (some ⟨b5, 0, none⟩), .pointer (some ⟨b6, 0, none⟩)]) (by simp) (by simp [go_sem]) ?_
 refine (times_idle b5 b6 _).mono ?_
 rintro e u' w'' ⟨rfl, rfl, rfl⟩
 simp only [settle, Leaves]
 refine ⟨.tuple #[.agg #[r_p0, r_q0, r_p1, r_q1, .bool T.i], .agg #[d0, d1], .int .i64 0], ?_, _, rfl, E.below, _, _, _, rfl, ⟨_, rfl, hRr⟩, hD, rfl⟩
 simp [results, Try.results39, go_sem, cr0, cr1, cr2, cr3, cr4, e0, e1, cq0]

set_option maxRecDepth 100000 in
set_option maxHeartbeats 4000000 in
theorem exTimes11 {w : World} {v v' u : Value} {A B M n : Int} {P : Pt} (h : (Fq.st [.n A, .n B, .n M]).P v w) (h' : Num w v' n) (g : (Fq.pt P).P u w) (hM : ab M < pw 5) (hA : ab A < pw 5) (hB : ab B < pw 5) (hn : ab n < pw 20) (hP : ab P.x < pw 5 ∧ ab P.y < pw 5) (ht : onB A B M P.x P.y P.i = true) {T : Pt × Int} (hT : timesP A M P n = T) (hneg :  n < 0) (hd : ¬ T.2 = 0) :
  Calls Try.prog 39 #[v, v', u] w fun e w' => ∃ v', e = .returned v' ∧ Below w.heap.size w w' ∧ (Fq.tup3 (Fq.pt ⟨0, 0, false⟩) (Fq.num T.2) (Fq.is (.int .i64 6))).P v' w' := by
 replace hM := hidd hM
 replace hA := hidd hA
 replace hB := hidd hB
 replace hn := hidd hn
 replace hP := hidd hP
 replace ht := hidd ht
 obtain ⟨T, dT⟩ := T
 have HPO := hidd (onB_ok ht.out).1
 have T1 : Hid ( cmpI n 0 < 0) := cmpIqlt.2 hneg
 unfold timesP at hT
 rw [if_pos hneg] at hT
 have HT := hidd hT
 clear hneg hT
 have HD := hidd hd
 clear hd
 obtain ⟨O, hO⟩ : ∃ O, O = oppP M P := ⟨_, rfl⟩
 have HOO : Hid (O.Ok M) := by rw [hO]; exact oppP_ok HPO.out
 have HO := hidd hO
 have HT2 : Hid (xjP A M O n.natAbs (nbits n) 0 = (T, dT)) := by show _ = _; rw [hO]; exact HT.out
 clear hO HT
 obtain ⟨_, rfl, hf0⟩ := h
 have hF0 := hf0
 obtain ⟨y0_p0, y0_q0, _, rfl, _y0_n0, y0_p1, y0_q1, _, rfl, _y0_n1, y0_p2, y0_q2, _, rfl, _y0_n2, rfl⟩ := hf0
 obtain ⟨n1, ao1, k1, c1, rfl⟩ := h'.parts
 obtain ⟨_, rfl, hf2⟩ := g
 have hF2 := hf2
 obtain ⟨y2_p0, y2_q0, _, rfl, _y2_n0, y2_p1, y2_q1, _, rfl, _y2_n1, _, rfl, _, rfl⟩ := hf2
 obtain ⟨w1, b1, hw1, hb1, hs1, E⟩ := fr_start w (F := Fq.st [.n A, .n B, .n M]) (us := [y0_p0, y0_q0, y0_p1, y0_q1, y0_p2, y0_q2]) 31 rfl (by simp) (hF0.tame) (show (Fq.st [.n A, .n B, .n M]).P _ w from ⟨_, rfl, hF0⟩)
 obtain ⟨w2, b2, hw2, hb2, hs2, E⟩ := fr_more E hs1 (F := Fq.num n) (us := [.bool n1, .slice ao1 k1 c1]) 29 rfl (by simp) (tame_int _ _ _ _) (h'.mono E.below)
 obtain ⟨w3, b3, hw3, hb3, hs3, E⟩ := fr_more E hs2 (F := Fq.st [.n P.x, .n P.y, .v (.bool P.i)]) (us := [y2_p0, y2_q0, y2_p1, y2_q1, .bool P.i]) 37 rfl (by simp) (hF2.tame) ((Fq.st [.n P.x, .n P.y, .v (.bool P.i)]).mono (show (Fq.st [.n P.x, .n P.y, .v (.bool P.i)]).P _ w from ⟨_, rfl, hF2⟩) E.below)
 obtain ⟨w4, b4, hw4, hb4, hs4, E⟩ := fr_more E hs3 (F := Fq.st [.n 0, .n 0, .v (.bool false)]) (us := [.bool false, .slice none 0 0, .bool false, .slice none 0 0, .bool false]) 37 rfl (by simp) ((Fits.tame (fits0_api_Point w))) (fits0P_api_Point _)
 obtain ⟨w5, b5, hw5, hb5, hs5, E⟩ := fr_more E hs4 (F := Fq.num 0) (us := [.bool false, .slice none 0 0]) 29 rfl (by simp) (tame_int _ _ _ _) (Num.zero _)
 obtain ⟨w6, b6, hw6, hb6, hs6, E⟩ := fr_more E hs5 (F := Fq.st [.v (.int .i64 0)]) (us := [.int .i64 0]) 39 rfl (by simp) ((Fits.tame (fits0_api_Errno w))) (fits0P_api_Errno _)
 go_enter_defers Try.func39, Try.ntmps39
 go_upto_region 1 with (fail)
 rw [← hw1]
 rw [← hw2]
 rw [← hw3]
 rw [← hw4]
 rw [← hw5]
 rw [← hw6]
 rw [← hb6]
 rw [← hb5]
 rw [← hb4]
 rw [← hb3]
 rw [← hb2]
 rw [← hb1]
 clear hw1 hw2 hw3 hw4 hw5 hw6 hb1 hb2 hb3 hb4 hb5 hb6 hs6 hs1 hs2 hs3 hs4 hs5
 refine region_fr (C := [Fq.st [.n A, .n B, .n M], Fq.st [.n P.x, .n P.y, .v (.bool P.i)], Fq.is (.bool true), Fq.is (.bool false)]) (ks := [none, none, none, none, none, none]) (new := []) E rfl (by kernel_rfl) rfl rfl (fun hp => ⟨?_, ?_, ?_, ?_, trivial⟩) ?_
 ·exact q_loadSt (off := 0) (l := 6) (fs := [.n A, .n B, .n M]) (gs := [.n A, .n B, .n M]) hp (free_of rfl) trivial (mq 5 rfl) (.inl rfl) rfl row_api_Mod rfl (sqo 3) (fun v w h => h)
 ·exact q_loadSt (off := 0) (l := 5) (fs := [.n P.x, .n P.y, .v (.bool P.i)]) (gs := [.n P.x, .n P.y, .v (.bool P.i)]) hp (free_of rfl) trivial (mq 3 rfl) (.inl rfl) rfl row_api_Point rfl (sqo 5) (fun v w h => h)
 ·exact q_call2 (F := (Fq.st [.n A, .n B, .n M]).P) (G := (Fq.st [.n P.x, .n P.y, .v (.bool P.i)]).P) hp (free_of rfl) trivial (enq_f_algorist_point_On) (sqi 0) (sqi 1) (fun v v' w h h' => exOn h h' hM.out hA.out hB.out hP.out.1 hP.out.2 ht.out)
 ·exact q_one (F := fun v _ => v = .bool true) hp (free_of rfl) trivial (sqi 2) (fun ρ w _ h => ⟨.bool false, by simp [execOp, go_sem, h], rfl⟩)
 intro L vs w7 nb hL hC hn E7
 have e2 : vs 2 = .bool true := hC 2 (by simp)
 have e3 : vs 3 = .bool false := hC 3 (by simp)
 have E : Fr w [(b6, 1, Fq.st [.v (.int .i64 0)]), (b5, 2, Fq.num 0), (b4, 5, Fq.st [.n 0, .n 0, .v (.bool false)]), (b3, 5, Fq.st [.n P.x, .n P.y, .v (.bool P.i)]), (b2, 2, Fq.num n), (b1, 6, Fq.st [.n A, .n B, .n M])] w7 := E7
 rw [lay_all hL]
 simp only [putAll, dstOf, List.length_cons, List.length_nil, Nat.zero_add, Nat.reduceAdd, List.getElem?_toArray, List.getElem?_cons_zero, List.getElem?_cons_succ, Option.bind_some, Act.put, List.setIfInBounds_toArray, List.set_cons_succ, List.set_cons_zero]
 rw [e2, e3]
 generalize vs 0 = u7_0
 generalize vs 1 = u7_1
 clear e2 e3 hC hn E7 hL vs L nb
 have hmf := make_func
 go_upto_region 4 with (fail)
 clear hmf
 refine region_fr (C := [Fq.num n, Fq.is (.int .i64 (cmpI n 0)), Fq.is (.bool true)]) (ks := [none, none, none, none, none, none]) (new := []) E rfl (by kernel_rfl) rfl rfl (fun hp => ⟨?_, ?_, ?_, trivial⟩) ?_
 ·exact q_loadInt (off := 0) hp (free_of rfl) trivial (mq 4 rfl) (.inl rfl) (Nat.le_of_ble_eq_true rfl) (sqo 4) (fun us w hl h => ld_num hl h)
 ·exact q_call1 (F := (Fq.num n).P) hp (free_of rfl) trivial (enq_Sign) (sqi 0) (fun v w h => exSign h)
 ·exact q_one (F := fun v _ => v = .int .i64 (cmpI n 0)) hp (free_of rfl) trivial (sqi 1) (fun ρ w hc h => ⟨.bool true, by simp [execOp, go_sem, h, hc, T1.out], rfl⟩)
 intro L vs w8 nb hL hC hn E8
 have e1 : vs 1 = .int .i64 (cmpI n 0) := hC 1 (by simp)
 have e2 : vs 2 = .bool true := hC 2 (by simp)
 have E : Fr w [(b6, 1, Fq.st [.v (.int .i64 0)]), (b5, 2, Fq.num 0), (b4, 5, Fq.st [.n 0, .n 0, .v (.bool false)]), (b3, 5, Fq.st [.n P.x, .n P.y, .v (.bool P.i)]), (b2, 2, Fq.num n), (b1, 6, Fq.st [.n A, .n B, .n M])] w8 := E8
 rw [lay_all hL]
 simp only [putAll, dstOf, List.length_cons, List.length_nil, Nat.zero_add, Nat.reduceAdd, List.getElem?_toArray, List.getElem?_cons_zero, List.getElem?_cons_succ, Option.bind_some, Act.put, List.setIfInBounds_toArray, List.set_cons_succ, List.set_cons_zero]
 rw [e1, e2]
 generalize vs 0 = u8_0
 clear e1 e2 hC hn E8 hL vs L nb
 clear T1
 go_upto_region 5 with (fail)
 refine region_fr (C := [Fq.st [.n A, .n B, .n M], Fq.st [.n P.x, .n P.y, .v (.bool P.i)], Fq.st [.n O.x, .n O.y, .v (.bool O.i)], Fq.any]) (ks := [none, none, none, some (3, Fq.st [.n O.x, .n O.y, .v (.bool O.i)]), none, none]) (new := []) E rfl (by kernel_rfl) rfl rfl (fun hp => ⟨?_, ?_, ?_, ?_, trivial⟩) ?_
 ·exact q_loadSt (off := 0) (l := 6) (fs := [.n A, .n B, .n M]) (gs := [.n A, .n B, .n M]) hp (free_of rfl) trivial (mq 5 rfl) (.inl rfl) rfl row_api_Mod rfl (sqo 3) (fun v w h => h)
 ·exact q_loadSt (off := 0) (l := 5) (fs := [.n P.x, .n P.y, .v (.bool P.i)]) (gs := [.n P.x, .n P.y, .v (.bool P.i)]) hp (free_of rfl) trivial (mq 3 rfl) (.inr rfl) rfl row_api_Point rfl (sqo 5) (fun v w h => h)
 ·exact q_call2 (F := (Fq.st [.n A, .n B, .n M]).P) (G := (Fq.st [.n P.x, .n P.y, .v (.bool P.i)]).P) hp (free_of rfl) trivial (enq_f_algorist_point_opposite) (sqi 0) (sqi 1) (fun v v' w h h' => (by rw [HO.out]; exact exOppP h h' hM.out HPO.out))
 ·exact q_storeOldSt (off := 0) (fs := [.n P.x, .n P.y, .v (.bool P.i)]) (gs := [.n O.x, .n O.y, .v (.bool O.i)]) (fs' := [.n O.x, .n O.y, .v (.bool O.i)]) hp (mq 3 rfl) rfl rfl rfl size_api_Point rfl (sqo 5) (sq_in 2 rfl rfl (by simp) rfl (fun v w h => fitv_st h)) (fun _ _ => trivial) (newik_ne rfl)
 intro L vs w9 nb hL hC hn E9
 have E : Fr w [(b6, 1, Fq.st [.v (.int .i64 0)]), (b5, 2, Fq.num 0), (b4, 5, Fq.st [.n 0, .n 0, .v (.bool false)]), (b3, 5, Fq.st [.n O.x, .n O.y, .v (.bool O.i)]), (b2, 2, Fq.num n), (b1, 6, Fq.st [.n A, .n B, .n M])] w9 := E9
 rw [lay_all hL]
 simp only [putAll, dstOf, List.length_cons, List.length_nil, Nat.zero_add, Nat.reduceAdd, List.getElem?_toArray, List.getElem?_cons_zero, List.getElem?_cons_succ, Option.bind_some, Act.put, List.setIfInBounds_toArray, List.set_cons_succ, List.set_cons_zero]
 generalize vs 0 = u9_0
 generalize vs 1 = u9_1
 generalize vs 2 = u9_2
 clear  hC hn E9 hL vs L nb
 go_upto_region 6 with (fail)
 refine region_fr (C := [Fq.st [.n A, .n B, .n M], Fq.num n, Fq.st [.n O.x, .n O.y, .v (.bool O.i)], Fq.pre fun _ => False, Fq.num 0, Fq.any, Fq.any, Fq.any]) (ks := [some (7, Fq.st [.v (.int .i64 0)]), some (6, Fq.num 0), some (5, Fq.st [.n 0, .n 0, .v (.bool false)]), none, none, none]) (new := []) E rfl (by kernel_rfl) rfl rfl (fun hp => ⟨?_, ?_, ?_, ?_, ?_, ?_, ?_, ?_, trivial⟩) ?_
 ·exact q_loadSt (off := 0) (l := 6) (fs := [.n A, .n B, .n M]) (gs := [.n A, .n B, .n M]) hp (free_of rfl) trivial (mq 5 rfl) (.inl rfl) rfl row_api_Mod rfl (sqo 3) (fun v w h => h)
 ·exact q_loadInt (off := 0) hp (free_of rfl) trivial (mq 4 rfl) (.inl rfl) (Nat.le_of_ble_eq_true rfl) (sqo 4) (fun us w hl h => ld_num hl h)
 ·exact q_loadSt (off := 0) (l := 5) (fs := [.n O.x, .n O.y, .v (.bool O.i)]) (gs := [.n O.x, .n O.y, .v (.bool O.i)]) hp (free_of rfl) trivial (mq 3 rfl) (.inl rfl) rfl row_api_Point rfl (sqo 5) (fun v w h => h)
 ·refine q_callP3 (T := PanN dT) (F := (Fq.st [.n A, .n B, .n M]).P) (G := (Fq.num n).P) (F3 := (Fq.st [.n O.x, .n O.y, .v (.bool O.i)]).P) hp (free_of rfl) (enq_f_algorist_point_multiple) (sqi 0) (sqi 1) (sqi 2) (fun v v' u w h h' g => (exMultiple h h' g hM.out hA.out hn.out HOO.out HT2.out).mono fun e w' hh => by
   obtain ⟨hb, hh⟩ := hh
   rcases hh with ⟨hd9, _⟩ | ⟨_, v2, he, hp9⟩
   ·exact absurd hd9 HD.out
   ·exact ⟨_, he, hb, v2, rfl, hp9⟩) ?_
  intro L9 vs9 w9 ch w9' A9 hG9 hb9 hT9 hdf htsz hta
  obtain ⟨v2, rfl, hn9⟩ := hT9
  have F0 := (fr_of_G E hG9 rfl (by simp [plq, oldOf])).later hb9
  obtain ⟨n9, ao9, k9, c9, rfl⟩ := hn9.parts
  obtain ⟨x0, y0, g0, g1, _⟩ := box_num (F0.box 1 rfl)
  obtain ⟨_, _, hcq, hfq⟩ := box_st (F0.box 0 rfl)
  obtain ⟨_, rfl, _, rfl⟩ := hfq
  have g2 := hcq 0 (by simp)
  have z0 : w9'.frozen? ⟨b5, 0, none⟩ = false := box_free (F0.box 1 rfl) 0 (by omega)
  have z1 : w9'.frozen? ⟨b5, 1, none⟩ = false := box_free (F0.box 1 rfl) 1 (by omega)
  have z2 : w9'.frozen? ⟨b6, 0, none⟩ = false := box_free (F0.box 0 rfl) 0 (by omega)
  have hne : b5 ≠ b6 := by have := F0.apart; simp at this; omega
  have F1 := F0.store 1 (F' := Fq.num dT) rfl (us := [.bool n9, .slice ao9 k9 c9]) rfl (tame_int _ _ _ _) hn9
  have F2 := F1.store 0 (F' := Fq.st [.v (.int .i64 6)]) rfl (us := [.int .i64 6]) rfl (fun u hu q e => by simp at hu; subst hu; cases e) ⟨_, rfl, _, rfl, rfl, rfl⟩
  clear F0 F1 hG9 hb9
  show Leaves Try.prog _ A9.tmps _ A9.defers _ w9'
  rw [hdf]
  refine leaves_cons (f := 65) (args := #[.pointer (some ⟨b5, 0, none⟩), .pointer (some ⟨b6, 0, none⟩)]) (by simp) (by simp [go_sem]) ?_
  refine (times_catch b5 b6 n9 ao9 k9 c9 [] _ hne g0 g1 g2 z0 z1 z2).mono ?_
  rintro e u' w'' ⟨rfl, rfl, rfl⟩
  simp only [settle, List.dropWhile, Leaves]
  obtain ⟨_, _, hcr, hfr⟩ := box_st (F2.box 2 rfl)
  have hRr := hfr
  obtain ⟨r_p0, r_q0, _, rfl, _r_n0, r_p1, r_q1, _, rfl, _r_n1, _, rfl, _, rfl⟩ := hfr
  have cr0 := hcr 0 (by simp)
  have cr1 := hcr 1 (by simp)
  have cr2 := hcr 2 (by simp)
  have cr3 := hcr 3 (by simp)
  have cr4 := hcr 4 (by simp)
  simp only [List.getD_cons_zero, List.getD_cons_succ] at cr0 cr1 cr2 cr3 cr4
  clear hcr
  obtain ⟨d0, d1, e0, e1, hD⟩ := box_num (F2.box 1 rfl)
  obtain ⟨_, _, hcq, hfq⟩ := box_st (F2.box 0 rfl)
  have hRq := hfq
  obtain ⟨_, rfl, _, rfl⟩ := hfq
  have cq0 := hcq 0 (by simp)
  simp only [List.getD_cons_zero] at cq0
  clear hcq
  have t6 := hta 6 rfl
  have t7 := hta 7 rfl
  have t8 := hta 8 rfl
  refine ⟨.tuple #[.agg #[r_p0, r_q0, r_p1, r_q1, .bool false], .agg #[d0, d1], .int .i64 6], ?_, _, rfl, F2.below, _, _, _, rfl, ⟨_, rfl, hRr⟩, hD, rfl⟩
  exact times_results t6 t7 t8 cr0 cr1 cr2 cr3 cr4 e0 e1 cq0
 ·exact q_zeroInt hp (free_of rfl) trivial (fun w => Num.zero w)
 ·exact q_storeOldSt (off := 0) (fs := [.n 0, .n 0, .v (.bool false)]) (gs := [.n 0, .n 0, .v (.bool false)]) (fs' := [.n 0, .n 0, .v (.bool false)]) hp (mq 2 rfl) rfl rfl rfl size_api_Point rfl (sqo 6) (sq_in 3 rfl rfl (by simp) rfl (fun v w h => False.elim h)) (fun _ _ => trivial) (newik_ne rfl)
 ·exact q_storeOldInt hp (mq 1 rfl) rfl rfl (sqo 7) (sq_in 4 rfl rfl (by simp) rfl (fun v w h => intV_num h)) (fun _ _ => trivial) (newik_ne rfl)
 ·exact q_storeOldSt (off := 0) (fs := [.v (.int .i64 0)]) (gs := [.v (.int .i64 0)]) (fs' := [.v (.int .i64 0)]) hp (mq 0 rfl) rfl rfl rfl size_api_Errno rfl (sqo 8) (sq_const (fun _ => fitv_is rfl rfl)) (fun _ _ => trivial) (newik_ne rfl)
 intro L vs w9 nb hL hC hn E9
 exact False.elim (hC 3 (by simp))

end Go.Proofs.Ytihhlaagndingaa

namespace Go.Proofs.Ytihhlaagndingaa
open Go Go.RowKit

section
variable {os : List Oper} {Q : Exit → Act → World → Prop} {a : Act} {p : Pq} {B B0 : Nat} {w0 : World}
variable {i s : Nat} {d : Option Tmp} {ty : TypeId} {ps : String} {af : Array Edge} {gd : Option (Nat × Bool)}
end
end Go.Proofs.Ytihhlaagndingaa

namespace Go.Proofs.Ytihhlaagndingaa
open Go Go.RowKit

theorem trial_step {n : Int} {d : Nat} (h : (d : Int) * d ≤ n) (hn : n ≤ 65537) : d ≤ 256 := by
 rcases Nat.lt_or_ge 256 d with h3 | h3
 ·have h4 := Int.mul_le_mul (show (257 : Int) ≤ d by omega) (show (257 : Int) ≤ d by omega) (by omega) (by omega)
  omega
 ·exact h3
theorem trial_end {n : Int} {d : Nat} (h : ¬ (d : Int) * d ≤ n) (h1 : 1 < n) (hc : ∀ c : Nat, 2 ≤ c → c < d → n % c ≠ 0) : Pr n.toNat := by
 refine pr_of (by omega) fun c c2 cc e => ?_
 have h3 : c < d := by
  rcases Nat.lt_or_ge c d with h4 | h4
  ·exact h4
  ·have h5 := Nat.mul_le_mul h4 h4
   have h6 : ((d * d : Nat) : Int) = (d : Int) * d := by rw [Int.natCast_mul]
   omega
 refine hc c c2 h3 ?_
 have h7 : n = (n.toNat : Int) := by omega
 rw [h7]
 exact_mod_cast e
theorem trial_no {n : Int} {d : Nat} (h2 : 2 ≤ d) (h : (d : Int) * d ≤ n) (hd : n % d = 0) : ¬ Pr n.toNat := by
 intro hp
 have h3 : d ∣ n.toNat := by
  refine Int.natCast_dvd_natCast.1 ?_
  have h4 : (n.toNat : Int) = n := by have := Int.mul_nonneg (show 0 ≤ (d : Int) by omega) (show 0 ≤ (d : Int) by omega); omega
  rw [h4]
  exact Int.dvd_of_emod_eq_zero hd
 rcases hp.2 d h3 with e | e
 ·omega
 ·have h5 := Int.mul_le_mul_of_nonneg_left (show (2 : Int) ≤ d by omega) (show 0 ≤ (d : Int) by omega)
  omega
set_option maxRecDepth 20000 in
theorem exIsPrime (w : World) {n : Int} (h0 : 0 ≤ n) (h1 : n ≤ 65537) : Calls Try.prog 28 #[.int .i64 n] w fun e w' => ∃ t : Bool, e = .returned (.bool t) ∧ w' = w ∧ (t = true ↔ Pr n.toNat) := by
 have H0 := hidd h0
 have H1 := hidd h1
 clear h0 h1
 go_enter Try.func28, Try.ntmps28
 go_wp2
 go_loopw [3] (fun vd W => ∃ d : Nat, vd = .int .i64 d ∧ W = w ∧ 2 ≤ d ∧ d ≤ 257 ∧ ∀ c : Nat, 2 ≤ c → c < d → n % c ≠ 0) (fun vd _ => 300 - (intOf vd).toNat)
 case atStart => exact ⟨2, rfl, rfl, by omega, by omega, fun c h1 h2 => by omega⟩
 case round =>
  obtain ⟨d, rfl, rfl, d2, d3, hc⟩ := hrel
  obtain ⟨q, hq⟩ : ∃ q : Int, q = (d : Int) * d := ⟨_, rfl⟩
  have hq2 : 0 ≤ q ∧ q ≤ 66049 := by
   have h4 := Int.mul_le_mul (show (d : Int) ≤ 257 by omega) (show (d : Int) ≤ 257 by omega) (by omega) (by omega)
   have h5 := Int.mul_nonneg (show 0 ≤ (d : Int) by omega) (show 0 ≤ (d : Int) by omega)
   omega
  have g1 : IntKind.i64.wrap ((d : Int) * d) = q := by rw [← hq]; exact IntWalk.i64_in _ (by omega)
  have HQ := hidd hq
  have HC := hidd hc
  have HD := hidd (show 2 ≤ d ∧ d ≤ 257 from ⟨d2, d3⟩)
  by_cases hle : q ≤ n
  ·have g2 : (q ≤ n) = True := eq_true hle
   obtain ⟨z, hz⟩ : ∃ z, z = n % (d : Int) := ⟨_, rfl⟩
   have g3 : n.tmod (d : Int) = z := by rw [hz]; exact tmod_pos H0.out
   have hz2 : 0 ≤ z ∧ z < d := by rw [hz]; exact ⟨Int.emod_nonneg _ (by omega), Int.emod_lt_of_pos _ (by omega)⟩
   have g4 : IntKind.i64.wrap z = z := IntWalk.i64_in _ (by omega)
   have g5 : ¬ (d : Int) = 0 := by omega
   have g6 : ((d : Int) == 0) = false := by simpa using g5
   have g8 : (d == 0) = false := by simp; omega
   have HZ := hidd hz
   have HLE := hidd hle
   by_cases hzz : z = 0
   ·have g7 : (z == 0) = true := by simpa using hzz
    have HN : Hid (¬ Pr n.toNat) := trial_no HD.out.1 (by rw [← HQ.out]; exact hle) (by rw [← HZ.out]; exact hzz)
    clear hq hc d2 d3 hq2 hz hz2 hle hzz
    go_wp2
    refine bodyPost_ret (v := .bool false) (by simp [results, Try.results28, go_sem]) rfl ⟨false, rfl, rfl, by simp [HN.out]⟩
   ·have g7 : (z == 0) = false := by simpa using hzz
    have HZZ := hidd hzz
    have h9 := trial_step (by rw [← hq]; exact hle) H1.out
    have g9 : IntKind.i64.wrap ((d : Int) + 1) = (d : Int) + 1 := IntWalk.i64_in _ (by omega)
    have H9 := hidd h9
    clear hq hc d2 d3 hq2 hz hz2 hle hzz h9
    go_wp2
    go_roundw
    case rel => exact ⟨d + 1, by go_num, trivial, by have := HD.out; omega, by have := H9.out; omega, fun c h1 h2 => by
     rcases Nat.lt_or_ge c d with h | h
     ·exact HC.out c h1 h
     ·rw [show c = d by omega, ← HZ.out]; exact HZZ.out⟩
    case measure => have := H9.out; simp [intOf]; omega
  ·have g2 : (q ≤ n) = False := eq_false hle
   have HE : Hid ((decide (1 < n)) = true ↔ Pr n.toNat) := by
    show _ ↔ _
    rw [decide_eq_true_iff]
    exact ⟨fun h => trial_end (d := d) (by rw [← HQ.out]; exact hle) h HC.out, fun h => by have := h.1; omega⟩
   clear hq hc d2 d3 hq2 hle
   go_wp2
   refine bodyPost_ret (v := .bool (decide (1 < n))) (by simp [results, Try.results28, go_sem]) rfl ⟨_, rfl, rfl, HE.out⟩
theorem exIsPrimeT (w : World) {n : Int} (h0 : 0 ≤ n) (h1 : n ≤ 65537) (h : Pr n.toNat) : Calls Try.prog 28 #[.int .i64 n] w fun e w' => e = .returned (.bool true) ∧ w' = w :=
 (exIsPrime w h0 h1).mono fun e w' ⟨t, he, hw, ht⟩ => ⟨by rw [he, ht.2 h], hw⟩
theorem exIsPrimeF (w : World) {n : Int} (h0 : 0 ≤ n) (h1 : n ≤ 65537) (h : ¬ Pr n.toNat) : Calls Try.prog 28 #[.int .i64 n] w fun e w' => e = .returned (.bool false) ∧ w' = w :=
 (exIsPrime w h0 h1).mono fun e w' ⟨t, he, hw, ht⟩ => ⟨by rw [he]; cases t; rfl; exact absurd (ht.1 rfl) h, hw⟩
theorem exPrime (w : World) {n : Int} {p : Nat} (h0 : 0 ≤ n) (h1 : n ≤ 65535) (hp : Pr p) (hn : n.toNat ≤ p) (hb : p ≤ 65537) (hl : ∀ q, n.toNat ≤ q → q < p → ¬ Pr q) :
  Calls Try.prog 8 #[.int .u16 n] w fun e w' => ∃ v', e = .returned v' ∧ Below w.heap.size w w' ∧ v' = .int .i64 (p : Int) := by
 have g0 : IntKind.i64.wrap n = n := IntWalk.i64_in _ (by omega)
 have H0 := hidd (show 0 ≤ n ∧ n ≤ 65535 from ⟨h0, h1⟩)
 have HP := hidd hp
 have HB := hidd hb
 have HL := hidd hl
 have HN := hidd hn
 clear h0 h1 hp hn hb hl
 go_enter Try.func8, Try.ntmps8
 go_wp2
 go_loopw [3] (fun vp W => ∃ q : Nat, vp = .int .i64 q ∧ W = w ∧ n.toNat ≤ q ∧ q ≤ p) (fun vp _ => 65537 - (intOf vp).toNat)
 case atStart => exact ⟨n.toNat, by have := H0.out; congr 1; omega, rfl, Nat.le_refl _, HN.out⟩
 case round =>
  obtain ⟨q, rfl, rfl, hq, hqp⟩ := hrel
  have hbb := HB.out
  have HQ := hidd hq
  by_cases hpr : Pr q
  ·have he : q = p := by
    rcases Nat.lt_or_ge q p with h | h
    ·exact absurd hpr (HL.out q hq h)
    ·omega
   have HC := exIsPrimeT wr (n := (q : Int)) (by omega) (by omega) hpr
   have HE := hidd he
   clear hpr he hq hqp hbb
   go_wp2_with (first | (go_at_call 28; refine HC.mono ?_; rintro e w2 ⟨rfl, rfl⟩) | fail)
   go_ret
   exact ⟨.int .i64 (q : Int), rfl, Below.refl _ _, by rw [HE.out]⟩
  ·have hne : q < p := by
    rcases Nat.lt_or_ge q p with h | h
    ·exact h
    ·exact absurd (by rw [show q = p by omega]; exact HP.out) hpr
   have HC := exIsPrimeF wr (n := (q : Int)) (by omega) (by omega) hpr
   have HNE := hidd hne
   have g9 : IntKind.i64.wrap ((q : Int) + 1) = (q : Int) + 1 := IntWalk.i64_in _ (by omega)
   clear hpr hne hq hqp hbb
   go_wp2_with (first | (go_at_call 28; refine HC.mono ?_; rintro e w2 ⟨rfl, rfl⟩) | fail)
   go_roundw
   case rel => exact ⟨q + 1, by go_num, trivial, by have := HQ.out; omega, by have := HNE.out; omega⟩
   case measure => have := HNE.out; have := HB.out; simp [intOf]; omega
end Go.Proofs.Ytihhlaagndingaa
