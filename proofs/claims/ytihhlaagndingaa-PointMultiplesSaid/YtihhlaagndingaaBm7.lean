/- Oy, Oz, Oj, Ok, Od, Ni, Nj, Oe, Ol, Sc, Tc. -/
import Derived.Test.YtihhlaagndingaaBm6
namespace Go.Proofs.Ytihhlaagndingaa
open Go Go.RowKit

def invC (D M : Int) : Option Nat := (List.range M.toNat).find? fun u => decide ((D * (u : Int)) % M = 1 % M)
def finC (M x1 y1 x2 N D : Int) : Pt × Int := if D = 0 then (⟨0, 0, true⟩, 0) else match invC D M with
 | some u => (⟨((N * u) % M * ((N * u) % M) - (x1 + x2)) % M, ((N * u) % M * (x1 - ((N * u) % M * ((N * u) % M) - (x1 + x2)) % M) - y1) % M, false⟩, 0)
 | none => (⟨0, 0, false⟩, (Int.gcd D M : Int))
theorem finC_eq {M x1 y1 x2 N D : Int} (hM : 0 < M) : finP M x1 y1 x2 N D = finC M x1 y1 x2 N D := by
 unfold finP finC
 by_cases h0 : D = 0
 ·rw [if_pos h0, if_pos h0]
 ·rw [if_neg h0, if_neg h0]
  cases hi : invC D M with
  | some u =>
   have h1 := List.find?_some hi
   have h2 := List.mem_of_find?_eq_some hi
   simp only [decide_eq_true_eq] at h1
   simp only [List.mem_range] at h2
   obtain ⟨h3, h4⟩ := inv_uniq hM (show (0 : Int) ≤ (u : Int) by omega) (show (u : Int) < M by omega) h1
   rw [if_pos h3]
   simp only [finX, finY, ← h4]
  | none =>
   have h1 := List.find?_eq_none.1 hi
   have h3 : ¬ Int.gcd D M = 1 := by
    intro h
    have h4 := bez_inv hM h
    have h5 := bez_spec (a := D) hM
    have h6 := bez_lt (a := D) hM
    refine h1 (bezU D M).toNat (by simp only [List.mem_range]; omega) ?_
    rw [show ((bezU D M).toNat : Int) = bezU D M by omega]
    exact decide_eq_true h4
   rw [if_neg h3]
def sumC (A M : Int) (P Q : Pt) : Pt × Int := if P.i then (Q, 0) else if Q.i then (P, 0) else finC M P.x P.y Q.x (slN A P.x P.y Q.x Q.y) (slD M P.x P.y Q.x Q.y)
theorem sumC_eq {A M : Int} {P Q : Pt} (hM : 0 < M) : sumP A M P Q = sumC A M P Q := by
 unfold sumP sumC
 rw [finC_eq hM]
def stepC (A M : Int) (P : Pt) (R : Pt × Int) (b : Bool) : Pt × Int := if R.2 = 0 then (if (sumC A M R.1 R.1).2 = 0 then (if b then sumC A M (sumC A M R.1 R.1).1 P else sumC A M R.1 R.1) else sumC A M R.1 R.1) else R
def mulC (A M : Int) (P : Pt) : Nat → Nat → Pt × Int
 | 0, _ => (⟨0, 0, true⟩, 0)
 | k + 1, m => stepC A M P (mulC A M P k (m / 2)) (decide (m % 2 = 1))
theorem mulC_eq {A M : Int} {P : Pt} (hM : 0 < M) : ∀ k m, mulP A M P k m = mulC A M P k m
 | 0, _ => rfl
 | k + 1, m => by
  rw [mulP, mulC, mulC_eq hM k, stepP, stepC]
  simp only [sumC_eq hM]
def addC (A B M : Int) (P Q : Pt) : Pt × Int × Int := if onB A B M P.x P.y P.i = true then (if onB A B M Q.x Q.y Q.i = true then (if (sumC A M P Q).2 = 0 then ((sumC A M P Q).1, 0, 0) else (⟨0, 0, false⟩, (sumC A M P Q).2, 6)) else (⟨0, 0, false⟩, 0, 1)) else (⟨0, 0, false⟩, 0, 1)
theorem addC_eq {A B M : Int} {P Q : Pt} (hM : 0 < M) : addS A B M P Q = addC A B M P Q := by
 unfold addS addC
 simp only [sumC_eq hM]
theorem timesC_eq {A B M : Int} {P : Pt} {k m : Nat} {n : Int} (hM : 0 < M) (hn : ¬ n < 0) (hk : nbits n = k) (hm : n.natAbs = m) (h : onB A B M P.x P.y P.i = true) {R : Pt × Int} (hR : mulC A M P k m = R) (h0 : R.2 = 0) : timesS A B M n P = (R.1, 0, 0) := by
 have e : timesP A M P n = R := by
  unfold timesP xjP
  rw [if_neg hn, hk, hm, Nat.sub_zero, Nat.pow_zero, Nat.div_one, mulC_eq hM, hR]
 unfold timesS
 rw [if_pos h, e, if_pos h0]
theorem ex6_two : addS 1 1 5 ⟨0, 1, false⟩ ⟨0, 1, false⟩ = (⟨4, 2, false⟩, 0, 0) := by rw [addC_eq (by decide)]; kernel_rfl
theorem ex6_none : addS 1 1 35 ⟨0, 1, false⟩ ⟨7, 6, false⟩ = (⟨0, 0, false⟩, 7, 6) := by rw [addC_eq (by decide)]; kernel_rfl
theorem ex6_bad : addS 1 1 5 ⟨1, 1, false⟩ ⟨0, 1, false⟩ = (⟨0, 0, false⟩, 0, 1) := by rw [addC_eq (by decide)]; kernel_rfl
theorem nbits_three : nbits 3 = 2 := by kernel_rfl
theorem nbits_nine : nbits 9 = 4 := by kernel_rfl
theorem ex6_three : timesS 1 1 5 3 ⟨0, 1, false⟩ = (⟨2, 1, false⟩, 0, 0) := timesC_eq (R := (⟨2, 1, false⟩, 0)) (by decide) (by decide) nbits_three rfl (by decide) (by kernel_rfl) rfl
theorem ex6_nine : timesS 1 1 5 9 ⟨0, 1, false⟩ = (⟨0, 0, true⟩, 0, 0) := timesC_eq (R := (⟨0, 0, true⟩, 0)) (by decide) (by decide) nbits_nine rfl (by decide) (by kernel_rfl) rfl
theorem lit5 {z : Int} (h : ab z < 4294967296 * 4294967296 * 4294967296) : ab z < pw 5 := Int.lt_of_lt_of_le (ab_lit h) (pw_le (by omega))
set_option maxRecDepth 100000 in
set_option maxHeartbeats 4000000 in
theorem exSixExamples (w : World) :
  Calls Try.prog 7 #[] w fun e w' => ∃ v', e = .returned v' ∧ Below w.heap.size w w' ∧ v' = .bool true := by
 have E := Fr.start w
 go_enter Try.func7, Try.ntmps7
 go_upto_region 1 with (fail)
 have B1 : Hid (ab ((1)) < pw 3) := ab_lit (by decide)
 have B2 : Hid (ab ((5)) < pw 3) := ab_lit (by decide)
 refine region_fr (C := [Fq.num (1), Fq.num (1), Fq.num (5), Fq.st [.n (1), .n (1), .n (5)], Fq.any, Fq.any]) (ks := []) (new := [⟨4, 5, 6, Fq.st [.n 0, .n 0, .n 0], Fq.st [.n (1), .n (1), .n (5)], none⟩]) E rfl (by kernel_rfl) rfl rfl (fun hp => ⟨?_, ?_, ?_, ?_, ?_, ?_, trivial⟩) ?_
 ·exact q_call1 (F := (Fq.is (.int .i64 1)).P) hp (free_of rfl) trivial (enq_R_Of) (sq_const (fun _ => rfl)) (fun v w h => (by subst h; exact rOfK w (1) (by omega) (by omega)))
 ·exact q_call1 (F := (Fq.is (.int .i64 1)).P) hp (free_of rfl) trivial (enq_R_Of) (sq_const (fun _ => rfl)) (fun v w h => (by subst h; exact rOfK w (1) (by omega) (by omega)))
 ·exact q_call1 (F := (Fq.is (.int .i64 5)).P) hp (free_of rfl) trivial (enq_R_Of) (sq_const (fun _ => rfl)) (fun v w h => (by subst h; exact rOfK w (5) (by omega) (by omega)))
 ·exact q_build_api_Mod_012 (z0 := (1)) (z1 := (1)) (z2 := (5)) hp (free_of rfl) trivial (sqi 0) (sqi 1) (sqi 2) (fun v w h => h)
 ·exact q_allocSt (us := [.bool false, .slice none 0 0, .bool false, .slice none 0 0, .bool false, .slice none 0 0]) (fs := [.n 0, .n 0, .n 0]) hp (mq 0 rfl) rfl rfl rfl (Nat.lt_of_sub_eq_succ rfl) rfl fits0_api_Mod (fun ρ w => ralloc_api_Mod ρ w) rfl (Nat.ne_of_beq_eq_false rfl) (fun _ _ => trivial) (old_ne rfl) (newk_ne rfl)
 ·exact q_storeNewSt (fs := [.n 0, .n 0, .n 0]) (gs := [.n (1), .n (1), .n (5)]) hp (mq 0 rfl) rfl rfl rfl rfl size_api_Mod rfl (own_ptr rfl rfl (by simp) rfl) (sq_in 3 rfl rfl (by simp) rfl (fun v w h => fitv_st h)) (fun _ _ => trivial) (old_ne rfl) (newi_ne rfl)
 intro L vs w3 nb hL hC hn E3
 have e4 : vs 4 = .pointer (some ⟨nb 4, 0, none⟩) := hn _ (mq 0 rfl)
 have E : Fr w [(nb 4, 6, Fq.st [.n (1), .n (1), .n (5)])] w3 := E3
 rw [lay_all hL]
 simp only [putAll, dstOf, List.length_cons, List.length_nil, Nat.zero_add, Nat.reduceAdd, List.getElem?_toArray, List.getElem?_cons_zero, List.getElem?_cons_succ, Option.bind_some, Act.put, List.setIfInBounds_toArray, List.set_cons_succ, List.set_cons_zero]
 rw [e4]
 generalize nb 4 = b3_4 at E ⊢
 generalize vs 0 = u3_0
 generalize vs 1 = u3_1
 generalize vs 2 = u3_2
 generalize vs 3 = u3_3
 clear e4 hC hn E3 hL vs L nb
 go_upto_region 2 with (fail)
 have B4 : Hid (ab ((35)) < pw 3) := ab_lit (by decide)
 refine region_fr (C := [Fq.num (1), Fq.num (1), Fq.num (35), Fq.st [.n (1), .n (1), .n (35)], Fq.any, Fq.any]) (ks := [none]) (new := [⟨4, 5, 6, Fq.st [.n 0, .n 0, .n 0], Fq.st [.n (1), .n (1), .n (35)], none⟩]) E rfl (by kernel_rfl) rfl rfl (fun hp => ⟨?_, ?_, ?_, ?_, ?_, ?_, trivial⟩) ?_
 ·exact q_call1 (F := (Fq.is (.int .i64 1)).P) hp (free_of rfl) trivial (enq_R_Of) (sq_const (fun _ => rfl)) (fun v w h => (by subst h; exact rOfK w (1) (by omega) (by omega)))
 ·exact q_call1 (F := (Fq.is (.int .i64 1)).P) hp (free_of rfl) trivial (enq_R_Of) (sq_const (fun _ => rfl)) (fun v w h => (by subst h; exact rOfK w (1) (by omega) (by omega)))
 ·exact q_call1 (F := (Fq.is (.int .i64 35)).P) hp (free_of rfl) trivial (enq_R_Of) (sq_const (fun _ => rfl)) (fun v w h => (by subst h; exact rOfK w (35) (by omega) (by omega)))
 ·exact q_build_api_Mod_012 (z0 := (1)) (z1 := (1)) (z2 := (35)) hp (free_of rfl) trivial (sqi 0) (sqi 1) (sqi 2) (fun v w h => h)
 ·exact q_allocSt (us := [.bool false, .slice none 0 0, .bool false, .slice none 0 0, .bool false, .slice none 0 0]) (fs := [.n 0, .n 0, .n 0]) hp (mq 0 rfl) rfl rfl rfl (Nat.lt_of_sub_eq_succ rfl) rfl fits0_api_Mod (fun ρ w => ralloc_api_Mod ρ w) rfl (Nat.ne_of_beq_eq_false rfl) (fun _ _ => trivial) (old_ne rfl) (newk_ne rfl)
 ·exact q_storeNewSt (fs := [.n 0, .n 0, .n 0]) (gs := [.n (1), .n (1), .n (35)]) hp (mq 0 rfl) rfl rfl rfl rfl size_api_Mod rfl (own_ptr rfl rfl (by simp) rfl) (sq_in 3 rfl rfl (by simp) rfl (fun v w h => fitv_st h)) (fun _ _ => trivial) (old_ne rfl) (newi_ne rfl)
 intro L vs w5 nb hL hC hn E5
 have e4 : vs 4 = .pointer (some ⟨nb 4, 0, none⟩) := hn _ (mq 0 rfl)
 have E : Fr w [(nb 4, 6, Fq.st [.n (1), .n (1), .n (35)]), (b3_4, 6, Fq.st [.n (1), .n (1), .n (5)])] w5 := E5
 rw [lay_all hL]
 simp only [putAll, dstOf, List.length_cons, List.length_nil, Nat.zero_add, Nat.reduceAdd, List.getElem?_toArray, List.getElem?_cons_zero, List.getElem?_cons_succ, Option.bind_some, Act.put, List.setIfInBounds_toArray, List.set_cons_succ, List.set_cons_zero]
 rw [e4]
 generalize nb 4 = b5_4 at E ⊢
 generalize vs 0 = u5_0
 generalize vs 1 = u5_1
 generalize vs 2 = u5_2
 generalize vs 3 = u5_3
 clear e4 hC hn E5 hL vs L nb
 go_upto_region 3 with (fail)
 refine region_fr (C := [Fq.st [.n (0), .n (1), .v (.bool false)], Fq.any, Fq.any]) (ks := [none, none]) (new := [⟨1, 2, 5, Fq.st [.n 0, .n 0, .v (.bool false)], Fq.st [.n (0), .n (1), .v (.bool false)], none⟩]) E rfl (by kernel_rfl) rfl rfl (fun hp => ⟨?_, ?_, ?_, trivial⟩) ?_
 ·exact q_call2 (F := (Fq.is (.int .i64 0)).P) (G := (Fq.is (.int .i64 1)).P) hp (free_of rfl) trivial (enq_f_algorist_algoristlaw06_at) (sq_const (fun _ => rfl)) (sq_const (fun _ => rfl)) (fun v v' w h h' => (by subst h h'; exact exAt (x := 0) (y := 1) (by omega) (by omega)))
 ·exact q_allocSt (us := [.bool false, .slice none 0 0, .bool false, .slice none 0 0, .bool false]) (fs := [.n 0, .n 0, .v (.bool false)]) hp (mq 0 rfl) rfl rfl rfl (Nat.lt_of_sub_eq_succ rfl) rfl fits0_api_Point (fun ρ w => ralloc_api_Point ρ w) rfl (Nat.ne_of_beq_eq_false rfl) (fun _ _ => trivial) (old_ne rfl) (newk_ne rfl)
 ·exact q_storeNewSt (fs := [.n 0, .n 0, .v (.bool false)]) (gs := [.n (0), .n (1), .v (.bool false)]) hp (mq 0 rfl) rfl rfl rfl rfl size_api_Point rfl (own_ptr rfl rfl (by simp) rfl) (sq_in 0 rfl rfl (by simp) rfl (fun v w h => fitv_st h)) (fun _ _ => trivial) (old_ne rfl) (newi_ne rfl)
 intro L vs w6 nb hL hC hn E6
 have e1 : vs 1 = .pointer (some ⟨nb 1, 0, none⟩) := hn _ (mq 0 rfl)
 have E : Fr w [(nb 1, 5, Fq.st [.n (0), .n (1), .v (.bool false)]), (b5_4, 6, Fq.st [.n (1), .n (1), .n (35)]), (b3_4, 6, Fq.st [.n (1), .n (1), .n (5)])] w6 := E6
 rw [lay_all hL]
 simp only [putAll, dstOf, List.length_cons, List.length_nil, Nat.zero_add, Nat.reduceAdd, List.getElem?_toArray, List.getElem?_cons_zero, List.getElem?_cons_succ, Option.bind_some, Act.put, List.setIfInBounds_toArray, List.set_cons_succ, List.set_cons_zero]
 rw [e1]
 generalize nb 1 = b6_1 at E ⊢
 generalize vs 0 = u6_0
 clear e1 hC hn E6 hL vs L nb
 go_upto_region 4 with (fail)
 have B7 : Hid (ab ((3)) < pw 3) := ab_lit (by decide)
 have B8 : Hid (ab ((9)) < pw 3) := ab_lit (by decide)
 refine region_fr (C := [Fq.st [.n (1), .n (1), .n (5)], Fq.st [.n (0), .n (1), .v (.bool false)], Fq.st [.n (0), .n (1), .v (.bool false)], Fq.st [.n (4), .n (2), .v (.bool false), .n (0), .v (.int .i64 0)], Fq.st [.n (1), .n (1), .n (5)], Fq.num (3), Fq.st [.n (0), .n (1), .v (.bool false)], Fq.st [.n (2), .n (1), .v (.bool false), .n (0), .v (.int .i64 0)], Fq.st [.n (1), .n (1), .n (5)], Fq.num (9), Fq.st [.n (0), .n (1), .v (.bool false)], Fq.st [.n (0), .n (0), .v (.bool true), .n (0), .v (.int .i64 0)], Fq.any, Fq.any, Fq.any, Fq.any, Fq.any, Fq.any]) (ks := [none, none, none]) (new := [⟨12, 15, 8, Fq.st [.n 0, .n 0, .v (.bool false), .n 0, .v (.int .i64 0)], Fq.st [.n (4), .n (2), .v (.bool false), .n (0), .v (.int .i64 0)], none⟩, ⟨13, 16, 8, Fq.st [.n 0, .n 0, .v (.bool false), .n 0, .v (.int .i64 0)], Fq.st [.n (2), .n (1), .v (.bool false), .n (0), .v (.int .i64 0)], none⟩, ⟨14, 17, 8, Fq.st [.n 0, .n 0, .v (.bool false), .n 0, .v (.int .i64 0)], Fq.st [.n (0), .n (0), .v (.bool true), .n (0), .v (.int .i64 0)], none⟩]) E rfl (by kernel_rfl) rfl rfl (fun hp => ⟨?_, ?_, ?_, ?_, ?_, ?_, ?_, ?_, ?_, ?_, ?_, ?_, ?_, ?_, ?_, ?_, ?_, ?_, trivial⟩) ?_
 ·exact q_loadSt (off := 0) (l := 6) (fs := [.n (1), .n (1), .n (5)]) (gs := [.n (1), .n (1), .n (5)]) hp (free_of rfl) trivial (mq 2 rfl) (.inl rfl) rfl row_api_Mod rfl (sqo 1) (fun v w h => h)
 ·exact q_loadSt (off := 0) (l := 5) (fs := [.n (0), .n (1), .v (.bool false)]) (gs := [.n (0), .n (1), .v (.bool false)]) hp (free_of rfl) trivial (mq 0 rfl) (.inl rfl) rfl row_api_Point rfl (sqo 3) (fun v w h => h)
 ·exact q_loadSt (off := 0) (l := 5) (fs := [.n (0), .n (1), .v (.bool false)]) (gs := [.n (0), .n (1), .v (.bool false)]) hp (free_of rfl) trivial (mq 0 rfl) (.inl rfl) rfl row_api_Point rfl (sqo 3) (fun v w h => h)
 ·exact q_call3 (F := (Fq.st [.n (1), .n (1), .n (5)]).P) (G := (Fq.st [.n (0), .n (1), .v (.bool false)]).P) (F3 := (Fq.st [.n (0), .n (1), .v (.bool false)]).P) hp (free_of rfl) trivial (enq_f_algorist_algoristlaw06_add) (sqi 0) (sqi 1) (sqi 2) (fun v v' u w h h' g => exLAdd (P := ⟨(0), (1), false⟩) (Q := ⟨(0), (1), false⟩) (R := (⟨4, 2, false⟩, 0, 0)) h h' g (lit5 (by decide)) (lit5 (by decide)) (lit5 (by decide)) ⟨(lit5 (by decide)), (lit5 (by decide))⟩ ⟨(lit5 (by decide)), (lit5 (by decide))⟩ ex6_two)
 ·exact q_loadSt (off := 0) (l := 6) (fs := [.n (1), .n (1), .n (5)]) (gs := [.n (1), .n (1), .n (5)]) hp (free_of rfl) trivial (mq 2 rfl) (.inl rfl) rfl row_api_Mod rfl (sqo 1) (fun v w h => h)
 ·exact q_call1 (F := (Fq.is (.int .i64 3)).P) hp (free_of rfl) trivial (enq_R_Of) (sq_const (fun _ => rfl)) (fun v w h => (by subst h; exact rOfK w (3) (by omega) (by omega)))
 ·exact q_loadSt (off := 0) (l := 5) (fs := [.n (0), .n (1), .v (.bool false)]) (gs := [.n (0), .n (1), .v (.bool false)]) hp (free_of rfl) trivial (mq 0 rfl) (.inl rfl) rfl row_api_Point rfl (sqo 3) (fun v w h => h)
 ·exact q_call3 (F := (Fq.st [.n (1), .n (1), .n (5)]).P) (G := (Fq.num (3)).P) (F3 := (Fq.st [.n (0), .n (1), .v (.bool false)]).P) hp (free_of rfl) trivial (enq_f_algorist_algoristlaw06_times) (sqi 4) (sqi 5) (sqi 6) (fun v v' u w h h' g => exLTimes (P := ⟨(0), (1), false⟩) (R := (⟨2, 1, false⟩, 0, 0)) h h' g (lit5 (by decide)) (lit5 (by decide)) (lit5 (by decide)) (Int.lt_of_lt_of_le (lit5 (by decide)) (pw_le (by omega))) ⟨(lit5 (by decide)), (lit5 (by decide))⟩ ex6_three)
 ·exact q_loadSt (off := 0) (l := 6) (fs := [.n (1), .n (1), .n (5)]) (gs := [.n (1), .n (1), .n (5)]) hp (free_of rfl) trivial (mq 2 rfl) (.inl rfl) rfl row_api_Mod rfl (sqo 1) (fun v w h => h)
 ·exact q_call1 (F := (Fq.is (.int .i64 9)).P) hp (free_of rfl) trivial (enq_R_Of) (sq_const (fun _ => rfl)) (fun v w h => (by subst h; exact rOfK w (9) (by omega) (by omega)))
 ·exact q_loadSt (off := 0) (l := 5) (fs := [.n (0), .n (1), .v (.bool false)]) (gs := [.n (0), .n (1), .v (.bool false)]) hp (free_of rfl) trivial (mq 0 rfl) (.inl rfl) rfl row_api_Point rfl (sqo 3) (fun v w h => h)
 ·exact q_call3 (F := (Fq.st [.n (1), .n (1), .n (5)]).P) (G := (Fq.num (9)).P) (F3 := (Fq.st [.n (0), .n (1), .v (.bool false)]).P) hp (free_of rfl) trivial (enq_f_algorist_algoristlaw06_times) (sqi 8) (sqi 9) (sqi 10) (fun v v' u w h h' g => exLTimes (P := ⟨(0), (1), false⟩) (R := (⟨0, 0, true⟩, 0, 0)) h h' g (lit5 (by decide)) (lit5 (by decide)) (lit5 (by decide)) (Int.lt_of_lt_of_le (lit5 (by decide)) (pw_le (by omega))) ⟨(lit5 (by decide)), (lit5 (by decide))⟩ ex6_nine)
 ·exact q_allocSt (us := [.bool false, .slice none 0 0, .bool false, .slice none 0 0, .bool false, .bool false, .slice none 0 0, .int .i64 0]) (fs := [.n 0, .n 0, .v (.bool false), .n 0, .v (.int .i64 0)]) hp (mq 0 rfl) rfl rfl rfl (Nat.lt_of_sub_eq_succ rfl) rfl fits0_algoristref06_Sum (fun ρ w => ralloc_algoristref06_Sum ρ w) rfl (Nat.ne_of_beq_eq_false rfl) (fun _ _ => trivial) (old_ne rfl) (newk_ne rfl)
 ·exact q_allocSt (us := [.bool false, .slice none 0 0, .bool false, .slice none 0 0, .bool false, .bool false, .slice none 0 0, .int .i64 0]) (fs := [.n 0, .n 0, .v (.bool false), .n 0, .v (.int .i64 0)]) hp (mq 1 rfl) rfl rfl rfl (Nat.lt_of_sub_eq_succ rfl) rfl fits0_algoristref06_Sum (fun ρ w => ralloc_algoristref06_Sum ρ w) rfl (Nat.ne_of_beq_eq_false rfl) (fun _ _ => trivial) (old_ne rfl) (newk_ne rfl)
 ·exact q_allocSt (us := [.bool false, .slice none 0 0, .bool false, .slice none 0 0, .bool false, .bool false, .slice none 0 0, .int .i64 0]) (fs := [.n 0, .n 0, .v (.bool false), .n 0, .v (.int .i64 0)]) hp (mq 2 rfl) rfl rfl rfl (Nat.lt_of_sub_eq_succ rfl) rfl fits0_algoristref06_Sum (fun ρ w => ralloc_algoristref06_Sum ρ w) rfl (Nat.ne_of_beq_eq_false rfl) (fun _ _ => trivial) (old_ne rfl) (newk_ne rfl)
 ·exact q_storeNewSt (fs := [.n 0, .n 0, .v (.bool false), .n 0, .v (.int .i64 0)]) (gs := [.n (4), .n (2), .v (.bool false), .n (0), .v (.int .i64 0)]) hp (mq 0 rfl) rfl rfl rfl rfl size_algoristref06_Sum rfl (own_ptr rfl rfl (by simp) rfl) (sq_in 3 rfl rfl (by simp) rfl (fun v w h => fitv_st h)) (fun _ _ => trivial) (old_ne rfl) (newi_ne rfl)
 ·exact q_storeNewSt (fs := [.n 0, .n 0, .v (.bool false), .n 0, .v (.int .i64 0)]) (gs := [.n (2), .n (1), .v (.bool false), .n (0), .v (.int .i64 0)]) hp (mq 1 rfl) rfl rfl rfl rfl size_algoristref06_Sum rfl (own_ptr rfl rfl (by simp) rfl) (sq_in 7 rfl rfl (by simp) rfl (fun v w h => fitv_st h)) (fun _ _ => trivial) (old_ne rfl) (newi_ne rfl)
 ·exact q_storeNewSt (fs := [.n 0, .n 0, .v (.bool false), .n 0, .v (.int .i64 0)]) (gs := [.n (0), .n (0), .v (.bool true), .n (0), .v (.int .i64 0)]) hp (mq 2 rfl) rfl rfl rfl rfl size_algoristref06_Sum rfl (own_ptr rfl rfl (by simp) rfl) (sq_in 11 rfl rfl (by simp) rfl (fun v w h => fitv_st h)) (fun _ _ => trivial) (old_ne rfl) (newi_ne rfl)
 intro L vs w9 nb hL hC hn E9
 have e12 : vs 12 = .pointer (some ⟨nb 12, 0, none⟩) := hn _ (mq 0 rfl)
 have e13 : vs 13 = .pointer (some ⟨nb 13, 0, none⟩) := hn _ (mq 1 rfl)
 have e14 : vs 14 = .pointer (some ⟨nb 14, 0, none⟩) := hn _ (mq 2 rfl)
 have E : Fr w [(nb 12, 8, Fq.st [.n (4), .n (2), .v (.bool false), .n (0), .v (.int .i64 0)]), (nb 13, 8, Fq.st [.n (2), .n (1), .v (.bool false), .n (0), .v (.int .i64 0)]), (nb 14, 8, Fq.st [.n (0), .n (0), .v (.bool true), .n (0), .v (.int .i64 0)]), (b6_1, 5, Fq.st [.n (0), .n (1), .v (.bool false)]), (b5_4, 6, Fq.st [.n (1), .n (1), .n (35)]), (b3_4, 6, Fq.st [.n (1), .n (1), .n (5)])] w9 := E9
 rw [lay_all hL]
 simp only [putAll, dstOf, List.length_cons, List.length_nil, Nat.zero_add, Nat.reduceAdd, List.getElem?_toArray, List.getElem?_cons_zero, List.getElem?_cons_succ, Option.bind_some, Act.put, List.setIfInBounds_toArray, List.set_cons_succ, List.set_cons_zero]
 rw [e12, e13, e14]
 generalize nb 12 = b9_12 at E ⊢
 generalize nb 13 = b9_13 at E ⊢
 generalize nb 14 = b9_14 at E ⊢
 generalize vs 0 = u9_0
 generalize vs 1 = u9_1
 generalize vs 2 = u9_2
 generalize vs 3 = u9_3
 generalize vs 4 = u9_4
 generalize vs 5 = u9_5
 generalize vs 6 = u9_6
 generalize vs 7 = u9_7
 generalize vs 8 = u9_8
 generalize vs 9 = u9_9
 generalize vs 10 = u9_10
 generalize vs 11 = u9_11
 clear e12 e13 e14 hC hn E9 hL vs L nb
 go_upto_region 5 with (fail)
 refine region_fr (C := [Fq.st [.n (1), .n (1), .n (35)], Fq.st [.n (0), .n (1), .v (.bool false)], Fq.st [.n (7), .n (6), .v (.bool false)], Fq.st [.n (0), .n (0), .v (.bool false), .n (7), .v (.int .i64 6)], Fq.any, Fq.any]) (ks := [none, none, none, none, none, none]) (new := [⟨4, 5, 8, Fq.st [.n 0, .n 0, .v (.bool false), .n 0, .v (.int .i64 0)], Fq.st [.n (0), .n (0), .v (.bool false), .n (7), .v (.int .i64 6)], none⟩]) E rfl (by kernel_rfl) rfl rfl (fun hp => ⟨?_, ?_, ?_, ?_, ?_, ?_, trivial⟩) ?_
 ·exact q_loadSt (off := 0) (l := 6) (fs := [.n (1), .n (1), .n (35)]) (gs := [.n (1), .n (1), .n (35)]) hp (free_of rfl) trivial (mq 4 rfl) (.inl rfl) rfl row_api_Mod rfl (sqo 2) (fun v w h => h)
 ·exact q_loadSt (off := 0) (l := 5) (fs := [.n (0), .n (1), .v (.bool false)]) (gs := [.n (0), .n (1), .v (.bool false)]) hp (free_of rfl) trivial (mq 3 rfl) (.inl rfl) rfl row_api_Point rfl (sqo 3) (fun v w h => h)
 ·exact q_call2 (F := (Fq.is (.int .i64 7)).P) (G := (Fq.is (.int .i64 6)).P) hp (free_of rfl) trivial (enq_f_algorist_algoristlaw06_at) (sq_const (fun _ => rfl)) (sq_const (fun _ => rfl)) (fun v v' w h h' => (by subst h h'; exact exAt (x := 7) (y := 6) (by omega) (by omega)))
 ·exact q_call3 (F := (Fq.st [.n (1), .n (1), .n (35)]).P) (G := (Fq.st [.n (0), .n (1), .v (.bool false)]).P) (F3 := (Fq.st [.n (7), .n (6), .v (.bool false)]).P) hp (free_of rfl) trivial (enq_f_algorist_algoristlaw06_add) (sqi 0) (sqi 1) (sqi 2) (fun v v' u w h h' g => exLAdd (P := ⟨(0), (1), false⟩) (Q := ⟨(7), (6), false⟩) (R := (⟨0, 0, false⟩, 7, 6)) h h' g (lit5 (by decide)) (lit5 (by decide)) (lit5 (by decide)) ⟨(lit5 (by decide)), (lit5 (by decide))⟩ ⟨(lit5 (by decide)), (lit5 (by decide))⟩ ex6_none)
 ·exact q_allocSt (us := [.bool false, .slice none 0 0, .bool false, .slice none 0 0, .bool false, .bool false, .slice none 0 0, .int .i64 0]) (fs := [.n 0, .n 0, .v (.bool false), .n 0, .v (.int .i64 0)]) hp (mq 0 rfl) rfl rfl rfl (Nat.lt_of_sub_eq_succ rfl) rfl fits0_algoristref06_Sum (fun ρ w => ralloc_algoristref06_Sum ρ w) rfl (Nat.ne_of_beq_eq_false rfl) (fun _ _ => trivial) (old_ne rfl) (newk_ne rfl)
 ·exact q_storeNewSt (fs := [.n 0, .n 0, .v (.bool false), .n 0, .v (.int .i64 0)]) (gs := [.n (0), .n (0), .v (.bool false), .n (7), .v (.int .i64 6)]) hp (mq 0 rfl) rfl rfl rfl rfl size_algoristref06_Sum rfl (own_ptr rfl rfl (by simp) rfl) (sq_in 3 rfl rfl (by simp) rfl (fun v w h => fitv_st h)) (fun _ _ => trivial) (old_ne rfl) (newi_ne rfl)
 intro L vs w10 nb hL hC hn E10
 have e4 : vs 4 = .pointer (some ⟨nb 4, 0, none⟩) := hn _ (mq 0 rfl)
 have E : Fr w [(nb 4, 8, Fq.st [.n (0), .n (0), .v (.bool false), .n (7), .v (.int .i64 6)]), (b9_12, 8, Fq.st [.n (4), .n (2), .v (.bool false), .n (0), .v (.int .i64 0)]), (b9_13, 8, Fq.st [.n (2), .n (1), .v (.bool false), .n (0), .v (.int .i64 0)]), (b9_14, 8, Fq.st [.n (0), .n (0), .v (.bool true), .n (0), .v (.int .i64 0)]), (b6_1, 5, Fq.st [.n (0), .n (1), .v (.bool false)]), (b5_4, 6, Fq.st [.n (1), .n (1), .n (35)]), (b3_4, 6, Fq.st [.n (1), .n (1), .n (5)])] w10 := E10
 rw [lay_all hL]
 simp only [putAll, dstOf, List.length_cons, List.length_nil, Nat.zero_add, Nat.reduceAdd, List.getElem?_toArray, List.getElem?_cons_zero, List.getElem?_cons_succ, Option.bind_some, Act.put, List.setIfInBounds_toArray, List.set_cons_succ, List.set_cons_zero]
 rw [e4]
 generalize nb 4 = b10_4 at E ⊢
 generalize vs 0 = u10_0
 generalize vs 1 = u10_1
 generalize vs 2 = u10_2
 generalize vs 3 = u10_3
 clear e4 hC hn E10 hL vs L nb
 go_upto_region 6 with (fail)
 refine region_fr (C := [Fq.st [.n (1), .n (1), .n (5)], Fq.st [.n (1), .n (1), .v (.bool false)], Fq.st [.n (0), .n (1), .v (.bool false)], Fq.st [.n (0), .n (0), .v (.bool false), .n (0), .v (.int .i64 1)], Fq.any, Fq.any]) (ks := [none, none, none, none, none, none, none]) (new := [⟨4, 5, 8, Fq.st [.n 0, .n 0, .v (.bool false), .n 0, .v (.int .i64 0)], Fq.st [.n (0), .n (0), .v (.bool false), .n (0), .v (.int .i64 1)], none⟩]) E rfl (by kernel_rfl) rfl rfl (fun hp => ⟨?_, ?_, ?_, ?_, ?_, ?_, trivial⟩) ?_
 ·exact q_loadSt (off := 0) (l := 6) (fs := [.n (1), .n (1), .n (5)]) (gs := [.n (1), .n (1), .n (5)]) hp (free_of rfl) trivial (mq 6 rfl) (.inl rfl) rfl row_api_Mod rfl (sqo 1) (fun v w h => h)
 ·exact q_call2 (F := (Fq.is (.int .i64 1)).P) (G := (Fq.is (.int .i64 1)).P) hp (free_of rfl) trivial (enq_f_algorist_algoristlaw06_at) (sq_const (fun _ => rfl)) (sq_const (fun _ => rfl)) (fun v v' w h h' => (by subst h h'; exact exAt (x := 1) (y := 1) (by omega) (by omega)))
 ·exact q_loadSt (off := 0) (l := 5) (fs := [.n (0), .n (1), .v (.bool false)]) (gs := [.n (0), .n (1), .v (.bool false)]) hp (free_of rfl) trivial (mq 4 rfl) (.inl rfl) rfl row_api_Point rfl (sqo 3) (fun v w h => h)
 ·exact q_call3 (F := (Fq.st [.n (1), .n (1), .n (5)]).P) (G := (Fq.st [.n (1), .n (1), .v (.bool false)]).P) (F3 := (Fq.st [.n (0), .n (1), .v (.bool false)]).P) hp (free_of rfl) trivial (enq_f_algorist_algoristlaw06_add) (sqi 0) (sqi 1) (sqi 2) (fun v v' u w h h' g => exLAdd (P := ⟨(1), (1), false⟩) (Q := ⟨(0), (1), false⟩) (R := (⟨0, 0, false⟩, 0, 1)) h h' g (lit5 (by decide)) (lit5 (by decide)) (lit5 (by decide)) ⟨(lit5 (by decide)), (lit5 (by decide))⟩ ⟨(lit5 (by decide)), (lit5 (by decide))⟩ ex6_bad)
 ·exact q_allocSt (us := [.bool false, .slice none 0 0, .bool false, .slice none 0 0, .bool false, .bool false, .slice none 0 0, .int .i64 0]) (fs := [.n 0, .n 0, .v (.bool false), .n 0, .v (.int .i64 0)]) hp (mq 0 rfl) rfl rfl rfl (Nat.lt_of_sub_eq_succ rfl) rfl fits0_algoristref06_Sum (fun ρ w => ralloc_algoristref06_Sum ρ w) rfl (Nat.ne_of_beq_eq_false rfl) (fun _ _ => trivial) (old_ne rfl) (newk_ne rfl)
 ·exact q_storeNewSt (fs := [.n 0, .n 0, .v (.bool false), .n 0, .v (.int .i64 0)]) (gs := [.n (0), .n (0), .v (.bool false), .n (0), .v (.int .i64 1)]) hp (mq 0 rfl) rfl rfl rfl rfl size_algoristref06_Sum rfl (own_ptr rfl rfl (by simp) rfl) (sq_in 3 rfl rfl (by simp) rfl (fun v w h => fitv_st h)) (fun _ _ => trivial) (old_ne rfl) (newi_ne rfl)
 intro L vs w11 nb hL hC hn E11
 have e4 : vs 4 = .pointer (some ⟨nb 4, 0, none⟩) := hn _ (mq 0 rfl)
 have E : Fr w [(nb 4, 8, Fq.st [.n (0), .n (0), .v (.bool false), .n (0), .v (.int .i64 1)]), (b10_4, 8, Fq.st [.n (0), .n (0), .v (.bool false), .n (7), .v (.int .i64 6)]), (b9_12, 8, Fq.st [.n (4), .n (2), .v (.bool false), .n (0), .v (.int .i64 0)]), (b9_13, 8, Fq.st [.n (2), .n (1), .v (.bool false), .n (0), .v (.int .i64 0)]), (b9_14, 8, Fq.st [.n (0), .n (0), .v (.bool true), .n (0), .v (.int .i64 0)]), (b6_1, 5, Fq.st [.n (0), .n (1), .v (.bool false)]), (b5_4, 6, Fq.st [.n (1), .n (1), .n (35)]), (b3_4, 6, Fq.st [.n (1), .n (1), .n (5)])] w11 := E11
 rw [lay_all hL]
 simp only [putAll, dstOf, List.length_cons, List.length_nil, Nat.zero_add, Nat.reduceAdd, List.getElem?_toArray, List.getElem?_cons_zero, List.getElem?_cons_succ, Option.bind_some, Act.put, List.setIfInBounds_toArray, List.set_cons_succ, List.set_cons_zero]
 rw [e4]
 generalize nb 4 = b11_4 at E ⊢
 generalize vs 0 = u11_0
 generalize vs 1 = u11_1
 generalize vs 2 = u11_2
 generalize vs 3 = u11_3
 clear e4 hC hn E11 hL vs L nb
 go_upto_region 7 with (fail)
 refine region_fr (C := [Fq.st [.n (1), .n (1), .n (5)], Fq.st [.n (0), .n (1), .v (.bool false)], Fq.tup2 (Fq.st [.n (0), .n (4), .v (.bool false)]) (Fq.is (.int .i64 0)), Fq.tup2 (Fq.st [.n (0), .n (4), .v (.bool false)]) (Fq.is (.int .i64 0)), Fq.st [.n (0), .n (4), .v (.bool false)], Fq.is (.int .i64 0), Fq.any, Fq.any, Fq.is (.int .i64 0)]) (ks := [none, none, none, none, none, none, none, none]) (new := [⟨6, 7, 5, Fq.st [.n 0, .n 0, .v (.bool false)], Fq.st [.n (0), .n (4), .v (.bool false)], none⟩]) E rfl (by kernel_rfl) rfl rfl (fun hp => ⟨?_, ?_, ?_, ?_, ?_, ?_, ?_, ?_, ?_, trivial⟩) ?_
 ·exact q_loadSt (off := 0) (l := 6) (fs := [.n (1), .n (1), .n (5)]) (gs := [.n (1), .n (1), .n (5)]) hp (free_of rfl) trivial (mq 7 rfl) (.inl rfl) rfl row_api_Mod rfl (sqo 1) (fun v w h => h)
 ·exact q_loadSt (off := 0) (l := 5) (fs := [.n (0), .n (1), .v (.bool false)]) (gs := [.n (0), .n (1), .v (.bool false)]) hp (free_of rfl) trivial (mq 5 rfl) (.inl rfl) rfl row_api_Point rfl (sqo 3) (fun v w h => h)
 ·exact q_call2 (F := (Fq.st [.n (1), .n (1), .n (5)]).P) (G := (Fq.st [.n (0), .n (1), .v (.bool false)]).P) hp (free_of rfl) trivial (enq_f_algorist_point_Neg) (sqi 0) (sqi 1) (fun v v' w h h' => exNegN (P := ⟨0, 1, false⟩) h h' (lit5 (by decide)) (lit5 (by decide)) (lit5 (by decide)) ⟨(lit5 (by decide)), (lit5 (by decide))⟩ (by decide))
 ·exact q_move hp (free_of rfl) trivial (sqi 2)
 ·exact q_extract2 hp (free_of rfl) trivial (sqi 3) (fun v1 v2 w h1 h2 => ⟨_, rfl, h1⟩)
 ·exact q_extract2 hp (free_of rfl) trivial (sqi 3) (fun v1 v2 w h1 h2 => ⟨_, rfl, h2⟩)
 ·exact q_allocSt (us := [.bool false, .slice none 0 0, .bool false, .slice none 0 0, .bool false]) (fs := [.n 0, .n 0, .v (.bool false)]) hp (mq 0 rfl) rfl rfl rfl (Nat.lt_of_sub_eq_succ rfl) rfl fits0_api_Point (fun ρ w => ralloc_api_Point ρ w) rfl (Nat.ne_of_beq_eq_false rfl) (fun _ _ => trivial) (old_ne rfl) (newk_ne rfl)
 ·exact q_storeNewSt (fs := [.n 0, .n 0, .v (.bool false)]) (gs := [.n (0), .n (4), .v (.bool false)]) hp (mq 0 rfl) rfl rfl rfl rfl size_api_Point rfl (own_ptr rfl rfl (by simp) rfl) (sq_in 4 rfl rfl (by simp) rfl (fun v w h => fitv_st h)) (fun _ _ => trivial) (old_ne rfl) (newi_ne rfl)
 ·exact q_assign hp (free_of rfl) trivial (sqi 5)
 intro L vs w12 nb hL hC hn E12
 have e5 : vs 5 = .int .i64 0 := hC 5 (by simp)
 have e8 : vs 8 = .int .i64 0 := hC 8 (by simp)
 have e6 : vs 6 = .pointer (some ⟨nb 6, 0, none⟩) := hn _ (mq 0 rfl)
 have E : Fr w [(nb 6, 5, Fq.st [.n (0), .n (4), .v (.bool false)]), (b11_4, 8, Fq.st [.n (0), .n (0), .v (.bool false), .n (0), .v (.int .i64 1)]), (b10_4, 8, Fq.st [.n (0), .n (0), .v (.bool false), .n (7), .v (.int .i64 6)]), (b9_12, 8, Fq.st [.n (4), .n (2), .v (.bool false), .n (0), .v (.int .i64 0)]), (b9_13, 8, Fq.st [.n (2), .n (1), .v (.bool false), .n (0), .v (.int .i64 0)]), (b9_14, 8, Fq.st [.n (0), .n (0), .v (.bool true), .n (0), .v (.int .i64 0)]), (b6_1, 5, Fq.st [.n (0), .n (1), .v (.bool false)]), (b5_4, 6, Fq.st [.n (1), .n (1), .n (35)]), (b3_4, 6, Fq.st [.n (1), .n (1), .n (5)])] w12 := E12
 rw [lay_all hL]
 simp only [putAll, dstOf, List.length_cons, List.length_nil, Nat.zero_add, Nat.reduceAdd, List.getElem?_toArray, List.getElem?_cons_zero, List.getElem?_cons_succ, Option.bind_some, Act.put, List.setIfInBounds_toArray, List.set_cons_succ, List.set_cons_zero]
 rw [e5, e8, e6]
 generalize nb 6 = b12_6 at E ⊢
 generalize vs 0 = u12_0
 generalize vs 1 = u12_1
 generalize vs 2 = u12_2
 generalize vs 3 = u12_3
 generalize vs 4 = u12_4
 clear e5 e8 e6 hC hn E12 hL vs L nb
 go_upto_region 8 with (fail)
 refine region_fr (C := [Fq.is (.pointer (some ⟨b9_12, 7, none⟩)), Fq.is (.int .i64 0), Fq.is (.bool false), Fq.is (.bool false), Fq.is (.pointer (some ⟨b9_13, 7, none⟩)), Fq.is (.int .i64 0), Fq.is (.bool false), Fq.is (.bool false), Fq.is (.bool false), Fq.is (.pointer (some ⟨b9_14, 7, none⟩)), Fq.is (.int .i64 0), Fq.is (.bool false), Fq.is (.bool false), Fq.is (.bool false), Fq.is (.pointer (some ⟨b10_4, 7, none⟩)), Fq.is (.int .i64 6), Fq.is (.bool false), Fq.is (.bool false), Fq.is (.bool false), Fq.is (.pointer (some ⟨b11_4, 7, none⟩)), Fq.is (.int .i64 1), Fq.is (.bool false), Fq.is (.bool false), Fq.is (.bool false), Fq.is (.int .i64 0), Fq.is (.bool false), Fq.is (.bool false)]) (ks := [none, none, none, none, none, none, none, none, none]) (new := []) E rfl (by kernel_rfl) rfl rfl (fun hp => ⟨?_, ?_, ?_, ?_, ?_, ?_, ?_, ?_, ?_, ?_, ?_, ?_, ?_, ?_, ?_, ?_, ?_, ?_, ?_, ?_, ?_, ?_, ?_, ?_, ?_, ?_, ?_, trivial⟩) ?_
 ·exact q_addr (b := b9_12) (off := 0) (off' := 7) hp (free_of rfl) trivial (sqo 4) (fun ρ w h => by simp [execOp, go_sem, h]) (fun _ => rfl)
 ·exact q_load1 (off := 7) (fs := [.n (4), .n (2), .v (.bool false), .n (0), .v (.int .i64 0)]) (u := .int .i64 0) hp (free_of rfl) trivial (mq 3 rfl) (.inl rfl) rfl rfl (fun ρ w b h1 h2 => by simp [execOp, go_sem, h1, h2]) (sqi 0) (fun _ => rfl)
 ·exact q_one (F := fun v _ => v = .int .i64 0) hp (free_of rfl) trivial (sqi 1) (fun ρ w hc h => ⟨.bool false, by simp [execOp, go_sem, h, hc], rfl⟩)
 ·exact q_move hp (free_of rfl) trivial (sqi 2)
 ·exact q_addr (b := b9_13) (off := 0) (off' := 7) hp (free_of rfl) gqi (sqo 5) (fun ρ w h => by simp [execOp, go_sem, h]) (fun _ => rfl)
 ·exact q_load1 (off := 7) (fs := [.n (2), .n (1), .v (.bool false), .n (0), .v (.int .i64 0)]) (u := .int .i64 0) hp (free_of rfl) gqi (mq 4 rfl) (.inl rfl) rfl rfl (fun ρ w b h1 h2 => by simp [execOp, go_sem, h1, h2]) (sqi 4) (fun _ => rfl)
 ·exact q_one (F := fun v _ => v = .int .i64 0) hp (free_of rfl) gqi (sqi 5) (fun ρ w hc h => ⟨.bool false, by simp [execOp, go_sem, h, hc], rfl⟩)
 ·exact q_two (F := fun v _ => v = .bool false) (G := fun v _ => v = .bool false) hp (free_of rfl) trivial (sqi 3) (sqi 6) (fun ρ w hc h h' => ⟨_, by simp [execOp, go_sem, h, h'], rfl⟩)
 ·exact q_move hp (free_of rfl) trivial (sqi 7)
 ·exact q_addr (b := b9_14) (off := 0) (off' := 7) hp (free_of rfl) gqi (sqo 6) (fun ρ w h => by simp [execOp, go_sem, h]) (fun _ => rfl)
 ·exact q_load1 (off := 7) (fs := [.n (0), .n (0), .v (.bool true), .n (0), .v (.int .i64 0)]) (u := .int .i64 0) hp (free_of rfl) gqi (mq 5 rfl) (.inl rfl) rfl rfl (fun ρ w b h1 h2 => by simp [execOp, go_sem, h1, h2]) (sqi 9) (fun _ => rfl)
 ·exact q_one (F := fun v _ => v = .int .i64 0) hp (free_of rfl) gqi (sqi 10) (fun ρ w hc h => ⟨.bool false, by simp [execOp, go_sem, h, hc], rfl⟩)
 ·exact q_two (F := fun v _ => v = .bool false) (G := fun v _ => v = .bool false) hp (free_of rfl) trivial (sqi 8) (sqi 11) (fun ρ w hc h h' => ⟨_, by simp [execOp, go_sem, h, h'], rfl⟩)
 ·exact q_move hp (free_of rfl) trivial (sqi 12)
 ·exact q_addr (b := b10_4) (off := 0) (off' := 7) hp (free_of rfl) gqi (sqo 7) (fun ρ w h => by simp [execOp, go_sem, h]) (fun _ => rfl)
 ·exact q_load1 (off := 7) (fs := [.n (0), .n (0), .v (.bool false), .n (7), .v (.int .i64 6)]) (u := .int .i64 6) hp (free_of rfl) gqi (mq 2 rfl) (.inl rfl) rfl rfl (fun ρ w b h1 h2 => by simp [execOp, go_sem, h1, h2]) (sqi 14) (fun _ => rfl)
 ·exact q_one (F := fun v _ => v = .int .i64 6) hp (free_of rfl) gqi (sqi 15) (fun ρ w hc h => ⟨.bool false, by simp [execOp, go_sem, h, hc], rfl⟩)
 ·exact q_two (F := fun v _ => v = .bool false) (G := fun v _ => v = .bool false) hp (free_of rfl) trivial (sqi 13) (sqi 16) (fun ρ w hc h h' => ⟨_, by simp [execOp, go_sem, h, h'], rfl⟩)
 ·exact q_move hp (free_of rfl) trivial (sqi 17)
 ·exact q_addr (b := b11_4) (off := 0) (off' := 7) hp (free_of rfl) gqi (sqo 8) (fun ρ w h => by simp [execOp, go_sem, h]) (fun _ => rfl)
 ·exact q_load1 (off := 7) (fs := [.n (0), .n (0), .v (.bool false), .n (0), .v (.int .i64 1)]) (u := .int .i64 1) hp (free_of rfl) gqi (mq 1 rfl) (.inl rfl) rfl rfl (fun ρ w b h1 h2 => by simp [execOp, go_sem, h1, h2]) (sqi 19) (fun _ => rfl)
 ·exact q_one (F := fun v _ => v = .int .i64 1) hp (free_of rfl) gqi (sqi 20) (fun ρ w hc h => ⟨.bool false, by simp [execOp, go_sem, h, hc], rfl⟩)
 ·exact q_two (F := fun v _ => v = .bool false) (G := fun v _ => v = .bool false) hp (free_of rfl) trivial (sqi 18) (sqi 21) (fun ρ w hc h h' => ⟨_, by simp [execOp, go_sem, h, h'], rfl⟩)
 ·exact q_move hp (free_of rfl) trivial (sqi 22)
 ·exact q_move hp (free_of rfl) gqi (sqo 10)
 ·exact q_one (F := fun v _ => v = .int .i64 0) hp (free_of rfl) gqi (sqi 24) (fun ρ w hc h => ⟨.bool false, by simp [execOp, go_sem, h, hc], rfl⟩)
 ·exact q_two (F := fun v _ => v = .bool false) (G := fun v _ => v = .bool false) hp (free_of rfl) trivial (sqi 23) (sqi 25) (fun ρ w hc h h' => ⟨_, by simp [execOp, go_sem, h, h'], rfl⟩)
 intro L vs w13 nb hL hC hn E13
 have e0 : vs 0 = .pointer (some ⟨b9_12, 7, none⟩) := hC 0 (by simp)
 have e1 : vs 1 = .int .i64 0 := hC 1 (by simp)
 have e2 : vs 2 = .bool false := hC 2 (by simp)
 have e3 : vs 3 = .bool false := hC 3 (by simp)
 have e4 : vs 4 = .pointer (some ⟨b9_13, 7, none⟩) := hC 4 (by simp)
 have e5 : vs 5 = .int .i64 0 := hC 5 (by simp)
 have e6 : vs 6 = .bool false := hC 6 (by simp)
 have e7 : vs 7 = .bool false := hC 7 (by simp)
 have e8 : vs 8 = .bool false := hC 8 (by simp)
 have e9 : vs 9 = .pointer (some ⟨b9_14, 7, none⟩) := hC 9 (by simp)
 have e10 : vs 10 = .int .i64 0 := hC 10 (by simp)
 have e11 : vs 11 = .bool false := hC 11 (by simp)
 have e12 : vs 12 = .bool false := hC 12 (by simp)
 have e13 : vs 13 = .bool false := hC 13 (by simp)
 have e14 : vs 14 = .pointer (some ⟨b10_4, 7, none⟩) := hC 14 (by simp)
 have e15 : vs 15 = .int .i64 6 := hC 15 (by simp)
 have e16 : vs 16 = .bool false := hC 16 (by simp)
 have e17 : vs 17 = .bool false := hC 17 (by simp)
 have e18 : vs 18 = .bool false := hC 18 (by simp)
 have e19 : vs 19 = .pointer (some ⟨b11_4, 7, none⟩) := hC 19 (by simp)
 have e20 : vs 20 = .int .i64 1 := hC 20 (by simp)
 have e21 : vs 21 = .bool false := hC 21 (by simp)
 have e22 : vs 22 = .bool false := hC 22 (by simp)
 have e23 : vs 23 = .bool false := hC 23 (by simp)
 have e24 : vs 24 = .int .i64 0 := hC 24 (by simp)
 have e25 : vs 25 = .bool false := hC 25 (by simp)
 have e26 : vs 26 = .bool false := hC 26 (by simp)
 have E : Fr w [(b12_6, 5, Fq.st [.n (0), .n (4), .v (.bool false)]), (b11_4, 8, Fq.st [.n (0), .n (0), .v (.bool false), .n (0), .v (.int .i64 1)]), (b10_4, 8, Fq.st [.n (0), .n (0), .v (.bool false), .n (7), .v (.int .i64 6)]), (b9_12, 8, Fq.st [.n (4), .n (2), .v (.bool false), .n (0), .v (.int .i64 0)]), (b9_13, 8, Fq.st [.n (2), .n (1), .v (.bool false), .n (0), .v (.int .i64 0)]), (b9_14, 8, Fq.st [.n (0), .n (0), .v (.bool true), .n (0), .v (.int .i64 0)]), (b6_1, 5, Fq.st [.n (0), .n (1), .v (.bool false)]), (b5_4, 6, Fq.st [.n (1), .n (1), .n (35)]), (b3_4, 6, Fq.st [.n (1), .n (1), .n (5)])] w13 := E13
 rw [lay_all hL]
 simp only [putAll, dstOf, List.length_cons, List.length_nil, Nat.zero_add, Nat.reduceAdd, List.getElem?_toArray, List.getElem?_cons_zero, List.getElem?_cons_succ, Option.bind_some, Act.put, List.setIfInBounds_toArray, List.set_cons_succ, List.set_cons_zero]
 rw [e0, e1, e2, e3, e4, e5, e6, e7, e8, e9, e10, e11, e12, e13, e14, e15, e16, e17, e18, e19, e20, e21, e22, e23, e24, e25, e26]
 clear e0 e1 e2 e3 e4 e5 e6 e7 e8 e9 e10 e11 e12 e13 e14 e15 e16 e17 e18 e19 e20 e21 e22 e23 e24 e25 e26 hC hn E13 hL vs L nb
 go_upto_region 10 with (fail)
 have B14 : Hid (ab ((7)) < pw 3) := ab_lit (by decide)
 refine region_fr (C := [Fq.is (.pointer (some ⟨b9_12, 0, none⟩)), Fq.st [.n (4), .n (2), .v (.bool false)], Fq.st [.n (4), .n (2), .v (.bool false)], Fq.is (.bool true), Fq.is (.bool true), Fq.is (.pointer (some ⟨b9_13, 0, none⟩)), Fq.st [.n (2), .n (1), .v (.bool false)], Fq.st [.n (2), .n (1), .v (.bool false)], Fq.is (.bool true), Fq.is (.bool true), Fq.is (.bool true), Fq.is (.pointer (some ⟨b9_14, 0, none⟩)), Fq.is (.pointer (some ⟨b9_14, 4, none⟩)), Fq.is (.bool true), Fq.is (.bool true), Fq.is (.bool true), Fq.is (.pointer (some ⟨b10_4, 5, none⟩)), Fq.num (7), Fq.num (7), Fq.is (.bool true), Fq.is (.bool true), Fq.is (.bool true), Fq.st [.n (0), .n (4), .v (.bool false)], Fq.st [.n (0), .n (4), .v (.bool false)], Fq.is (.bool true), Fq.is (.bool true), Fq.is (.bool true), Fq.st [.n (1), .n (1), .n (5)], Fq.st [.n (0), .n (1), .v (.bool false)], Fq.is (.bool true), Fq.is (.bool true), Fq.is (.bool true), Fq.st [.n (1), .n (1), .n (5)], Fq.st [.n (1), .n (1), .v (.bool false)], Fq.is (.bool false), Fq.is (.bool true), Fq.is (.bool true), Fq.is (.bool true)]) (ks := [none, none, none, none, none, none, none, none, none]) (new := []) E rfl (by kernel_rfl) rfl rfl (fun hp => ⟨?_, ?_, ?_, ?_, ?_, ?_, ?_, ?_, ?_, ?_, ?_, ?_, ?_, ?_, ?_, ?_, ?_, ?_, ?_, ?_, ?_, ?_, ?_, ?_, ?_, ?_, ?_, ?_, ?_, ?_, ?_, ?_, ?_, ?_, ?_, ?_, ?_, ?_, trivial⟩) ?_
 ·exact q_addr (b := b9_12) (off := 0) (off' := 0) hp (free_of rfl) trivial (sqo 4) (fun ρ w h => by simp [execOp, go_sem, h]) (fun _ => rfl)
 ·exact q_loadSt (off := 0) (l := 5) (fs := [.n (4), .n (2), .v (.bool false), .n (0), .v (.int .i64 0)]) (gs := [.n (4), .n (2), .v (.bool false)]) hp (free_of rfl) trivial (mq 3 rfl) (.inl rfl) rfl row_api_Point rfl (sqi 0) (fun v w h => h)
 ·exact q_call2 (F := (Fq.is (.int .i64 4)).P) (G := (Fq.is (.int .i64 2)).P) hp (free_of rfl) trivial (enq_f_algorist_algoristlaw06_at) (sq_const (fun _ => rfl)) (sq_const (fun _ => rfl)) (fun v v' w h h' => (by subst h h'; exact exAt (x := 4) (y := 2) (by omega) (by omega)))
 ·exact q_call2 (F := (Fq.st [.n (4), .n (2), .v (.bool false)]).P) (G := (Fq.st [.n (4), .n (2), .v (.bool false)]).P) hp (free_of rfl) trivial (enq_f_algorist_algoristref06_Same) (sqi 1) (sqi 2) (fun v v' w h h' => exPtSame (P := ⟨(4), (2), false⟩) (Q := ⟨(4), (2), false⟩) h h' rfl)
 ·exact q_move hp (free_of rfl) trivial (sqi 3)
 ·exact q_addr (b := b9_13) (off := 0) (off' := 0) hp (free_of rfl) gqi (sqo 5) (fun ρ w h => by simp [execOp, go_sem, h]) (fun _ => rfl)
 ·exact q_loadSt (off := 0) (l := 5) (fs := [.n (2), .n (1), .v (.bool false), .n (0), .v (.int .i64 0)]) (gs := [.n (2), .n (1), .v (.bool false)]) hp (free_of rfl) gqi (mq 4 rfl) (.inl rfl) rfl row_api_Point rfl (sqi 5) (fun v w h => h)
 ·exact q_call2 (F := (Fq.is (.int .i64 2)).P) (G := (Fq.is (.int .i64 1)).P) hp (free_of rfl) gqi (enq_f_algorist_algoristlaw06_at) (sq_const (fun _ => rfl)) (sq_const (fun _ => rfl)) (fun v v' w h h' => (by subst h h'; exact exAt (x := 2) (y := 1) (by omega) (by omega)))
 ·exact q_call2 (F := (Fq.st [.n (2), .n (1), .v (.bool false)]).P) (G := (Fq.st [.n (2), .n (1), .v (.bool false)]).P) hp (free_of rfl) gqi (enq_f_algorist_algoristref06_Same) (sqi 6) (sqi 7) (fun v v' w h h' => exPtSame (P := ⟨(2), (1), false⟩) (Q := ⟨(2), (1), false⟩) h h' rfl)
 ·exact q_two (F := fun v _ => v = .bool true) (G := fun v _ => v = .bool true) hp (free_of rfl) trivial (sqi 4) (sqi 8) (fun ρ w hc h h' => ⟨_, by simp [execOp, go_sem, h, h'], rfl⟩)
 ·exact q_move hp (free_of rfl) trivial (sqi 9)
 ·exact q_addr (b := b9_14) (off := 0) (off' := 0) hp (free_of rfl) gqi (sqo 6) (fun ρ w h => by simp [execOp, go_sem, h]) (fun _ => rfl)
 ·exact q_addr (b := b9_14) (off := 0) (off' := 4) hp (free_of rfl) gqi (sqi 11) (fun ρ w h => by simp [execOp, go_sem, h]) (fun _ => rfl)
 ·exact q_load1 (off := 4) (fs := [.n (0), .n (0), .v (.bool true), .n (0), .v (.int .i64 0)]) (u := .bool true) hp (free_of rfl) gqi (mq 5 rfl) (.inl rfl) rfl rfl (fun ρ w b h1 h2 => by simp [execOp, go_sem, h1, h2]) (sqi 12) (fun _ => rfl)
 ·exact q_two (F := fun v _ => v = .bool true) (G := fun v _ => v = .bool true) hp (free_of rfl) trivial (sqi 10) (sqi 13) (fun ρ w hc h h' => ⟨_, by simp [execOp, go_sem, h, h'], rfl⟩)
 ·exact q_move hp (free_of rfl) trivial (sqi 14)
 ·exact q_addr (b := b10_4) (off := 0) (off' := 5) hp (free_of rfl) gqi (sqo 7) (fun ρ w h => by simp [execOp, go_sem, h]) (fun _ => rfl)
 ·exact q_loadSt (off := 5) (l := 2) (fs := [.n (0), .n (0), .v (.bool false), .n (7), .v (.int .i64 6)]) (gs := [.n (7)]) hp (free_of rfl) gqi (mq 2 rfl) (.inl rfl) rfl row_api_Int rfl (sqi 16) (fun v w h => st_num h)
 ·exact q_call1 (F := (Fq.is (.int .i64 7)).P) hp (free_of rfl) gqi (enq_R_Of) (sq_const (fun _ => rfl)) (fun v w h => (by subst h; exact rOfK w (7) (by omega) (by omega)))
 ·exact q_call2 (F := (Fq.num (7)).P) (G := (Fq.num (7)).P) hp (free_of rfl) gqi (enq_R_Same) (sqi 17) (sqi 18) (fun v v' w h h' => exRSameB h h' rfl)
 ·exact q_two (F := fun v _ => v = .bool true) (G := fun v _ => v = .bool true) hp (free_of rfl) trivial (sqi 15) (sqi 19) (fun ρ w hc h h' => ⟨_, by simp [execOp, go_sem, h, h'], rfl⟩)
 ·exact q_move hp (free_of rfl) trivial (sqi 20)
 ·exact q_loadSt (off := 0) (l := 5) (fs := [.n (0), .n (4), .v (.bool false)]) (gs := [.n (0), .n (4), .v (.bool false)]) hp (free_of rfl) gqi (mq 0 rfl) (.inl rfl) rfl row_api_Point rfl (sqo 9) (fun v w h => h)
 ·exact q_call2 (F := (Fq.is (.int .i64 0)).P) (G := (Fq.is (.int .i64 4)).P) hp (free_of rfl) gqi (enq_f_algorist_algoristlaw06_at) (sq_const (fun _ => rfl)) (sq_const (fun _ => rfl)) (fun v v' w h h' => (by subst h h'; exact exAt (x := 0) (y := 4) (by omega) (by omega)))
 ·exact q_call2 (F := (Fq.st [.n (0), .n (4), .v (.bool false)]).P) (G := (Fq.st [.n (0), .n (4), .v (.bool false)]).P) hp (free_of rfl) gqi (enq_f_algorist_algoristref06_Same) (sqi 22) (sqi 23) (fun v v' w h h' => exPtSame (P := ⟨(0), (4), false⟩) (Q := ⟨(0), (4), false⟩) h h' rfl)
 ·exact q_two (F := fun v _ => v = .bool true) (G := fun v _ => v = .bool true) hp (free_of rfl) trivial (sqi 21) (sqi 24) (fun ρ w hc h h' => ⟨_, by simp [execOp, go_sem, h, h'], rfl⟩)
 ·exact q_move hp (free_of rfl) trivial (sqi 25)
 ·exact q_loadSt (off := 0) (l := 6) (fs := [.n (1), .n (1), .n (5)]) (gs := [.n (1), .n (1), .n (5)]) hp (free_of rfl) gqi (mq 8 rfl) (.inl rfl) rfl row_api_Mod rfl (sqo 1) (fun v w h => h)
 ·exact q_loadSt (off := 0) (l := 5) (fs := [.n (0), .n (1), .v (.bool false)]) (gs := [.n (0), .n (1), .v (.bool false)]) hp (free_of rfl) gqi (mq 6 rfl) (.inl rfl) rfl row_api_Point rfl (sqo 3) (fun v w h => h)
 ·exact q_call2 (F := (Fq.st [.n (1), .n (1), .n (5)]).P) (G := (Fq.st [.n (0), .n (1), .v (.bool false)]).P) hp (free_of rfl) gqi (enq_f_algorist_point_On) (sqi 27) (sqi 28) (fun v v' w h h' => exOn (x := 0) (y := 1) (i := false) h h' (lit5 (by decide)) (lit5 (by decide)) (lit5 (by decide)) (lit5 (by decide)) (lit5 (by decide)) (by decide))
 ·exact q_two (F := fun v _ => v = .bool true) (G := fun v _ => v = .bool true) hp (free_of rfl) trivial (sqi 26) (sqi 29) (fun ρ w hc h h' => ⟨_, by simp [execOp, go_sem, h, h'], rfl⟩)
 ·exact q_move hp (free_of rfl) trivial (sqi 30)
 ·exact q_loadSt (off := 0) (l := 6) (fs := [.n (1), .n (1), .n (5)]) (gs := [.n (1), .n (1), .n (5)]) hp (free_of rfl) gqi (mq 8 rfl) (.inl rfl) rfl row_api_Mod rfl (sqo 1) (fun v w h => h)
 ·exact q_call2 (F := (Fq.is (.int .i64 1)).P) (G := (Fq.is (.int .i64 1)).P) hp (free_of rfl) gqi (enq_f_algorist_algoristlaw06_at) (sq_const (fun _ => rfl)) (sq_const (fun _ => rfl)) (fun v v' w h h' => (by subst h h'; exact exAt (x := 1) (y := 1) (by omega) (by omega)))
 ·exact q_call2 (F := (Fq.st [.n (1), .n (1), .n (5)]).P) (G := (Fq.st [.n (1), .n (1), .v (.bool false)]).P) hp (free_of rfl) gqi (enq_f_algorist_point_On) (sqi 32) (sqi 33) (fun v v' w h h' => exOn (x := 1) (y := 1) (i := false) h h' (lit5 (by decide)) (lit5 (by decide)) (lit5 (by decide)) (lit5 (by decide)) (lit5 (by decide)) (by decide))
 ·exact q_one (F := fun v _ => v = .bool false) hp (free_of rfl) gqi (sqi 34) (fun ρ w _ h => ⟨.bool true, by simp [execOp, go_sem, h], rfl⟩)
 ·exact q_two (F := fun v _ => v = .bool true) (G := fun v _ => v = .bool true) hp (free_of rfl) trivial (sqi 31) (sqi 35) (fun ρ w hc h h' => ⟨_, by simp [execOp, go_sem, h, h'], rfl⟩)
 ·exact q_assign hp (free_of rfl) trivial (sqi 36)
 intro L vs w15 nb hL hC hn E15
 have e0 : vs 0 = .pointer (some ⟨b9_12, 0, none⟩) := hC 0 (by simp)
 have e3 : vs 3 = .bool true := hC 3 (by simp)
 have e4 : vs 4 = .bool true := hC 4 (by simp)
 have e5 : vs 5 = .pointer (some ⟨b9_13, 0, none⟩) := hC 5 (by simp)
 have e8 : vs 8 = .bool true := hC 8 (by simp)
 have e9 : vs 9 = .bool true := hC 9 (by simp)
 have e10 : vs 10 = .bool true := hC 10 (by simp)
 have e11 : vs 11 = .pointer (some ⟨b9_14, 0, none⟩) := hC 11 (by simp)
 have e12 : vs 12 = .pointer (some ⟨b9_14, 4, none⟩) := hC 12 (by simp)
 have e13 : vs 13 = .bool true := hC 13 (by simp)
 have e14 : vs 14 = .bool true := hC 14 (by simp)
 have e15 : vs 15 = .bool true := hC 15 (by simp)
 have e16 : vs 16 = .pointer (some ⟨b10_4, 5, none⟩) := hC 16 (by simp)
 have e19 : vs 19 = .bool true := hC 19 (by simp)
 have e20 : vs 20 = .bool true := hC 20 (by simp)
 have e21 : vs 21 = .bool true := hC 21 (by simp)
 have e24 : vs 24 = .bool true := hC 24 (by simp)
 have e25 : vs 25 = .bool true := hC 25 (by simp)
 have e26 : vs 26 = .bool true := hC 26 (by simp)
 have e29 : vs 29 = .bool true := hC 29 (by simp)
 have e30 : vs 30 = .bool true := hC 30 (by simp)
 have e31 : vs 31 = .bool true := hC 31 (by simp)
 have e34 : vs 34 = .bool false := hC 34 (by simp)
 have e35 : vs 35 = .bool true := hC 35 (by simp)
 have e36 : vs 36 = .bool true := hC 36 (by simp)
 have e37 : vs 37 = .bool true := hC 37 (by simp)
 have E : Fr w [(b12_6, 5, Fq.st [.n (0), .n (4), .v (.bool false)]), (b11_4, 8, Fq.st [.n (0), .n (0), .v (.bool false), .n (0), .v (.int .i64 1)]), (b10_4, 8, Fq.st [.n (0), .n (0), .v (.bool false), .n (7), .v (.int .i64 6)]), (b9_12, 8, Fq.st [.n (4), .n (2), .v (.bool false), .n (0), .v (.int .i64 0)]), (b9_13, 8, Fq.st [.n (2), .n (1), .v (.bool false), .n (0), .v (.int .i64 0)]), (b9_14, 8, Fq.st [.n (0), .n (0), .v (.bool true), .n (0), .v (.int .i64 0)]), (b6_1, 5, Fq.st [.n (0), .n (1), .v (.bool false)]), (b5_4, 6, Fq.st [.n (1), .n (1), .n (35)]), (b3_4, 6, Fq.st [.n (1), .n (1), .n (5)])] w15 := E15
 rw [lay_all hL]
 simp only [putAll, dstOf, List.length_cons, List.length_nil, Nat.zero_add, Nat.reduceAdd, List.getElem?_toArray, List.getElem?_cons_zero, List.getElem?_cons_succ, Option.bind_some, Act.put, List.setIfInBounds_toArray, List.set_cons_succ, List.set_cons_zero]
 rw [e0, e3, e4, e5, e8, e9, e10, e11, e12, e13, e14, e15, e16, e19, e20, e21, e24, e25, e26, e29, e30, e31, e34, e35, e36, e37]
 generalize vs 1 = u15_1
 generalize vs 2 = u15_2
 generalize vs 6 = u15_6
 generalize vs 7 = u15_7
 generalize vs 17 = u15_17
 generalize vs 18 = u15_18
 generalize vs 22 = u15_22
 generalize vs 23 = u15_23
 generalize vs 27 = u15_27
 generalize vs 28 = u15_28
 generalize vs 32 = u15_32
 generalize vs 33 = u15_33
 clear e0 e3 e4 e5 e8 e9 e10 e11 e12 e13 e14 e15 e16 e19 e20 e21 e24 e25 e26 e29 e30 e31 e34 e35 e36 e37 hC hn E15 hL vs L nb
 clear B1 B2 B4 B7 B8 B14
 go_wp2
 refine bodyPost_ret (v := .bool true) ?_ rfl ⟨_, rfl, E.below, rfl⟩
 simp [results, Try.results7, go_sem]

end Go.Proofs.Ytihhlaagndingaa

namespace Go.Proofs.Ytihhlaagndingaa
open Go Go.RowKit

theorem least_pr {K : Nat} (hK : Pr K) : ∀ j n, n + j = K → ∃ p, Pr p ∧ n ≤ p ∧ p ≤ K ∧ ∀ q, n ≤ q → q < p → ¬ Pr q
 | 0, n, h => ⟨K, hK, by omega, Nat.le_refl _, fun q _ _ => by omega⟩
 | j + 1, n, h => by
  by_cases hp : Pr n
  ·exact ⟨n, hp, Nat.le_refl _, by omega, fun q _ _ => by omega⟩
  ·obtain ⟨p, h1, h2, h3, h4⟩ := least_pr hK j (n + 1) (by omega)
   refine ⟨p, h1, by omega, h3, fun q g1 g2 => ?_⟩
   rcases Nat.lt_or_ge n q with g | g
   ·exact h4 q g g2
   ·rw [show q = n by omega]; exact hp
theorem prime_odd {p : Nat} (h : Pr p) (h5 : 5 ≤ p) : p % 2 = 1 := by
 rcases Nat.mod_two_eq_zero_or_one p with e | e
 ·have := h.2 2 (Nat.dvd_of_mod_eq_zero e); omega
 ·exact e
theorem curve_on {m A X Y : Int} (h3 : 3 < m) (ho : m % 2 = 1) (hA : 0 ≤ A ∧ A < m) (hX : 0 ≤ X ∧ X < m) (hY : 0 ≤ Y ∧ Y < m) : onB A ((Y * Y - ((X * X) + A) * X) % m) m X Y false = true := by
 have h1 := Int.emod_nonneg (Y * Y - ((X * X) + A) * X) (show m ≠ 0 by omega)
 have h2 := Int.emod_lt_of_pos (Y * Y - ((X * X) + A) * X) (show 0 < m by omega)
 refine on_of ?_ (fun e => by cases e) fun _ => ⟨⟨hX.1, hX.2, hY.1, hY.2⟩, ?_⟩
 ·simp only [curveB, resB, Bool.and_eq_true, decide_eq_true_eq]; omega
 ·have h4 := cg_mod m (Y * Y - ((X * X) + A) * X)
  obtain ⟨k, hk⟩ := h4
  exact ⟨-k, by rw [Int.mul_neg]; omega⟩
theorem sameP_refl (P : Pt) : sameP P P = true := by simp [sameP]
theorem ab5 {z : Int} (h : -4294967296 ≤ z ∧ z ≤ 4294967296) : ab z < pw 5 := Int.lt_of_lt_of_le (ab_i64 (by omega) (by omega)) (pw_le (by omega))
end Go.Proofs.Ytihhlaagndingaa

namespace Go.Proofs.Ytihhlaagndingaa
open Go Go.RowKit

def noSl : List Fd → Bool
 | [] => true
 | .v (.slice _ _ _) :: _ => false
 | _ :: r => noSl r
def FarC (own : Option Nat) (es : List Value) : Prop := ∀ a k c, Value.slice (some a) k c ∈ es → k ≠ 0 → some a.block ≠ own
theorem FarC.tail {own : Option Nat} {u : Value} {es : List Value} (h : FarC own (u :: es)) : FarC own es := fun a k c hm hk => h a k c (List.mem_cons_of_mem _ hm) hk
theorem Fits.grown {w w' : World} {row : Option Nat} (hg : w.grownBy w' row) : ∀ {fs : List Fd} {es : List Value}, Fits w fs es → FarC row es → Fits w' fs es
 | [], _, h, _ => h
 | .n z :: fs, _, ⟨a, b, r, e, h1, h2⟩, hf => by
  subst e
  refine ⟨a, b, r, rfl, ?_, Fits.grown hg h2 hf.tail.tail⟩
  obtain ⟨n, ao, k, c, e⟩ := h1.parts
  rw [e] at h1 ⊢
  injection e with e
  have e2 := congrArg Array.toList e
  simp at e2
  obtain ⟨rfl, rfl⟩ := e2
  exact h1.grown hg fun x hx hk => hf x k c (by rw [hx]; simp) hk
 | .v u :: fs, _, ⟨r, e, h1, h2⟩, hf => by
  subst e
  exact ⟨r, rfl, h1, Fits.grown hg h2 hf.tail⟩
 | .r n ao k c xs z :: fs, _, ⟨r, e, h1, h2⟩, hf => by
  subst e
  refine ⟨r, rfl, ⟨?_, h1.2.grown hg fun x hx hk => hf x k c (by rw [hx]; simp) hk⟩, Fits.grown hg h2 hf.tail.tail⟩
  have hs := h1.1
  refine ⟨hs.len, hs.cap, hs.cells.1, ?_⟩
  rcases hs.cells.2 with h0 | ⟨b, off, rfl, hlt, hc⟩
  ·exact .inl h0
  ·rcases Nat.eq_zero_or_pos k with h0 | h0
   ·exact .inl (List.eq_nil_of_length_eq_zero (hs.len.trans h0))
   ·exact .inr ⟨b, off, rfl, Nat.lt_of_lt_of_le hlt hg.size, fun j hj => hg.cell (hc j hj) (show some b ≠ row from hf ⟨b, off, none⟩ k c (by simp) (by omega))⟩
theorem Fits.blk {w : World} : ∀ {fs : List Fd} {es : List Value}, Fits w fs es → noSl fs = true → ∀ {a : Addr} {k c : Nat}, Value.slice (some a) k c ∈ es → k ≠ 0 → a.block < w.heap.size
 | [], _, h, _, _, _, _, hm, _ => by rw [show _ = [] from h] at hm; simp at hm
 | .n z :: fs, _, ⟨x, y, r, e, h1, h2⟩, hn, a, k, c, hm, hk => by
  subst e
  obtain ⟨n, ao, k', c', e⟩ := h1.parts
  have h3 := h1
  rw [e] at h3
  injection e with e
  have e2 := congrArg Array.toList e
  simp at e2
  obtain ⟨rfl, rfl⟩ := e2
  simp only [List.mem_cons, reduceCtorEq, false_or] at hm
  rcases hm with hm | hm
  ·injection hm with hm1 hm2 hm3
   subst hm1 hm2 hm3
   exact h3.blk hk
  ·exact Fits.blk h2 hn hm hk
 | .v u :: fs, _, ⟨r, e, h1, h2⟩, hn, a, k, c, hm, hk => by
  subst e
  rcases List.mem_cons.1 hm with hm | hm
  ·subst hm; simp [noSl] at hn
  ·refine Fits.blk h2 ?_ hm hk
   cases u <;> first | exact hn | simp [noSl] at hn
 | .r n ao k' c' xs z :: fs, _, ⟨r, e, h1, h2⟩, hn, a, k, c, hm, hk => by
  subst e
  simp only [List.mem_cons, reduceCtorEq, false_or] at hm
  rcases hm with hm | hm
  ·injection hm with hm1 hm2 hm3
   subst hm1 hm2 hm3
   exact h1.2.blk hk
  ·exact Fits.blk h2 hn hm hk
def StAt (w : World) (g o : Nat) (fs : List Fd) : Prop := ∃ es, Fits w fs es ∧ ∀ j, j < es.length → w.cell? ⟨g, o + j, none⟩ = some (es.getD j undef)
theorem StAt.mono {w w' : World} {g o : Nat} {fs : List Fd} (h : StAt w g o fs) (hl : g < w.heap.size) (hb : Below w.heap.size w w') : StAt w' g o fs := by
 obtain ⟨es, h1, h2⟩ := h
 exact ⟨es, h1.mono hb, fun j hj => (hb.cell (p := ⟨g, o + j, none⟩) hl).trans (h2 j hj)⟩
def Sts (m : Nat) (w : World) (v : Value) (fss : List (List Fd)) : Prop := ∃ g cap, v = .slice (some ⟨g, 0, none⟩) fss.length cap ∧ g < w.heap.size ∧ ∀ i fs, fss[i]? = some fs → StAt w g (i * m) fs
theorem Sts.mono {m : Nat} {w w' : World} {v : Value} {fss : List (List Fd)} (h : Sts m w v fss) (hb : Below w.heap.size w w') : Sts m w' v fss := by
 obtain ⟨g, cap, e, h1, h2⟩ := h
 exact ⟨g, cap, e, Nat.lt_of_lt_of_le h1 hb.size, fun i fs hi => (h2 i fs hi).mono h1 hb⟩
def StCell (m : Nat) (us : List Value) (w : World) (own : Option Nat) (i : Nat) (fs : List Fd) : Prop := ∃ es, es.length = m ∧ (∀ j, j < m → us[i * m + j]? = es[j]?) ∧ FarC own es ∧ Fits w fs es ∧ noSl fs = true
def Ls (T m : Nat) (W : World) (B : Nat) (v : Value) (fss : List (List Fd)) : Prop := ∃ us, W.ownsRow B T m v fss.length us ∧ ∀ i fs, fss[i]? = some fs → StCell m us W v.ownBlock i fs
theorem Ls.shape {T m : Nat} {W : World} {B : Nat} {v : Value} {fss : List (List Fd)} (h : Ls T m W B v fss) : ∃ ao cap, v = .slice ao fss.length cap := by
 obtain ⟨us, h, _⟩ := h
 rcases h.2 with ⟨rfl, h0⟩ | ⟨g, cap, cur, rfl, _⟩
 ·exact ⟨none, 0, by rw [h0]⟩
 ·exact ⟨_, _, rfl⟩
theorem Ls.mono {T m : Nat} {w w' : World} {B : Nat} {v : Value} {fss : List (List Fd)} (h : Ls T m w B v fss) (hb : Below w.heap.size w w') : Ls T m w' B v fss := by
 obtain ⟨us, h, hE⟩ := h
 refine ⟨us, ⟨h.1, ?_⟩, fun i z hi => ?_⟩
 ·rcases h.2 with h2 | ⟨g, cap, cur, h1, h2, h3, h4⟩
  ·exact .inl h2
  ·exact .inr ⟨g, cap, cur, h1, h2, by rw [hb.block g (Array.getElem?_eq_some_iff.1 h3).1]; exact h3, h4⟩
 ·obtain ⟨es, g1, g2, g3, g4, g5⟩ := hE i z hi
  exact ⟨es, g1, g2, g3, g4.mono hb, g5⟩
theorem Ls.one {T m : Nat} (w : World) {B : Nat} {fs : List Fd} {es : List Value} (hB : B ≤ w.heap.size) (hm : es.length = m) (hF : Fits w fs es) (hn : noSl fs = true) : Ls T m (w.alloc (.cells es.toArray T)) B (.slice (some ⟨w.heap.size, 0, none⟩) 1 1) [fs] := by
 refine ⟨es, ⟨by simp [hm], .inr ⟨w.heap.size, 1, es.toArray, rfl, hB, ?_, ?_⟩⟩, fun i z hi => ?_⟩
 ·exact heap_alloc_new w _
 ·simp [hm]
  exact ⟨by unfold maxLen; omega, by rw [← hm, List.take_length]⟩
 ·match i, hi with
  | 0, hi =>
   simp at hi
   subst hi
   refine ⟨es, hm, fun j _ => by rw [Nat.zero_mul, Nat.zero_add], fun a k c hs hk e => ?_, hF.mono (alloc_below _ _), hn⟩
   have h1 := hF.blk hn hs hk
   simp [Value.ownBlock] at e
   omega
  | i + 1, hi => simp at hi
theorem Ls.step {T m B : Nat} {w wr w1 w2 : World} {v : Value} {fss : List (List Fd)} {us es : List Value} {fs : List Fd} {o : Obj} {g cap H : Nat}
  (hO : wr.ownsRow B T m v fss.length us) (hE : ∀ i z, fss[i]? = some z → StCell m us wr v.ownBlock i z) (hB : B ≤ wr.heap.size) (hnx : Below B w wr) (hb : Below wr.heap.size wr w1)
  (hnew : ∀ a k c, Value.slice (some a) k c ∈ es → k ≠ 0 → wr.heap.size ≤ a.block) (hF : Fits w1 fs es) (hn : noSl fs = true) (hm : es.length = m)
  (hown' : w2.ownsRow B T m (.slice (some ⟨g, 0, none⟩) (fss.length + 1) cap) (fss.length + 1) (us ++ es)) (hgrow : (w1.alloc o).grownBy w2 v.ownBlock) (hat : v.ownBlock = some g ∨ g = H) (hH : (w1.alloc o).heap.size = H) :
  Ls T m w2 B (.slice (some ⟨g, 0, none⟩) (fss.length + 1) cap) (fss ++ [fs]) ∧ Below B w w2 := by
 have hsz := hb.size
 have hH2 : w1.heap.size + 1 = H := by rw [← hH]; simp
 have hlt := hO.lt
 have hul := hO.1
 refine ⟨⟨us ++ es, by simpa using hown', fun i y hi => ?_⟩, ?_⟩
 ·have hne : ∀ {a : Addr} {k c : Nat} {xs : List Value} {gs : List Fd}, Fits w1 gs xs → noSl gs = true → Value.slice (some a) k c ∈ xs → k ≠ 0 → some a.block ≠ v.ownBlock → a.block ≠ g := by
   intro a k c xs gs hx hnx2 hmx hk hr e
   have h1 := hx.blk hnx2 hmx hk
   rcases hat with h | h
   ·rw [h, e] at hr; exact hr rfl
   ·omega
  by_cases hil : i < fss.length
  ·rw [List.getElem?_append_left hil] at hi
   obtain ⟨xs, g1, g2, g3, g4, g5⟩ := hE i y hi
   refine ⟨xs, g1, fun j hj => ?_, fun a k c hs hk e => ?_, ((g4.mono hb).mono (alloc_below w1 o)).grown hgrow g3, g5⟩
   ·have hm1 : (i + 1) * m ≤ fss.length * m := Nat.mul_le_mul_right m (by omega)
    rw [Nat.add_mul, Nat.one_mul] at hm1
    rw [List.getElem?_append_left (by omega)]
    exact g2 j hj
   ·exact hne (g4.mono hb) g5 hs hk (g3 a k c hs hk) (by simpa [Value.ownBlock] using e)
  ·have hi2 : i = fss.length := by
    rcases Nat.lt_or_ge i (fss ++ [fs]).length with h | h
    ·simp at h; omega
    ·rw [List.getElem?_eq_none h] at hi; cases hi
   subst hi2
   rw [List.getElem?_append_right (Nat.le_refl _), Nat.sub_self] at hi
   simp only [List.getElem?_cons_zero, Option.some.injEq] at hi
   subst hi
   have hfar : FarC v.ownBlock es := fun a k c hs hk e => by
    have h1 := hnew a k c hs hk
    have h2 := (hlt a.block e.symm).2
    omega
   refine ⟨es, hm, fun j hj => ?_, fun a k c hs hk e => ?_, (hF.mono (alloc_below w1 o)).grown hgrow hfar, hn⟩
   ·rw [List.getElem?_append_right (by omega), show fss.length * m + j - us.length = j by omega]
   ·exact hne hF hn hs hk (hfar a k c hs hk) (by simpa [Value.ownBlock] using e)
 ·exact ((hnx.trans (hb.mono hB)).alloc (by omega) o).grown hgrow (by simp; omega) (fun j hj => (hO.lt j hj).1)
section
variable {os : List Oper} {Q : Exit → Act → World → Prop} {a : Act} {p : Pq} {B B0 : Nat} {w0 : World}
variable {i s : Nat} {d : Option Tmp} {ty : TypeId} {ps : String} {af : Array Edge} {gd : Option (Nat × Bool)}
end
def TameRow (w : World) (v : Value) : Prop := ∃ g n cap cur e, v = .slice (some ⟨g, 0, none⟩) n cap ∧ w.heap[g]? = some (.cells cur e (0, 0)) ∧ ∀ u ∈ cur.toList, tameB u = true
theorem TameRow.mono {w w' : World} {v : Value} (h : TameRow w v) (hb : Below w.heap.size w w') : TameRow w' v := by
 obtain ⟨g, n, cap, cur, e, h1, h2, h3⟩ := h
 exact ⟨g, n, cap, cur, e, h1, by rw [hb.block g (Array.getElem?_eq_some_iff.1 h2).1]; exact h2, h3⟩
theorem TameRow.num {w : World} {v : Value} (h : TameRow w v) {n : Bool} {ao : Option Addr} {k c : Nat} {z : Int} (hN : Num w (.agg #[.bool n, .slice ao k c]) z) : ∀ a, ao = some a → k ≠ 0 → some a.block ≠ v.ownBlock := by
 intro a ha hk e
 obtain ⟨g, n', cap, cur, et, rfl, h2, h3⟩ := h
 obtain ⟨neg, ao', k', c', xs, hv, hs, hn, hz⟩ := hN
 injection hv with hv
 have hv2 := congrArg Array.toList hv
 simp at hv2
 obtain ⟨rfl, rfl, rfl, rfl⟩ := hv2
 subst ha
 rcases hs.cells.2 with h0 | ⟨b, off, e1, hlt, hc⟩
 ·have := hs.len; rw [h0] at this; simp at this; omega
 ·injection e1 with e1
  subst e1
  simp [Value.ownBlock] at e
  subst e
  have h4 := hc 0 (by have := hs.len; omega)
  rw [cell_of_row w b _ cur et _ h2] at h4
  have h5 := List.mem_of_getElem? (l := cur.toList) (i := off + 0) (by rw [Array.getElem?_toList]; exact h4)
  have h6 := h3 _ h5
  simp [tameB] at h6
def RBox (W : World) (own : Option Nat) (br : Nat) (z : Int) : Prop := br < W.heap.size ∧ some br ≠ own ∧ ∃ n ao k c, W.cell? ⟨br, 0, none⟩ = some (.bool n) ∧ W.cell? ⟨br, 1, none⟩ = some (.slice ao k c) ∧ Num W (.agg #[.bool n, .slice ao k c]) z
theorem RBox.mono {W W' : World} {own : Option Nat} {br : Nat} {z : Int} (h : RBox W own br z) (hb : Below W.heap.size W W') : RBox W' own br z := by
 obtain ⟨h1, h2, n, ao, k, c, g1, g2, g3⟩ := h
 exact ⟨Nat.lt_of_lt_of_le h1 hb.size, h2, n, ao, k, c, (hb.cell (p := ⟨br, 0, none⟩) h1).trans g1, (hb.cell (p := ⟨br, 1, none⟩) h1).trans g2, g3.mono hb⟩
theorem RBox.st {W : World} {own : Option Nat} {br : Nat} {z : Int} (h : RBox W own br z) : StAt W br 0 [.n z] := by
 obtain ⟨h1, h2, n, ao, k, c, g1, g2, g3⟩ := h
 refine ⟨[.bool n, .slice ao k c], ⟨_, _, _, rfl, g3, rfl⟩, fun j hj => ?_⟩
 match j, hj with
 | 0, _ => exact g1
 | 1, _ => exact g2
theorem RBox.step {wr w1 w2 : World} {v : Value} {br g H n cap : Nat} {z : Int} {o : Obj} (h : RBox wr v.ownBlock br z) (hb : Below wr.heap.size wr w1) (ht : TameRow (w1.alloc o) v) (hgrow : (w1.alloc o).grownBy w2 v.ownBlock) (hat : v.ownBlock = some g ∨ g = H) (hH : (w1.alloc o).heap.size = H) : RBox w2 (Value.slice (some ⟨g, 0, none⟩) n cap).ownBlock br z := by
 obtain ⟨h1, h2, m, ao, k, c, g1, g2, g3⟩ := (h.mono hb).mono (alloc_below w1 o)
 have hlt : br < H := by rw [← hH]; exact h1
 refine ⟨Nat.lt_of_lt_of_le h1 hgrow.size, ?_, m, ao, k, c, hgrow.cell g1 h2, hgrow.cell g2 h2, g3.grown hgrow (ht.num g3)⟩
 intro e
 simp [Value.ownBlock] at e
 rcases hat with h3 | h3
 ·rw [h3, e] at h2; exact h2 rfl
 ·omega
theorem TameRow.made {w : World} {es : List Value} {T : Nat} (h : ∀ u ∈ es, tameB u = true) : TameRow (w.alloc (.cells es.toArray T)) (.slice (some ⟨w.heap.size, 0, none⟩) 1 1) := ⟨_, _, _, es.toArray, T, rfl, heap_alloc_new w _, fun u hu => h u (by simpa using hu)⟩
end Go.Proofs.Ytihhlaagndingaa

namespace Go.Proofs.Ytihhlaagndingaa
open Go Go.RowKit

end Go.Proofs.Ytihhlaagndingaa

namespace Go.Proofs.Ytihhlaagndingaa
open Go Go.RowKit

def Fm.lst (zs : List Int) (e : Int) : Fm := ⟨fun v w => ∃ l, v = .tuple #[l, .int .i64 e] ∧ Nums w l zs, fun ⟨l, h1, h2⟩ hb => ⟨l, h1, h2.mono hb⟩⟩
def Fm.agg (zs : List Int) (e : Int) : Fm := ⟨fun v w => ∃ l, v = .agg #[l, .int .i64 e] ∧ Nums w l zs, fun ⟨l, h1, h2⟩ hb => ⟨l, h1, h2.mono hb⟩⟩
section
variable {os : List Oper} {Q : Exit → Act → World → Prop} {a : Act} {p : Plan} {B B0 : Nat} {w0 : World}
end

section
variable {os : List Oper} {Q : Exit → Act → World → Prop} {a : Act} {p : Plan} {B B0 : Nat} {w0 : World}
variable {i s : Nat} {d : Option Tmp} {ty : TypeId} {ps : String} {af : Array Edge} {gd : Option (Nat × Bool)}
end

end Go.Proofs.Ytihhlaagndingaa

namespace Go.Proofs.Ytihhlaagndingaa
open Go Go.RowKit

end Go.Proofs.Ytihhlaagndingaa

namespace Go.Proofs.Ytihhlaagndingaa
open Go Go.RowKit

section
variable {os : List Oper} {Q : Exit → Act → World → Prop} {a : Act} {p : Pq} {B B0 : Nat} {w0 : World}
variable {i s : Nat} {d : Option Tmp} {ty : TypeId} {ps : String} {af : Array Edge} {gd : Option (Nat × Bool)}
end
end Go.Proofs.Ytihhlaagndingaa

namespace Go.Proofs.Ytihhlaagndingaa
open Go Go.RowKit

end Go.Proofs.Ytihhlaagndingaa

namespace Go.Proofs.Ytihhlaagndingaa
open Go Go.RowKit

def RowC (B : Nat) (w : World) (v : Value) (fss : List (List Fd)) : Prop := ∃ g cap, v = .slice (some ⟨g, 0, none⟩) fss.length cap ∧ B ≤ g ∧ ∀ i fs, fss[i]? = some fs → ∃ pre es, pre.length = i * 5 ∧ es.length = 5 ∧ Fits w fs es ∧ At w g (pre ++ es) ∧ ∀ u ∈ pre, tameB u = true
theorem RBox.of {w V W : World} {v : Value} {br : Nat} {z : Int} (h : Bq W br 2 (Fq.num z)) (hb : V.heap.size ≤ br) (ht : TameRow V v) : RBox W v.ownBlock br z := by
 obtain ⟨p, q, h1, h2, h3⟩ := box_num h
 have hl := h.lt
 obtain ⟨n, ao, k, c, e⟩ := h3.parts
 have h4 := h3
 rw [e] at h4
 injection e with e
 have e2 := congrArg Array.toList e
 simp at e2
 obtain ⟨rfl, rfl⟩ := e2
 refine ⟨hl, ?_, n, ao, k, c, h1, h2, h4⟩
 obtain ⟨g, n', cap, cur, et, rfl, h5, _⟩ := ht
 intro e
 simp [Value.ownBlock] at e
 have := (Array.getElem?_eq_some_iff.1 h5).1
 omega
end Go.Proofs.Ytihhlaagndingaa

namespace Go.Proofs.Ytihhlaagndingaa
open Go Go.RowKit

theorem Fr.add {w0 W0 W : World} {bs : List (Nat × Nat × Fq)} (E : Fr w0 bs W0) (hb : Below W0.heap.size W0 W) {g m : Nat} {F : Fq} (hg : W0.heap.size ≤ g) (hB : Bq W g m F) : Fr w0 ((g, m, F) :: bs) W := by
 have h2 := E.later hb
 refine ⟨h2.below, fun x hx => ?_, ?_⟩
 ·rcases List.mem_cons.1 hx with rfl | hx
  ·exact ⟨Nat.le_trans E.below.size hg, hB⟩
  ·exact h2.boxes x hx
 ·rw [List.map_cons, List.nodup_cons]
  refine ⟨fun hm => ?_, E.apart⟩
  obtain ⟨x, hx, e⟩ := List.mem_map.1 hm
  have := (E.boxes x hx).2.lt
  omega
def rowF (pre : List Value) (fs : List Fd) : List Fd := pre.map .v ++ fs
theorem fits_v {w : World} : ∀ {pre : List Value}, (∀ u ∈ pre, tameB u = true) → Fits w (pre.map .v) pre
 | [], _ => rfl
 | u :: pre, h => ⟨pre, rfl, h u (List.mem_cons_self ..), fits_v fun x hx => h x (List.mem_cons_of_mem _ hx)⟩
theorem RowC.box {B : Nat} {w : World} {fss : List (List Fd)} {g n cap i : Nat} {fs : List Fd} (h : ∀ i fs, fss[i]? = some fs → ∃ pre es, pre.length = i * 5 ∧ es.length = 5 ∧ Fits w fs es ∧ At w g (pre ++ es) ∧ ∀ u ∈ pre, tameB u = true) (hi : fss[i]? = some fs) : ∃ pre, pre.length = i * 5 ∧ Bq w g (i * 5 + 5) (Fq.st (rowF pre fs)) := by
 obtain ⟨pre, es, h1, h2, h3, h4, h5⟩ := h i fs hi
 have h6 : Fits w (rowF pre fs) (pre ++ es) := (fits_v h5).append h3
 exact ⟨pre, h1, pre ++ es, by simp [h1, h2], by omega, h4, h6.tame, _, rfl, h6⟩
section
variable {os : List Oper} {Q : Exit → Act → World → Prop} {a : Act} {p : Pq} {B B0 : Nat} {w0 : World}
variable {i s : Nat} {d : Option Tmp} {ty : TypeId} {ps : String} {af : Array Edge} {gd : Option (Nat × Bool)}
end
end Go.Proofs.Ytihhlaagndingaa

namespace Go.Proofs.Ytihhlaagndingaa
open Go Go.RowKit

theorem pr_263 : Pr 263 := by
 refine ⟨by omega, fun d hd => ?_⟩
 have h1 : d ≤ 263 := Nat.le_of_dvd (by omega) hd
 have h2 : ∀ d, d < 264 → d ∣ 263 → d = 1 ∨ d = 263 := by decide +kernel
 exact h2 d (by omega) hd
theorem mult_facts {A B M : Int} {P : Pt} (hc : Crv A B M) (hP : On A B M P) (I J : Int) : ∃ S1 S2 S3 S5, timesS A B M I P = (S1, 0, 0) ∧ timesS A B M J P = (S2, 0, 0) ∧ timesS A B M (I + J) P = (S3, 0, 0) ∧ addS A B M S1 S2 = (S3, 0, 0) ∧ timesS A B M (I * J) P = (S5, 0, 0) ∧ timesS A B M I S2 = (S5, 0, 0) ∧ On A B M S1 ∧ On A B M S2 ∧ On A B M S3 ∧ On A B M S5 := by
 have h1 := zpt_on hc hP I
 have h2 := zpt_on hc hP J
 have h3 := zpt_on hc hP (I + J)
 have h5 := zpt_on hc hP (I * J)
 refine ⟨_, _, _, _, timesS_z hc hP I, timesS_z hc hP J, timesS_z hc hP (I + J), ?_, timesS_z hc hP (I * J), ?_, h1, h2, h3, h5⟩
 ·rw [addS_z hc h1 h2, zpt_add hc hP]
 ·rw [timesS_z hc h2, zpt_mul hc hP]
theorem On.ab {A B M : Int} {P : Pt} (h : On A B M P) (hM : Go.Proofs.Ytihhlaagndingaa.ab M < pw 5) : Go.Proofs.Ytihhlaagndingaa.ab P.x < pw 5 ∧ Go.Proofs.Ytihhlaagndingaa.ab P.y < pw 5 := (onB_ok h).1.ab hM
set_option maxRecDepth 100000 in
set_option maxHeartbeats 4000000 in
theorem exNonsing {w : World} {v : Value} {A B M : Int} (h : (Fq.st [.n A, .n B, .n M]).P v w) (hM : ab M < pw 5) (hA : ab A < pw 5) (hB : ab B < pw 5) (h0 : 0 < M) {t : Bool} (ht : decide ((Int.gcd ((4 * (A * (A * A))) + (27 * (B * B))) M : Int) = 1) = t) :
  Calls Try.prog 10 #[v] w fun e w' => ∃ v', e = .returned v' ∧ Below w.heap.size w w' ∧ v' = .bool t := by
 replace hM := hidd hM
 replace hA := hidd hA
 replace hB := hidd hB
 have HM0 := hidd h0
 have HT := hidd ht
 clear h0 ht
 obtain ⟨_, rfl, hf0⟩ := h
 have hF0 := hf0
 obtain ⟨y0_p0, y0_q0, _, rfl, _y0_n0, y0_p1, y0_q1, _, rfl, _y0_n1, y0_p2, y0_q2, _, rfl, _y0_n2, rfl⟩ := hf0
 obtain ⟨w1, b1, hw1, hb1, hs1, E⟩ := fr_start w (F := Fq.st [.n A, .n B, .n M]) (us := [y0_p0, y0_q0, y0_p1, y0_q1, y0_p2, y0_q2]) 31 rfl (by simp) (hF0.tame) (show (Fq.st [.n A, .n B, .n M]).P _ w from ⟨_, rfl, hF0⟩)
 go_enter Try.func10, Try.ntmps10
 go_upto_region 1 with (fail)
 rw [← hw1]
 rw [← hb1]
 clear hw1 hb1 hs1
 have B2 : Hid (ab ((4)) < pw 3) := ab_lit (by decide)
 have B3 : Hid (ab ((A * A)) < pw 10) := ab_mulM hA.out hA.out (by omega)
 have B4 : Hid (ab ((A * (A * A))) < pw 15) := ab_mulM hA.out B3.out (by omega)
 have B5 : Hid (ab (((4) * (A * (A * A)))) < pw 18) := ab_mulM B2.out B4.out (by omega)
 have B6 : Hid (ab ((27)) < pw 3) := ab_lit (by decide)
 have B7 : Hid (ab ((B * B)) < pw 10) := ab_mulM hB.out hB.out (by omega)
 have B8 : Hid (ab (((27) * (B * B))) < pw 13) := ab_mulM B6.out B7.out (by omega)
 have B9 : Hid (ab ((((4) * (A * (A * A))) + ((27) * (B * B)))) < pw 19) := ab_addB B5.out B8.out (by omega) (by omega)
 refine region_fr (C := [Fq.num (4), Fq.is (.pointer (some ⟨b1, 0, none⟩)), Fq.num A, Fq.is (.pointer (some ⟨b1, 0, none⟩)), Fq.num A, Fq.is (.pointer (some ⟨b1, 0, none⟩)), Fq.num A, Fq.num (A * A), Fq.num (A * (A * A)), Fq.num ((4) * (A * (A * A))), Fq.num (27), Fq.is (.pointer (some ⟨b1, 2, none⟩)), Fq.num B, Fq.is (.pointer (some ⟨b1, 2, none⟩)), Fq.num B, Fq.num (B * B), Fq.num ((27) * (B * B)), Fq.num (((4) * (A * (A * A))) + ((27) * (B * B))), Fq.any, Fq.any]) (ks := [none]) (new := [⟨18, 19, 2, Fq.num 0, Fq.num (((4) * (A * (A * A))) + ((27) * (B * B))), none⟩]) E rfl (by kernel_rfl) rfl rfl (fun hp => ⟨?_, ?_, ?_, ?_, ?_, ?_, ?_, ?_, ?_, ?_, ?_, ?_, ?_, ?_, ?_, ?_, ?_, ?_, ?_, ?_, trivial⟩) ?_
 ·exact q_call1 (F := (Fq.is (.int .i64 4)).P) hp (free_of rfl) trivial (enq_R_Of) (sq_const (fun _ => rfl)) (fun v w h => (by subst h; exact rOfK w (4) (by omega) (by omega)))
 ·exact q_addr (b := b1) (off := 0) (off' := 0) hp (free_of rfl) trivial (sqo 1) (fun ρ w h => by simp [execOp, go_sem, h]) (fun _ => rfl)
 ·exact q_loadSt (off := 0) (l := 2) (fs := [.n A, .n B, .n M]) (gs := [.n A]) hp (free_of rfl) trivial (mq 0 rfl) (.inl rfl) rfl row_api_Int rfl (sqi 1) (fun v w h => st_num h)
 ·exact q_addr (b := b1) (off := 0) (off' := 0) hp (free_of rfl) trivial (sqo 1) (fun ρ w h => by simp [execOp, go_sem, h]) (fun _ => rfl)
 ·exact q_loadSt (off := 0) (l := 2) (fs := [.n A, .n B, .n M]) (gs := [.n A]) hp (free_of rfl) trivial (mq 0 rfl) (.inl rfl) rfl row_api_Int rfl (sqi 3) (fun v w h => st_num h)
 ·exact q_addr (b := b1) (off := 0) (off' := 0) hp (free_of rfl) trivial (sqo 1) (fun ρ w h => by simp [execOp, go_sem, h]) (fun _ => rfl)
 ·exact q_loadSt (off := 0) (l := 2) (fs := [.n A, .n B, .n M]) (gs := [.n A]) hp (free_of rfl) trivial (mq 0 rfl) (.inl rfl) rfl row_api_Int rfl (sqi 5) (fun v w h => st_num h)
 ·exact q_call2 (F := (Fq.num A).P) (G := (Fq.num A).P) hp (free_of rfl) trivial (enq_R_Mul) (sqi 4) (sqi 6) (fun v v' w h h' => exK (RMulV h h') B3.out (by omega))
 ·exact q_call2 (F := (Fq.num A).P) (G := (Fq.num (A * A)).P) hp (free_of rfl) trivial (enq_R_Mul) (sqi 2) (sqi 7) (fun v v' w h h' => exK (RMulV h h') B4.out (by omega))
 ·exact q_call2 (F := (Fq.num (4)).P) (G := (Fq.num (A * (A * A))).P) hp (free_of rfl) trivial (enq_R_Mul) (sqi 0) (sqi 8) (fun v v' w h h' => exK (RMulV h h') B5.out (by omega))
 ·exact q_call1 (F := (Fq.is (.int .i64 27)).P) hp (free_of rfl) trivial (enq_R_Of) (sq_const (fun _ => rfl)) (fun v w h => (by subst h; exact rOfK w (27) (by omega) (by omega)))
 ·exact q_addr (b := b1) (off := 0) (off' := 2) hp (free_of rfl) trivial (sqo 1) (fun ρ w h => by simp [execOp, go_sem, h]) (fun _ => rfl)
 ·exact q_loadSt (off := 2) (l := 2) (fs := [.n A, .n B, .n M]) (gs := [.n B]) hp (free_of rfl) trivial (mq 0 rfl) (.inl rfl) rfl row_api_Int rfl (sqi 11) (fun v w h => st_num h)
 ·exact q_addr (b := b1) (off := 0) (off' := 2) hp (free_of rfl) trivial (sqo 1) (fun ρ w h => by simp [execOp, go_sem, h]) (fun _ => rfl)
 ·exact q_loadSt (off := 2) (l := 2) (fs := [.n A, .n B, .n M]) (gs := [.n B]) hp (free_of rfl) trivial (mq 0 rfl) (.inl rfl) rfl row_api_Int rfl (sqi 13) (fun v w h => st_num h)
 ·exact q_call2 (F := (Fq.num B).P) (G := (Fq.num B).P) hp (free_of rfl) trivial (enq_R_Mul) (sqi 12) (sqi 14) (fun v v' w h h' => exK (RMulV h h') B7.out (by omega))
 ·exact q_call2 (F := (Fq.num (27)).P) (G := (Fq.num (B * B)).P) hp (free_of rfl) trivial (enq_R_Mul) (sqi 10) (sqi 15) (fun v v' w h h' => exK (RMulV h h') B8.out (by omega))
 ·exact q_call2 (F := (Fq.num ((4) * (A * (A * A)))).P) (G := (Fq.num ((27) * (B * B))).P) hp (free_of rfl) trivial (enq_R_Add) (sqi 9) (sqi 16) (fun v v' w h h' => exK (RAddV h h') B9.out (by omega))
 ·exact q_allocInt hp (mq 0 rfl) rfl rfl rfl rfl (Nat.ne_of_beq_eq_false rfl) (fun _ _ => trivial) (old_ne rfl) (newk_ne rfl) (fun w => Num.zero w)
 ·exact q_storeNewInt hp (mq 0 rfl) rfl rfl rfl (own_ptr rfl rfl (by simp) rfl) (sq_in 17 rfl rfl (by simp) rfl (fun v w h => intV_num h)) (fun _ _ => trivial) (old_ne rfl) (newi_ne rfl)
 intro L vs w10 nb hL hC hn E10
 have e1 : vs 1 = .pointer (some ⟨b1, 0, none⟩) := hC 1 (by simp)
 have e3 : vs 3 = .pointer (some ⟨b1, 0, none⟩) := hC 3 (by simp)
 have e5 : vs 5 = .pointer (some ⟨b1, 0, none⟩) := hC 5 (by simp)
 have e11 : vs 11 = .pointer (some ⟨b1, 2, none⟩) := hC 11 (by simp)
 have e13 : vs 13 = .pointer (some ⟨b1, 2, none⟩) := hC 13 (by simp)
 have e18 : vs 18 = .pointer (some ⟨nb 18, 0, none⟩) := hn _ (mq 0 rfl)
 have E : Fr w [(nb 18, 2, Fq.num (((4) * (A * (A * A))) + ((27) * (B * B)))), (b1, 6, Fq.st [.n A, .n B, .n M])] w10 := E10
 rw [lay_all hL]
 simp only [putAll, dstOf, List.length_cons, List.length_nil, Nat.zero_add, Nat.reduceAdd, List.getElem?_toArray, List.getElem?_cons_zero, List.getElem?_cons_succ, Option.bind_some, Act.put, List.setIfInBounds_toArray, List.set_cons_succ, List.set_cons_zero]
 rw [e1, e3, e5, e11, e13, e18]
 generalize nb 18 = b10_18 at E ⊢
 generalize vs 0 = u10_0
 generalize vs 2 = u10_2
 generalize vs 4 = u10_4
 generalize vs 6 = u10_6
 generalize vs 7 = u10_7
 generalize vs 8 = u10_8
 generalize vs 9 = u10_9
 generalize vs 10 = u10_10
 generalize vs 12 = u10_12
 generalize vs 14 = u10_14
 generalize vs 15 = u10_15
 generalize vs 16 = u10_16
 generalize vs 17 = u10_17
 clear e1 e3 e5 e11 e13 e18 hC hn E10 hL vs L nb
 go_upto_region 2 with (fail)
 have B11 : Hid (ab ((1)) < pw 3) := ab_lit (by decide)
 refine region_fr (C := [Fq.num (((4) * (A * (A * A))) + ((27) * (B * B))), Fq.is (.pointer (some ⟨b1, 4, none⟩)), Fq.num M, Fq.num (Int.gcd (((4) * (A * (A * A))) + ((27) * (B * B))) M : Int), Fq.num (1), Fq.is (.bool t), Fq.is (.bool t)]) (ks := [none, none]) (new := []) E rfl (by kernel_rfl) rfl rfl (fun hp => ⟨?_, ?_, ?_, ?_, ?_, ?_, ?_, trivial⟩) ?_
 ·exact q_loadInt (off := 0) hp (free_of rfl) trivial (mq 0 rfl) (.inl rfl) (Nat.le_of_ble_eq_true rfl) (sqo 3) (fun us w hl h => ld_num hl h)
 ·exact q_addr (b := b1) (off := 0) (off' := 4) hp (free_of rfl) trivial (sqo 1) (fun ρ w h => by simp [execOp, go_sem, h]) (fun _ => rfl)
 ·exact q_loadSt (off := 4) (l := 2) (fs := [.n A, .n B, .n M]) (gs := [.n M]) hp (free_of rfl) trivial (mq 1 rfl) (.inl rfl) rfl row_api_Int rfl (sqi 1) (fun v w h => st_num h)
 ·exact q_call2 (F := (Fq.num (((4) * (A * (A * A))) + ((27) * (B * B)))).P) (G := (Fq.num M).P) hp (free_of rfl) trivial (enq_R_Gcd) (sqi 0) (sqi 2) (fun v v' w h h' => exRGcd h h' (Int.lt_of_lt_of_le B9.out (pw_le (by omega))) (Int.lt_of_lt_of_le hM.out (pw_le (by omega))))
 ·exact q_call1 (F := (Fq.is (.int .i64 1)).P) hp (free_of rfl) trivial (enq_R_Of) (sq_const (fun _ => rfl)) (fun v w h => (by subst h; exact rOfK w (1) (by omega) (by omega)))
 ·exact q_call2 (F := (Fq.num (Int.gcd (((4) * (A * (A * A))) + ((27) * (B * B))) M : Int)).P) (G := (Fq.num (1)).P) hp (free_of rfl) trivial (enq_R_Same) (sqi 3) (sqi 4) (fun v v' w h h' => exRSameB h h' HT.out)
 ·exact q_assign hp (free_of rfl) trivial (sqi 5)
 intro L vs w12 nb hL hC hn E12
 have e1 : vs 1 = .pointer (some ⟨b1, 4, none⟩) := hC 1 (by simp)
 have e5 : vs 5 = .bool t := hC 5 (by simp)
 have e6 : vs 6 = .bool t := hC 6 (by simp)
 have E : Fr w [(b10_18, 2, Fq.num (((4) * (A * (A * A))) + ((27) * (B * B)))), (b1, 6, Fq.st [.n A, .n B, .n M])] w12 := E12
 rw [lay_all hL]
 simp only [putAll, dstOf, List.length_cons, List.length_nil, Nat.zero_add, Nat.reduceAdd, List.getElem?_toArray, List.getElem?_cons_zero, List.getElem?_cons_succ, Option.bind_some, Act.put, List.setIfInBounds_toArray, List.set_cons_succ, List.set_cons_zero]
 rw [e1, e5, e6]
 generalize vs 0 = u12_0
 generalize vs 2 = u12_2
 generalize vs 3 = u12_3
 generalize vs 4 = u12_4
 clear e1 e5 e6 hC hn E12 hL vs L nb
 clear HM0 HT
 clear B2 B3 B4 B5 B6 B7 B8 B9 B11 hM hA hB
 go_wp2
 refine bodyPost_ret (v := .bool t) ?_ rfl ⟨_, rfl, E.below, rfl⟩
 simp [results, Try.results10, go_sem]

set_option maxRecDepth 100000 in
set_option maxHeartbeats 4000000 in
theorem PointMultiples_any (w : World) {v : Value} {M9 A X Y Q : Int} (h : (Fq.st [.v (.int .u8 M9), .v (.int .u8 A), .v (.int .u8 X), .v (.int .u8 Y), .v (.int .u16 Q)]).P v w) (hM : 0 ≤ M9 ∧ M9 ≤ 255) (hA : 0 ≤ A ∧ A ≤ 255) (hX : 0 ≤ X ∧ X ≤ 255) (hY : 0 ≤ Y ∧ Y ≤ 255) (hQ : 0 ≤ Q ∧ Q ≤ 65535) (n1 : Bool) (a1 : Option Addr) (k1 c1 : Nat) (xs1 : List Int) (h1 : Sl w a1 k1 c1 xs1) (hk1 : k1 ≤ 9223372036854775807) (n2 : Bool) (a2 : Option Addr) (k2 c2 : Nat) (xs2 : List Int) (h2 : Sl w a2 k2 c2 xs2) (hk2 : k2 ≤ 9223372036854775807) :
  Calls Try.prog 4 #[v, .agg #[.bool n1, .slice a1 k1 c1], .agg #[.bool n2, .slice a2 k2 c2]] w fun e w' => ∃ v', e = .returned v' ∧ Below w.heap.size w w' ∧ v' = .bool true := by
 obtain ⟨p, hp, hp1, hp2, hp3⟩ := least_pr pr_263 (263 - (5 + M9).toNat) (5 + M9).toNat (by omega)
 obtain ⟨m, em⟩ : ∃ m : Int, m = (p : Int) := ⟨_, rfl⟩
 have hm : 5 ≤ m ∧ m ≤ 263 ∧ m % 2 = 1 := by have := prime_odd hp (by omega); omega
 obtain ⟨a, ea⟩ : ∃ a, a = A % m := ⟨_, rfl⟩
 obtain ⟨x, ex⟩ : ∃ x, x = X % m := ⟨_, rfl⟩
 obtain ⟨y, ey⟩ : ∃ y, y = Y % m := ⟨_, rfl⟩
 obtain ⟨b, eb⟩ : ∃ b, b = (y * y - ((x * x) + a) * x) % m := ⟨_, rfl⟩
 have ha0 : 0 ≤ a ∧ a < m := by rw [ea]; exact ⟨Int.emod_nonneg _ (by omega), Int.emod_lt_of_pos _ (by omega)⟩
 have hx0 : 0 ≤ x ∧ x < m := by rw [ex]; exact ⟨Int.emod_nonneg _ (by omega), Int.emod_lt_of_pos _ (by omega)⟩
 have hy0 : 0 ≤ y ∧ y < m := by rw [ey]; exact ⟨Int.emod_nonneg _ (by omega), Int.emod_lt_of_pos _ (by omega)⟩
 have hb0 : 0 ≤ b ∧ b < m := by rw [eb]; exact ⟨Int.emod_nonneg _ (by omega), Int.emod_lt_of_pos _ (by omega)⟩
 have hc : curveB a b m = true := by simp only [curveB, resB, Bool.and_eq_true, decide_eq_true_eq]; omega
 have hon1 : On a b m ⟨x, y, false⟩ := by show onB a b m x y false = true; rw [eb]; exact curve_on (by omega) hm.2.2 ha0 hx0 hy0
 have HCR := hidd (fun (g : Int.gcd ((4 * (a * (a * a))) + (27 * (b * b))) m = 1) => (by rw [em] at hc g ⊢; exact crv_of hp hc g : Crv a b m))
 have BM : Hid (ab m < pw 5) := ab5 (by omega)
 have BA : Hid (ab a < pw 5) := ab5 (by omega)
 have BB : Hid (ab b < pw 5) := ab5 (by omega)
 have BP : Hid (ab x < pw 5 ∧ ab y < pw 5) := ⟨ab5 (by omega), ab5 (by omega)⟩
 obtain ⟨I, eI⟩ : ∃ I, I = sgn n1 (val (xs1.take 2)) := ⟨_, rfl⟩
 obtain ⟨J, eJ⟩ : ∃ J, J = sgn n2 (val (xs2.take 2)) := ⟨_, rfl⟩
 have BI : Hid (ab I < pw 3) := by show _ < _; rw [eI]; exact Int.lt_of_lt_of_le (Num.ofMade h1.digs) (pw_le (by omega))
 have BJ : Hid (ab J < pw 3) := by show _ < _; rw [eJ]; exact Int.lt_of_lt_of_le (Num.ofMade h2.digs) (pw_le (by omega))
 have EI := hidd eI
 have EJ := hidd eJ
 have HK1 := hidd hk1
 have HK2 := hidd hk2
 have BZ : Hid (ab 0 < pw 5) := ab5 (by decide)
 have HPA := hidd (And.intro hp (And.intro hp1 (And.intro (show p ≤ 65537 by omega) hp3)))
 have HAE := hidd em
 have HMM := hidd hm
 have HM0 : Hid (¬ m = 0) := by show ¬ _; omega
 have HMP : Hid (0 < m) := by show 0 < _; omega
 have HAX := hidd (And.intro ha0 (And.intro hx0 hy0))
 have HBB := hidd eb
 have HON := hidd hon1
 have RR : Hid (0 ≤ 5 + M9 ∧ 5 + M9 ≤ 65535) := by show _ ∧ _; omega
 have C0 : Hid (IntKind.u16.wrap M9 = M9) := by show _ = _; simp [IntKind.wrap, IntKind.bits, IntKind.signed]; omega
 have C1 : Hid (IntKind.u16.wrap (5 + M9) = 5 + M9) := by show _ = _; simp [IntKind.wrap, IntKind.bits, IntKind.signed]; omega
 have IA : Hid (IntKind.i64.wrap A = A) := IntWalk.i64_in _ (by omega)
 have IX : Hid (IntKind.i64.wrap X = X) := IntWalk.i64_in _ (by omega)
 have IY : Hid (IntKind.i64.wrap Y = Y) := IntWalk.i64_in _ (by omega)
 have IQ : Hid (IntKind.i64.wrap Q = Q) := IntWalk.i64_in _ (by omega)
 have TA : Hid (Int.tmod A m = a) := by show _ = _; rw [Int.tmod_eq_emod_of_nonneg (by omega), ea]
 have TX : Hid (Int.tmod X m = x) := by show _ = _; rw [Int.tmod_eq_emod_of_nonneg (by omega), ex]
 have TY : Hid (Int.tmod Y m = y) := by show _ = _; rw [Int.tmod_eq_emod_of_nonneg (by omega), ey]
 clear hp hp1 hp2 hp3 em hm ea ex ey eb ha0 hx0 hy0 hb0 hc hon1 hM hA hX hY hQ eI eJ hk1 hk2
 obtain ⟨_, rfl, hf0⟩ := h
 have hF0 := hf0
 obtain ⟨_, rfl, _, _, rfl, _, _, rfl, _, _, rfl, _, _, rfl, _, rfl⟩ := hf0
 obtain ⟨w1, b1, hw1, hb1, hs1, E⟩ := fr_start w (F := Fq.st [.v (.int .u8 M9), .v (.int .u8 A), .v (.int .u8 X), .v (.int .u8 Y), .v (.int .u16 Q)]) (us := [.int .u8 M9, .int .u8 A, .int .u8 X, .int .u8 Y, .int .u16 Q]) 24 rfl (by simp) (hF0.tame) (show (Fq.st [.v (.int .u8 M9), .v (.int .u8 A), .v (.int .u8 X), .v (.int .u8 Y), .v (.int .u16 Q)]).P _ w from ⟨_, rfl, hF0⟩)
 obtain ⟨w2, b2, hw2, hb2, hs2, E⟩ := fr_more E hs1 (F := Fq.raw n1 a1 k1 c1 xs1) (us := [.bool n1, .slice a1 k1 c1]) 49 rfl (by simp) (tame_int _ _ _ _) ((Fq.raw n1 a1 k1 c1 xs1).mono (show (Fq.raw n1 a1 k1 c1 xs1).P _ w from ⟨rfl, h1⟩) E.below)
 obtain ⟨w3, b3, hw3, hb3, hs3, E⟩ := fr_more E hs2 (F := Fq.raw n2 a2 k2 c2 xs2) (us := [.bool n2, .slice a2 k2 c2]) 49 rfl (by simp) (tame_int _ _ _ _) ((Fq.raw n2 a2 k2 c2 xs2).mono (show (Fq.raw n2 a2 k2 c2 xs2).P _ w from ⟨rfl, h2⟩) E.below)
 go_enter Try.func4, Try.ntmps4
 go_upto_region 1 with (fail)
 rw [← hw1]
 rw [← hw2]
 rw [← hw3]
 rw [← hb3]
 rw [← hb2]
 rw [← hb1]
 clear hw1 hw2 hw3 hb1 hb2 hb3 hs3 hs1 hs2
 refine region_fr (C := [Fq.is (.bool true), Fq.is (.bool true)]) (ks := [none, none, none]) (new := []) E rfl (by kernel_rfl) rfl rfl (fun hp => ⟨?_, ?_, trivial⟩) ?_
 ·exact q_call0 hp (free_of rfl) trivial (enq_f_algorist_algoristlaw06_examples) (fun w => exSixExamples w)
 ·exact q_assign hp (free_of rfl) trivial (sqi 0)
 intro L vs w4 nb hL hC hn E4
 have e0 : vs 0 = .bool true := hC 0 (by simp)
 have e1 : vs 1 = .bool true := hC 1 (by simp)
 have E : Fr w [(b3, 2, Fq.raw n2 a2 k2 c2 xs2), (b2, 2, Fq.raw n1 a1 k1 c1 xs1), (b1, 5, Fq.st [.v (.int .u8 M9), .v (.int .u8 A), .v (.int .u8 X), .v (.int .u8 Y), .v (.int .u16 Q)])] w4 := E4
 rw [lay_all hL]
 simp only [putAll, dstOf, List.length_cons, List.length_nil, Nat.zero_add, Nat.reduceAdd, List.getElem?_toArray, List.getElem?_cons_zero, List.getElem?_cons_succ, Option.bind_some, Act.put, List.setIfInBounds_toArray, List.set_cons_succ, List.set_cons_zero]
 rw [e0, e1]
 clear e0 e1 hC hn E4 hL vs L nb
 go_upto_region 2 with (fail)
 refine region_fr (C := [Fq.is (.bool true), Fq.is (.bool false)]) (ks := [none, none, none]) (new := []) E rfl (by kernel_rfl) rfl rfl (fun hp => ⟨?_, ?_, trivial⟩) ?_
 ·exact q_move hp (free_of rfl) trivial (sqo 7)
 ·exact q_one (F := fun v _ => v = .bool true) hp (free_of rfl) trivial (sqi 0) (fun ρ w _ h => ⟨.bool false, by simp [execOp, go_sem, h], rfl⟩)
 intro L vs w5 nb hL hC hn E5
 have e0 : vs 0 = .bool true := hC 0 (by simp)
 have e1 : vs 1 = .bool false := hC 1 (by simp)
 have E : Fr w [(b3, 2, Fq.raw n2 a2 k2 c2 xs2), (b2, 2, Fq.raw n1 a1 k1 c1 xs1), (b1, 5, Fq.st [.v (.int .u8 M9), .v (.int .u8 A), .v (.int .u8 X), .v (.int .u8 Y), .v (.int .u16 Q)])] w5 := E5
 rw [lay_all hL]
 simp only [putAll, dstOf, List.length_cons, List.length_nil, Nat.zero_add, Nat.reduceAdd, List.getElem?_toArray, List.getElem?_cons_zero, List.getElem?_cons_succ, Option.bind_some, Act.put, List.setIfInBounds_toArray, List.set_cons_succ, List.set_cons_zero]
 rw [e0, e1]
 clear e0 e1 hC hn E5 hL vs L nb
 go_upto_region 4 with (fail)
 refine region_fr (C := [Fq.is (.pointer (some ⟨b1, 0, none⟩)), Fq.is (.int .u8 M9), Fq.is (.int .u16 M9), Fq.is (.int .u16 (5 + M9)), Fq.is (.int .i64 m), Fq.is (.int .i64 m)]) (ks := [none, none, none]) (new := []) E rfl (by kernel_rfl) rfl rfl (fun hp => ⟨?_, ?_, ?_, ?_, ?_, ?_, trivial⟩) ?_
 ·exact q_addr (b := b1) (off := 0) (off' := 0) hp (free_of rfl) trivial (sqo 3) (fun ρ w h => by simp [execOp, go_sem, h]) (fun _ => rfl)
 ·exact q_load1 (off := 0) (fs := [.v (.int .u8 M9), .v (.int .u8 A), .v (.int .u8 X), .v (.int .u8 Y), .v (.int .u16 Q)]) (u := .int .u8 M9) hp (free_of rfl) trivial (mq 2 rfl) (.inl rfl) rfl rfl (fun ρ w b h1 h2 => by simp [execOp, go_sem, h1, h2]) (sqi 0) (fun _ => rfl)
 ·exact q_one (F := fun v _ => v = .int .u8 M9) hp (free_of rfl) trivial (sqi 1) (fun ρ w hc h => ⟨.int .u16 M9, by simp [execOp, go_sem, h, C0.out], rfl⟩)
 ·exact q_one (F := fun v _ => v = .int .u16 M9) hp (free_of rfl) trivial (sqi 2) (fun ρ w hc h => ⟨.int .u16 (5 + M9), by simp [execOp, go_sem, h, hc, C1.out], rfl⟩)
 ·exact q_call1 (F := (Fq.is (.int .u16 (5 + M9))).P) hp (free_of rfl) trivial (enq_U_Prime) (sqi 3) (fun v w h => (by subst h; rw [HAE.out]; exact exPrime _ RR.out.1 RR.out.2 HPA.out.1 HPA.out.2.1 HPA.out.2.2.1 HPA.out.2.2.2))
 ·exact q_assign hp (free_of rfl) trivial (sqi 4)
 intro L vs w6 nb hL hC hn E6
 have e0 : vs 0 = .pointer (some ⟨b1, 0, none⟩) := hC 0 (by simp)
 have e1 : vs 1 = .int .u8 M9 := hC 1 (by simp)
 have e2 : vs 2 = .int .u16 M9 := hC 2 (by simp)
 have e3 : vs 3 = .int .u16 (5 + M9) := hC 3 (by simp)
 have e4 : vs 4 = .int .i64 m := hC 4 (by simp)
 have e5 : vs 5 = .int .i64 m := hC 5 (by simp)
 have E : Fr w [(b3, 2, Fq.raw n2 a2 k2 c2 xs2), (b2, 2, Fq.raw n1 a1 k1 c1 xs1), (b1, 5, Fq.st [.v (.int .u8 M9), .v (.int .u8 A), .v (.int .u8 X), .v (.int .u8 Y), .v (.int .u16 Q)])] w6 := E6
 rw [lay_all hL]
 simp only [putAll, dstOf, List.length_cons, List.length_nil, Nat.zero_add, Nat.reduceAdd, List.getElem?_toArray, List.getElem?_cons_zero, List.getElem?_cons_succ, Option.bind_some, Act.put, List.setIfInBounds_toArray, List.set_cons_succ, List.set_cons_zero]
 rw [e0, e1, e2, e3, e4, e5]
 clear e0 e1 e2 e3 e4 e5 hC hn E6 hL vs L nb
 clear C0 C1 HPA HAE RR
 go_upto_region 5 with (fail)
 refine region_fr (C := [Fq.is (.int .i64 m), Fq.is (.pointer (some ⟨b1, 1, none⟩)), Fq.is (.int .u8 A), Fq.is (.int .i64 A), Fq.is (.int .i64 m), Fq.is (.int .i64 a), Fq.is (.pointer (some ⟨b1, 2, none⟩)), Fq.is (.int .u8 X), Fq.is (.int .i64 X), Fq.is (.int .i64 m), Fq.is (.int .i64 x), Fq.is (.pointer (some ⟨b1, 3, none⟩)), Fq.is (.int .u8 Y), Fq.is (.int .i64 Y), Fq.is (.int .i64 m), Fq.is (.int .i64 y), Fq.st [.n a, .n b, .n m], Fq.any, Fq.any]) (ks := [none, none, none]) (new := [⟨17, 18, 6, Fq.st [.n 0, .n 0, .n 0], Fq.st [.n a, .n b, .n m], none⟩]) E rfl (by kernel_rfl) rfl rfl (fun hp => ⟨?_, ?_, ?_, ?_, ?_, ?_, ?_, ?_, ?_, ?_, ?_, ?_, ?_, ?_, ?_, ?_, ?_, ?_, ?_, trivial⟩) ?_
 ·exact q_move hp (free_of rfl) trivial (sqo 8)
 ·exact q_addr (b := b1) (off := 0) (off' := 1) hp (free_of rfl) trivial (sqo 3) (fun ρ w h => by simp [execOp, go_sem, h]) (fun _ => rfl)
 ·exact q_load1 (off := 1) (fs := [.v (.int .u8 M9), .v (.int .u8 A), .v (.int .u8 X), .v (.int .u8 Y), .v (.int .u16 Q)]) (u := .int .u8 A) hp (free_of rfl) trivial (mq 2 rfl) (.inl rfl) rfl rfl (fun ρ w b h1 h2 => by simp [execOp, go_sem, h1, h2]) (sqi 1) (fun _ => rfl)
 ·exact q_one (F := fun v _ => v = .int .u8 A) hp (free_of rfl) trivial (sqi 2) (fun ρ w hc h => ⟨.int .i64 A, by simp [execOp, go_sem, h, IA.out], rfl⟩)
 ·exact q_move hp (free_of rfl) trivial (sqo 8)
 ·exact q_two (F := fun v _ => v = .int .i64 A) (G := fun v _ => v = .int .i64 m) hp (free_of rfl) trivial (sqi 3) (sqi 4) (fun ρ w hc h h' => ⟨.int .i64 a, by simp [execOp, go_sem, h, h', HM0.out, TA.out], rfl⟩)
 ·exact q_addr (b := b1) (off := 0) (off' := 2) hp (free_of rfl) trivial (sqo 3) (fun ρ w h => by simp [execOp, go_sem, h]) (fun _ => rfl)
 ·exact q_load1 (off := 2) (fs := [.v (.int .u8 M9), .v (.int .u8 A), .v (.int .u8 X), .v (.int .u8 Y), .v (.int .u16 Q)]) (u := .int .u8 X) hp (free_of rfl) trivial (mq 2 rfl) (.inl rfl) rfl rfl (fun ρ w b h1 h2 => by simp [execOp, go_sem, h1, h2]) (sqi 6) (fun _ => rfl)
 ·exact q_one (F := fun v _ => v = .int .u8 X) hp (free_of rfl) trivial (sqi 7) (fun ρ w hc h => ⟨.int .i64 X, by simp [execOp, go_sem, h, IX.out], rfl⟩)
 ·exact q_move hp (free_of rfl) trivial (sqo 8)
 ·exact q_two (F := fun v _ => v = .int .i64 X) (G := fun v _ => v = .int .i64 m) hp (free_of rfl) trivial (sqi 8) (sqi 9) (fun ρ w hc h h' => ⟨.int .i64 x, by simp [execOp, go_sem, h, h', HM0.out, TX.out], rfl⟩)
 ·exact q_addr (b := b1) (off := 0) (off' := 3) hp (free_of rfl) trivial (sqo 3) (fun ρ w h => by simp [execOp, go_sem, h]) (fun _ => rfl)
 ·exact q_load1 (off := 3) (fs := [.v (.int .u8 M9), .v (.int .u8 A), .v (.int .u8 X), .v (.int .u8 Y), .v (.int .u16 Q)]) (u := .int .u8 Y) hp (free_of rfl) trivial (mq 2 rfl) (.inl rfl) rfl rfl (fun ρ w b h1 h2 => by simp [execOp, go_sem, h1, h2]) (sqi 11) (fun _ => rfl)
 ·exact q_one (F := fun v _ => v = .int .u8 Y) hp (free_of rfl) trivial (sqi 12) (fun ρ w hc h => ⟨.int .i64 Y, by simp [execOp, go_sem, h, IY.out], rfl⟩)
 ·exact q_move hp (free_of rfl) trivial (sqo 8)
 ·exact q_two (F := fun v _ => v = .int .i64 Y) (G := fun v _ => v = .int .i64 m) hp (free_of rfl) trivial (sqi 13) (sqi 14) (fun ρ w hc h h' => ⟨.int .i64 y, by simp [execOp, go_sem, h, h', HM0.out, TY.out], rfl⟩)
 ·exact q_call4 (F := (Fq.is (.int .i64 m)).P) (G := (Fq.is (.int .i64 a)).P) (F3 := (Fq.is (.int .i64 x)).P) (F4 := (Fq.is (.int .i64 y)).P) hp (free_of rfl) trivial (enq_f_algorist_algoristref06_Curve) (sqi 0) (sqi 5) (sqi 10) (sqi 15) (fun v v' u u' w h h' g g' => (by subst h h' g g'; exact exCurve (by have := HMM.out; omega) (by have := HAX.out; have := HMM.out; omega) (by have := HAX.out; have := HMM.out; omega) (by have := HAX.out; have := HMM.out; omega) HBB.out.symm))
 ·exact q_allocSt (us := [.bool false, .slice none 0 0, .bool false, .slice none 0 0, .bool false, .slice none 0 0]) (fs := [.n 0, .n 0, .n 0]) hp (mq 0 rfl) rfl rfl rfl (Nat.lt_of_sub_eq_succ rfl) rfl fits0_api_Mod (fun ρ w => ralloc_api_Mod ρ w) rfl (Nat.ne_of_beq_eq_false rfl) (fun _ _ => trivial) (old_ne rfl) (newk_ne rfl)
 ·exact q_storeNewSt (fs := [.n 0, .n 0, .n 0]) (gs := [.n a, .n b, .n m]) hp (mq 0 rfl) rfl rfl rfl rfl size_api_Mod rfl (own_ptr rfl rfl (by simp) rfl) (sq_in 16 rfl rfl (by simp) rfl (fun v w h => fitv_st h)) (fun _ _ => trivial) (old_ne rfl) (newi_ne rfl)
 intro L vs w7 nb hL hC hn E7
 have e0 : vs 0 = .int .i64 m := hC 0 (by simp)
 have e1 : vs 1 = .pointer (some ⟨b1, 1, none⟩) := hC 1 (by simp)
 have e2 : vs 2 = .int .u8 A := hC 2 (by simp)
 have e3 : vs 3 = .int .i64 A := hC 3 (by simp)
 have e4 : vs 4 = .int .i64 m := hC 4 (by simp)
 have e5 : vs 5 = .int .i64 a := hC 5 (by simp)
 have e6 : vs 6 = .pointer (some ⟨b1, 2, none⟩) := hC 6 (by simp)
 have e7 : vs 7 = .int .u8 X := hC 7 (by simp)
 have e8 : vs 8 = .int .i64 X := hC 8 (by simp)
 have e9 : vs 9 = .int .i64 m := hC 9 (by simp)
 have e10 : vs 10 = .int .i64 x := hC 10 (by simp)
 have e11 : vs 11 = .pointer (some ⟨b1, 3, none⟩) := hC 11 (by simp)
 have e12 : vs 12 = .int .u8 Y := hC 12 (by simp)
 have e13 : vs 13 = .int .i64 Y := hC 13 (by simp)
 have e14 : vs 14 = .int .i64 m := hC 14 (by simp)
 have e15 : vs 15 = .int .i64 y := hC 15 (by simp)
 have e17 : vs 17 = .pointer (some ⟨nb 17, 0, none⟩) := hn _ (mq 0 rfl)
 have E : Fr w [(nb 17, 6, Fq.st [.n a, .n b, .n m]), (b3, 2, Fq.raw n2 a2 k2 c2 xs2), (b2, 2, Fq.raw n1 a1 k1 c1 xs1), (b1, 5, Fq.st [.v (.int .u8 M9), .v (.int .u8 A), .v (.int .u8 X), .v (.int .u8 Y), .v (.int .u16 Q)])] w7 := E7
 rw [lay_all hL]
 simp only [putAll, dstOf, List.length_cons, List.length_nil, Nat.zero_add, Nat.reduceAdd, List.getElem?_toArray, List.getElem?_cons_zero, List.getElem?_cons_succ, Option.bind_some, Act.put, List.setIfInBounds_toArray, List.set_cons_succ, List.set_cons_zero]
 rw [e0, e1, e2, e3, e4, e5, e6, e7, e8, e9, e10, e11, e12, e13, e14, e15, e17]
 generalize nb 17 = b7_17 at E ⊢
 generalize vs 16 = u7_16
 clear e0 e1 e2 e3 e4 e5 e6 e7 e8 e9 e10 e11 e12 e13 e14 e15 e17 hC hn E7 hL vs L nb
 clear IA TA
 go_upto_region 6 with (fail)
 cases ha : decide ((Int.gcd ((4 * (a * (a * a))) + (27 * (b * b))) m : Int) = 1)
 case false =>
  have HNS := hidd ha
  clear ha
  refine region_fr (C := [Fq.st [.n a, .n b, .n m], Fq.is (.bool false), Fq.is (.bool true)]) (ks := [none, none, none, none]) (new := []) E rfl (by kernel_rfl) rfl rfl (fun hp => ⟨?_, ?_, ?_, trivial⟩) ?_
  ·exact q_loadSt (off := 0) (l := 6) (fs := [.n a, .n b, .n m]) (gs := [.n a, .n b, .n m]) hp (free_of rfl) trivial (mq 0 rfl) (.inl rfl) rfl row_api_Mod rfl (sqo 9) (fun v w h => h)
  ·exact q_call1 (F := (Fq.st [.n a, .n b, .n m]).P) hp (free_of rfl) trivial (enq_f_algorist_algoristref06_Nonsingular) (sqi 0) (fun v w h => exNonsing h BM.out BA.out BB.out HMP.out HNS.out)
  ·exact q_one (F := fun v _ => v = .bool false) hp (free_of rfl) trivial (sqi 1) (fun ρ w _ h => ⟨.bool true, by simp [execOp, go_sem, h], rfl⟩)
  intro L vs w8 nb hL hC hn E8
  have e1 : vs 1 = .bool false := hC 1 (by simp)
  have e2 : vs 2 = .bool true := hC 2 (by simp)
  have E : Fr w [(b7_17, 6, Fq.st [.n a, .n b, .n m]), (b3, 2, Fq.raw n2 a2 k2 c2 xs2), (b2, 2, Fq.raw n1 a1 k1 c1 xs1), (b1, 5, Fq.st [.v (.int .u8 M9), .v (.int .u8 A), .v (.int .u8 X), .v (.int .u8 Y), .v (.int .u16 Q)])] w8 := E8
  rw [lay_all hL]
  simp only [putAll, dstOf, List.length_cons, List.length_nil, Nat.zero_add, Nat.reduceAdd, List.getElem?_toArray, List.getElem?_cons_zero, List.getElem?_cons_succ, Option.bind_some, Act.put, List.setIfInBounds_toArray, List.set_cons_succ, List.set_cons_zero]
  rw [e1, e2]
  generalize vs 0 = u8_0
  clear e1 e2 hC hn E8 hL vs L nb
  go_upto_region 7 with (fail)
  refine region_fr (C := [Fq.is (.bool true), Fq.is (.bool true)]) (ks := [none, none, none, none]) (new := []) E rfl (by kernel_rfl) rfl rfl (fun hp => ⟨?_, ?_, trivial⟩) ?_
  ·exact q_move hp (free_of rfl) trivial (sqo 7)
  ·exact q_assign hp (free_of rfl) trivial (sqi 0)
  intro L vs w9 nb hL hC hn E9
  have e0 : vs 0 = .bool true := hC 0 (by simp)
  have e1 : vs 1 = .bool true := hC 1 (by simp)
  have E : Fr w [(b7_17, 6, Fq.st [.n a, .n b, .n m]), (b3, 2, Fq.raw n2 a2 k2 c2 xs2), (b2, 2, Fq.raw n1 a1 k1 c1 xs1), (b1, 5, Fq.st [.v (.int .u8 M9), .v (.int .u8 A), .v (.int .u8 X), .v (.int .u8 Y), .v (.int .u16 Q)])] w9 := E9
  rw [lay_all hL]
  simp only [putAll, dstOf, List.length_cons, List.length_nil, Nat.zero_add, Nat.reduceAdd, List.getElem?_toArray, List.getElem?_cons_zero, List.getElem?_cons_succ, Option.bind_some, Act.put, List.setIfInBounds_toArray, List.set_cons_succ, List.set_cons_zero]
  rw [e0, e1]
  clear e0 e1 hC hn E9 hL vs L nb
  clear HNS HCR HMM HM0 HMP HAX HBB HON IX IY IQ TX TY EI EJ HK1 HK2
  clear BM BA BB BP BI BJ BZ
  go_wp2
  refine bodyPost_ret (v := .bool true) ?_ rfl ⟨_, rfl, E.below, rfl⟩
  simp [results, Try.results4, go_sem]
 case true =>
  obtain ⟨S1, S2, S3, S5, g1, g2, g3, g4, g5, g6, o1, o2, o3, o5⟩ := mult_facts (HCR.out (Int.ofNat.inj (of_decide_eq_true ha))) HON.out I J
  have HNS := hidd ha
  clear ha
  have G1 := hidd g1
  have G2 := hidd g2
  have G3 := hidd g3
  have G4 := hidd g4
  have G5 := hidd g5
  have G6 := hidd g6
  have B1 := hidd (o1.ab BM.out)
  have B2 := hidd (o2.ab BM.out)
  have B3 := hidd (o3.ab BM.out)
  have B5 := hidd (o5.ab BM.out)
  clear g1 g2 g3 g4 g5 g6 o1 o2 o3 o5
  refine region_fr (C := [Fq.st [.n a, .n b, .n m], Fq.is (.bool true), Fq.is (.bool false)]) (ks := [none, none, none, none]) (new := []) E rfl (by kernel_rfl) rfl rfl (fun hp => ⟨?_, ?_, ?_, trivial⟩) ?_
  ·exact q_loadSt (off := 0) (l := 6) (fs := [.n a, .n b, .n m]) (gs := [.n a, .n b, .n m]) hp (free_of rfl) trivial (mq 0 rfl) (.inl rfl) rfl row_api_Mod rfl (sqo 9) (fun v w h => h)
  ·exact q_call1 (F := (Fq.st [.n a, .n b, .n m]).P) hp (free_of rfl) trivial (enq_f_algorist_algoristref06_Nonsingular) (sqi 0) (fun v w h => exNonsing h BM.out BA.out BB.out HMP.out HNS.out)
  ·exact q_one (F := fun v _ => v = .bool true) hp (free_of rfl) trivial (sqi 1) (fun ρ w _ h => ⟨.bool false, by simp [execOp, go_sem, h], rfl⟩)
  intro L vs w10 nb hL hC hn E10
  have e1 : vs 1 = .bool true := hC 1 (by simp)
  have e2 : vs 2 = .bool false := hC 2 (by simp)
  have E : Fr w [(b7_17, 6, Fq.st [.n a, .n b, .n m]), (b3, 2, Fq.raw n2 a2 k2 c2 xs2), (b2, 2, Fq.raw n1 a1 k1 c1 xs1), (b1, 5, Fq.st [.v (.int .u8 M9), .v (.int .u8 A), .v (.int .u8 X), .v (.int .u8 Y), .v (.int .u16 Q)])] w10 := E10
  rw [lay_all hL]
  simp only [putAll, dstOf, List.length_cons, List.length_nil, Nat.zero_add, Nat.reduceAdd, List.getElem?_toArray, List.getElem?_cons_zero, List.getElem?_cons_succ, Option.bind_some, Act.put, List.setIfInBounds_toArray, List.set_cons_succ, List.set_cons_zero]
  rw [e1, e2]
  generalize vs 0 = u10_0
  clear e1 e2 hC hn E10 hL vs L nb
  clear HNS HCR
  go_upto_region 8 with (fail)
  refine region_fr (C := [Fq.is (.pointer (some ⟨b1, 2, none⟩)), Fq.is (.int .u8 X), Fq.is (.int .i64 X), Fq.is (.int .i64 m), Fq.is (.int .i64 x), Fq.is (.pointer (some ⟨b1, 3, none⟩)), Fq.is (.int .u8 Y), Fq.is (.int .i64 Y), Fq.is (.int .i64 m), Fq.is (.int .i64 y), Fq.st [.n x, .n y, .v (.bool false)], Fq.raw n1 a1 k1 c1 xs1, Fq.num I, Fq.raw n2 a2 k2 c2 xs2, Fq.num J, Fq.any, Fq.any, Fq.any, Fq.any, Fq.any, Fq.any]) (ks := [none, none, none, none]) (new := [⟨15, 18, 5, Fq.st [.n 0, .n 0, .v (.bool false)], Fq.st [.n x, .n y, .v (.bool false)], none⟩, ⟨16, 19, 2, Fq.num 0, Fq.num I, none⟩, ⟨17, 20, 2, Fq.num 0, Fq.num J, none⟩]) E rfl (by kernel_rfl) rfl rfl (fun hp => ⟨?_, ?_, ?_, ?_, ?_, ?_, ?_, ?_, ?_, ?_, ?_, ?_, ?_, ?_, ?_, ?_, ?_, ?_, ?_, ?_, ?_, trivial⟩) ?_
  ·exact q_addr (b := b1) (off := 0) (off' := 2) hp (free_of rfl) trivial (sqo 3) (fun ρ w h => by simp [execOp, go_sem, h]) (fun _ => rfl)
  ·exact q_load1 (off := 2) (fs := [.v (.int .u8 M9), .v (.int .u8 A), .v (.int .u8 X), .v (.int .u8 Y), .v (.int .u16 Q)]) (u := .int .u8 X) hp (free_of rfl) trivial (mq 3 rfl) (.inl rfl) rfl rfl (fun ρ w b h1 h2 => by simp [execOp, go_sem, h1, h2]) (sqi 0) (fun _ => rfl)
  ·exact q_one (F := fun v _ => v = .int .u8 X) hp (free_of rfl) trivial (sqi 1) (fun ρ w hc h => ⟨.int .i64 X, by simp [execOp, go_sem, h, IX.out], rfl⟩)
  ·exact q_move hp (free_of rfl) trivial (sqo 8)
  ·exact q_two (F := fun v _ => v = .int .i64 X) (G := fun v _ => v = .int .i64 m) hp (free_of rfl) trivial (sqi 2) (sqi 3) (fun ρ w hc h h' => ⟨.int .i64 x, by simp [execOp, go_sem, h, h', HM0.out, TX.out], rfl⟩)
  ·exact q_addr (b := b1) (off := 0) (off' := 3) hp (free_of rfl) trivial (sqo 3) (fun ρ w h => by simp [execOp, go_sem, h]) (fun _ => rfl)
  ·exact q_load1 (off := 3) (fs := [.v (.int .u8 M9), .v (.int .u8 A), .v (.int .u8 X), .v (.int .u8 Y), .v (.int .u16 Q)]) (u := .int .u8 Y) hp (free_of rfl) trivial (mq 3 rfl) (.inl rfl) rfl rfl (fun ρ w b h1 h2 => by simp [execOp, go_sem, h1, h2]) (sqi 5) (fun _ => rfl)
  ·exact q_one (F := fun v _ => v = .int .u8 Y) hp (free_of rfl) trivial (sqi 6) (fun ρ w hc h => ⟨.int .i64 Y, by simp [execOp, go_sem, h, IY.out], rfl⟩)
  ·exact q_move hp (free_of rfl) trivial (sqo 8)
  ·exact q_two (F := fun v _ => v = .int .i64 Y) (G := fun v _ => v = .int .i64 m) hp (free_of rfl) trivial (sqi 7) (sqi 8) (fun ρ w hc h h' => ⟨.int .i64 y, by simp [execOp, go_sem, h, h', HM0.out, TY.out], rfl⟩)
  ·exact q_call2 (F := (Fq.is (.int .i64 x)).P) (G := (Fq.is (.int .i64 y)).P) hp (free_of rfl) trivial (enq_f_algorist_algoristlaw06_at) (sqi 4) (sqi 9) (fun v v' w h h' => (by subst h h'; exact exAt (by have := HAX.out; have := HMM.out; omega) (by have := HAX.out; have := HMM.out; omega)))
  ·exact q_loadRaw (off := 0) hp (free_of rfl) trivial (mq 2 rfl) (.inl rfl) (Nat.le_of_ble_eq_true rfl) (sqo 4) (fun us w hl h => ld_raw hl h)
  ·exact q_call2 (F := (Fq.raw n1 a1 k1 c1 xs1).P) (G := (Fq.is (.int .i64 2)).P) hp (free_of rfl) trivial (enq_R_Made) (sqi 11) (sq_const (fun _ => rfl)) (fun v v' w h h' => (by rw [EI.out]; exact exRMade (j := 2) h h' HK1.out (by omega)))
  ·exact q_loadRaw (off := 0) hp (free_of rfl) trivial (mq 1 rfl) (.inl rfl) (Nat.le_of_ble_eq_true rfl) (sqo 5) (fun us w hl h => ld_raw hl h)
  ·exact q_call2 (F := (Fq.raw n2 a2 k2 c2 xs2).P) (G := (Fq.is (.int .i64 2)).P) hp (free_of rfl) trivial (enq_R_Made) (sqi 13) (sq_const (fun _ => rfl)) (fun v v' w h h' => (by rw [EJ.out]; exact exRMade (j := 2) h h' HK2.out (by omega)))
  ·exact q_allocSt (us := [.bool false, .slice none 0 0, .bool false, .slice none 0 0, .bool false]) (fs := [.n 0, .n 0, .v (.bool false)]) hp (mq 0 rfl) rfl rfl rfl (Nat.lt_of_sub_eq_succ rfl) rfl fits0_api_Point (fun ρ w => ralloc_api_Point ρ w) rfl (Nat.ne_of_beq_eq_false rfl) (fun _ _ => trivial) (old_ne rfl) (newk_ne rfl)
  ·exact q_allocInt hp (mq 1 rfl) rfl rfl rfl rfl (Nat.ne_of_beq_eq_false rfl) (fun _ _ => trivial) (old_ne rfl) (newk_ne rfl) (fun w => Num.zero w)
  ·exact q_allocInt hp (mq 2 rfl) rfl rfl rfl rfl (Nat.ne_of_beq_eq_false rfl) (fun _ _ => trivial) (old_ne rfl) (newk_ne rfl) (fun w => Num.zero w)
  ·exact q_storeNewSt (fs := [.n 0, .n 0, .v (.bool false)]) (gs := [.n x, .n y, .v (.bool false)]) hp (mq 0 rfl) rfl rfl rfl rfl size_api_Point rfl (own_ptr rfl rfl (by simp) rfl) (sq_in 10 rfl rfl (by simp) rfl (fun v w h => fitv_st h)) (fun _ _ => trivial) (old_ne rfl) (newi_ne rfl)
  ·exact q_storeNewInt hp (mq 1 rfl) rfl rfl rfl (own_ptr rfl rfl (by simp) rfl) (sq_in 12 rfl rfl (by simp) rfl (fun v w h => intV_num h)) (fun _ _ => trivial) (old_ne rfl) (newi_ne rfl)
  ·exact q_storeNewInt hp (mq 2 rfl) rfl rfl rfl (own_ptr rfl rfl (by simp) rfl) (sq_in 14 rfl rfl (by simp) rfl (fun v w h => intV_num h)) (fun _ _ => trivial) (old_ne rfl) (newi_ne rfl)
  intro L vs w11 nb hL hC hn E11
  have e0 : vs 0 = .pointer (some ⟨b1, 2, none⟩) := hC 0 (by simp)
  have e1 : vs 1 = .int .u8 X := hC 1 (by simp)
  have e2 : vs 2 = .int .i64 X := hC 2 (by simp)
  have e3 : vs 3 = .int .i64 m := hC 3 (by simp)
  have e4 : vs 4 = .int .i64 x := hC 4 (by simp)
  have e5 : vs 5 = .pointer (some ⟨b1, 3, none⟩) := hC 5 (by simp)
  have e6 : vs 6 = .int .u8 Y := hC 6 (by simp)
  have e7 : vs 7 = .int .i64 Y := hC 7 (by simp)
  have e8 : vs 8 = .int .i64 m := hC 8 (by simp)
  have e9 : vs 9 = .int .i64 y := hC 9 (by simp)
  have e15 : vs 15 = .pointer (some ⟨nb 15, 0, none⟩) := hn _ (mq 0 rfl)
  have e16 : vs 16 = .pointer (some ⟨nb 16, 0, none⟩) := hn _ (mq 1 rfl)
  have e17 : vs 17 = .pointer (some ⟨nb 17, 0, none⟩) := hn _ (mq 2 rfl)
  have E : Fr w [(nb 15, 5, Fq.st [.n x, .n y, .v (.bool false)]), (nb 16, 2, Fq.num I), (nb 17, 2, Fq.num J), (b7_17, 6, Fq.st [.n a, .n b, .n m]), (b3, 2, Fq.raw n2 a2 k2 c2 xs2), (b2, 2, Fq.raw n1 a1 k1 c1 xs1), (b1, 5, Fq.st [.v (.int .u8 M9), .v (.int .u8 A), .v (.int .u8 X), .v (.int .u8 Y), .v (.int .u16 Q)])] w11 := E11
  rw [lay_all hL]
  simp only [putAll, dstOf, List.length_cons, List.length_nil, Nat.zero_add, Nat.reduceAdd, List.getElem?_toArray, List.getElem?_cons_zero, List.getElem?_cons_succ, Option.bind_some, Act.put, List.setIfInBounds_toArray, List.set_cons_succ, List.set_cons_zero]
  rw [e0, e1, e2, e3, e4, e5, e6, e7, e8, e9, e15, e16, e17]
  generalize nb 15 = b11_15 at E ⊢
  generalize nb 16 = b11_16 at E ⊢
  generalize nb 17 = b11_17 at E ⊢
  generalize vs 10 = u11_10
  generalize vs 11 = u11_11
  generalize vs 12 = u11_12
  generalize vs 13 = u11_13
  generalize vs 14 = u11_14
  clear e0 e1 e2 e3 e4 e5 e6 e7 e8 e9 e15 e16 e17 hC hn E11 hL vs L nb
  clear IX IY IQ TX TY EI EJ HK1 HK2
  go_upto_region 9 with (fail)
  have B12 : Hid (ab ((I + J)) < pw 4) := ab_addB BI.out BJ.out (by omega) (by omega)
  refine region_fr (C := [Fq.st [.n a, .n b, .n m], Fq.num I, Fq.st [.n x, .n y, .v (.bool false)], Fq.st [.n S1.x, .n S1.y, .v (.bool S1.i), .n 0, .v (.int .i64 0)], Fq.st [.n a, .n b, .n m], Fq.num J, Fq.st [.n x, .n y, .v (.bool false)], Fq.st [.n S2.x, .n S2.y, .v (.bool S2.i), .n 0, .v (.int .i64 0)], Fq.st [.n a, .n b, .n m], Fq.num I, Fq.num J, Fq.num (I + J), Fq.st [.n x, .n y, .v (.bool false)], Fq.st [.n S3.x, .n S3.y, .v (.bool S3.i), .n 0, .v (.int .i64 0)], Fq.any, Fq.any, Fq.any, Fq.any, Fq.any, Fq.any]) (ks := [none, none, none, none, none, none, none]) (new := [⟨14, 17, 8, Fq.st [.n 0, .n 0, .v (.bool false), .n 0, .v (.int .i64 0)], Fq.st [.n S1.x, .n S1.y, .v (.bool S1.i), .n 0, .v (.int .i64 0)], none⟩, ⟨15, 18, 8, Fq.st [.n 0, .n 0, .v (.bool false), .n 0, .v (.int .i64 0)], Fq.st [.n S2.x, .n S2.y, .v (.bool S2.i), .n 0, .v (.int .i64 0)], none⟩, ⟨16, 19, 8, Fq.st [.n 0, .n 0, .v (.bool false), .n 0, .v (.int .i64 0)], Fq.st [.n S3.x, .n S3.y, .v (.bool S3.i), .n 0, .v (.int .i64 0)], none⟩]) E rfl (by kernel_rfl) rfl rfl (fun hp => ⟨?_, ?_, ?_, ?_, ?_, ?_, ?_, ?_, ?_, ?_, ?_, ?_, ?_, ?_, ?_, ?_, ?_, ?_, ?_, ?_, trivial⟩) ?_
  ·exact q_loadSt (off := 0) (l := 6) (fs := [.n a, .n b, .n m]) (gs := [.n a, .n b, .n m]) hp (free_of rfl) trivial (mq 3 rfl) (.inl rfl) rfl row_api_Mod rfl (sqo 9) (fun v w h => h)
  ·exact q_loadInt (off := 0) hp (free_of rfl) trivial (mq 1 rfl) (.inl rfl) (Nat.le_of_ble_eq_true rfl) (sqo 11) (fun us w hl h => ld_num hl h)
  ·exact q_loadSt (off := 0) (l := 5) (fs := [.n x, .n y, .v (.bool false)]) (gs := [.n x, .n y, .v (.bool false)]) hp (free_of rfl) trivial (mq 0 rfl) (.inl rfl) rfl row_api_Point rfl (sqo 10) (fun v w h => h)
  ·exact q_call3 (F := (Fq.st [.n a, .n b, .n m]).P) (G := (Fq.num I).P) (F3 := (Fq.st [.n x, .n y, .v (.bool false)]).P) hp (free_of rfl) trivial (enq_f_algorist_algoristlaw06_times) (sqi 0) (sqi 1) (sqi 2) (fun v v' u w h h' g => exLTimes (P := (⟨x, y, false⟩ : Pt)) (R := (S1, 0, 0)) h h' g BM.out BA.out BB.out (Int.lt_of_lt_of_le BI.out (pw_le (by omega))) BP.out G1.out)
  ·exact q_loadSt (off := 0) (l := 6) (fs := [.n a, .n b, .n m]) (gs := [.n a, .n b, .n m]) hp (free_of rfl) trivial (mq 3 rfl) (.inl rfl) rfl row_api_Mod rfl (sqo 9) (fun v w h => h)
  ·exact q_loadInt (off := 0) hp (free_of rfl) trivial (mq 2 rfl) (.inl rfl) (Nat.le_of_ble_eq_true rfl) (sqo 12) (fun us w hl h => ld_num hl h)
  ·exact q_loadSt (off := 0) (l := 5) (fs := [.n x, .n y, .v (.bool false)]) (gs := [.n x, .n y, .v (.bool false)]) hp (free_of rfl) trivial (mq 0 rfl) (.inl rfl) rfl row_api_Point rfl (sqo 10) (fun v w h => h)
  ·exact q_call3 (F := (Fq.st [.n a, .n b, .n m]).P) (G := (Fq.num J).P) (F3 := (Fq.st [.n x, .n y, .v (.bool false)]).P) hp (free_of rfl) trivial (enq_f_algorist_algoristlaw06_times) (sqi 4) (sqi 5) (sqi 6) (fun v v' u w h h' g => exLTimes (P := (⟨x, y, false⟩ : Pt)) (R := (S2, 0, 0)) h h' g BM.out BA.out BB.out (Int.lt_of_lt_of_le BJ.out (pw_le (by omega))) BP.out G2.out)
  ·exact q_loadSt (off := 0) (l := 6) (fs := [.n a, .n b, .n m]) (gs := [.n a, .n b, .n m]) hp (free_of rfl) trivial (mq 3 rfl) (.inl rfl) rfl row_api_Mod rfl (sqo 9) (fun v w h => h)
  ·exact q_loadInt (off := 0) hp (free_of rfl) trivial (mq 1 rfl) (.inl rfl) (Nat.le_of_ble_eq_true rfl) (sqo 11) (fun us w hl h => ld_num hl h)
  ·exact q_loadInt (off := 0) hp (free_of rfl) trivial (mq 2 rfl) (.inl rfl) (Nat.le_of_ble_eq_true rfl) (sqo 12) (fun us w hl h => ld_num hl h)
  ·exact q_call2 (F := (Fq.num I).P) (G := (Fq.num J).P) hp (free_of rfl) trivial (enq_Add) (sqi 9) (sqi 10) (fun v v' w h h' => exK (AddV h h') B12.out (by omega))
  ·exact q_loadSt (off := 0) (l := 5) (fs := [.n x, .n y, .v (.bool false)]) (gs := [.n x, .n y, .v (.bool false)]) hp (free_of rfl) trivial (mq 0 rfl) (.inl rfl) rfl row_api_Point rfl (sqo 10) (fun v w h => h)
  ·exact q_call3 (F := (Fq.st [.n a, .n b, .n m]).P) (G := (Fq.num (I + J)).P) (F3 := (Fq.st [.n x, .n y, .v (.bool false)]).P) hp (free_of rfl) trivial (enq_f_algorist_algoristlaw06_times) (sqi 8) (sqi 11) (sqi 12) (fun v v' u w h h' g => exLTimes (P := (⟨x, y, false⟩ : Pt)) (R := (S3, 0, 0)) h h' g BM.out BA.out BB.out (Int.lt_of_lt_of_le B12.out (pw_le (by omega))) BP.out G3.out)
  ·exact q_allocSt (us := [.bool false, .slice none 0 0, .bool false, .slice none 0 0, .bool false, .bool false, .slice none 0 0, .int .i64 0]) (fs := [.n 0, .n 0, .v (.bool false), .n 0, .v (.int .i64 0)]) hp (mq 0 rfl) rfl rfl rfl (Nat.lt_of_sub_eq_succ rfl) rfl fits0_algoristref06_Sum (fun ρ w => ralloc_algoristref06_Sum ρ w) rfl (Nat.ne_of_beq_eq_false rfl) (fun _ _ => trivial) (old_ne rfl) (newk_ne rfl)
  ·exact q_allocSt (us := [.bool false, .slice none 0 0, .bool false, .slice none 0 0, .bool false, .bool false, .slice none 0 0, .int .i64 0]) (fs := [.n 0, .n 0, .v (.bool false), .n 0, .v (.int .i64 0)]) hp (mq 1 rfl) rfl rfl rfl (Nat.lt_of_sub_eq_succ rfl) rfl fits0_algoristref06_Sum (fun ρ w => ralloc_algoristref06_Sum ρ w) rfl (Nat.ne_of_beq_eq_false rfl) (fun _ _ => trivial) (old_ne rfl) (newk_ne rfl)
  ·exact q_allocSt (us := [.bool false, .slice none 0 0, .bool false, .slice none 0 0, .bool false, .bool false, .slice none 0 0, .int .i64 0]) (fs := [.n 0, .n 0, .v (.bool false), .n 0, .v (.int .i64 0)]) hp (mq 2 rfl) rfl rfl rfl (Nat.lt_of_sub_eq_succ rfl) rfl fits0_algoristref06_Sum (fun ρ w => ralloc_algoristref06_Sum ρ w) rfl (Nat.ne_of_beq_eq_false rfl) (fun _ _ => trivial) (old_ne rfl) (newk_ne rfl)
  ·exact q_storeNewSt (fs := [.n 0, .n 0, .v (.bool false), .n 0, .v (.int .i64 0)]) (gs := [.n S1.x, .n S1.y, .v (.bool S1.i), .n 0, .v (.int .i64 0)]) hp (mq 0 rfl) rfl rfl rfl rfl size_algoristref06_Sum rfl (own_ptr rfl rfl (by simp) rfl) (sq_in 3 rfl rfl (by simp) rfl (fun v w h => fitv_st h)) (fun _ _ => trivial) (old_ne rfl) (newi_ne rfl)
  ·exact q_storeNewSt (fs := [.n 0, .n 0, .v (.bool false), .n 0, .v (.int .i64 0)]) (gs := [.n S2.x, .n S2.y, .v (.bool S2.i), .n 0, .v (.int .i64 0)]) hp (mq 1 rfl) rfl rfl rfl rfl size_algoristref06_Sum rfl (own_ptr rfl rfl (by simp) rfl) (sq_in 7 rfl rfl (by simp) rfl (fun v w h => fitv_st h)) (fun _ _ => trivial) (old_ne rfl) (newi_ne rfl)
  ·exact q_storeNewSt (fs := [.n 0, .n 0, .v (.bool false), .n 0, .v (.int .i64 0)]) (gs := [.n S3.x, .n S3.y, .v (.bool S3.i), .n 0, .v (.int .i64 0)]) hp (mq 2 rfl) rfl rfl rfl rfl size_algoristref06_Sum rfl (own_ptr rfl rfl (by simp) rfl) (sq_in 13 rfl rfl (by simp) rfl (fun v w h => fitv_st h)) (fun _ _ => trivial) (old_ne rfl) (newi_ne rfl)
  intro L vs w13 nb hL hC hn E13
  have e14 : vs 14 = .pointer (some ⟨nb 14, 0, none⟩) := hn _ (mq 0 rfl)
  have e15 : vs 15 = .pointer (some ⟨nb 15, 0, none⟩) := hn _ (mq 1 rfl)
  have e16 : vs 16 = .pointer (some ⟨nb 16, 0, none⟩) := hn _ (mq 2 rfl)
  have E : Fr w [(nb 14, 8, Fq.st [.n S1.x, .n S1.y, .v (.bool S1.i), .n 0, .v (.int .i64 0)]), (nb 15, 8, Fq.st [.n S2.x, .n S2.y, .v (.bool S2.i), .n 0, .v (.int .i64 0)]), (nb 16, 8, Fq.st [.n S3.x, .n S3.y, .v (.bool S3.i), .n 0, .v (.int .i64 0)]), (b11_15, 5, Fq.st [.n x, .n y, .v (.bool false)]), (b11_16, 2, Fq.num I), (b11_17, 2, Fq.num J), (b7_17, 6, Fq.st [.n a, .n b, .n m]), (b3, 2, Fq.raw n2 a2 k2 c2 xs2), (b2, 2, Fq.raw n1 a1 k1 c1 xs1), (b1, 5, Fq.st [.v (.int .u8 M9), .v (.int .u8 A), .v (.int .u8 X), .v (.int .u8 Y), .v (.int .u16 Q)])] w13 := E13
  rw [lay_all hL]
  simp only [putAll, dstOf, List.length_cons, List.length_nil, Nat.zero_add, Nat.reduceAdd, List.getElem?_toArray, List.getElem?_cons_zero, List.getElem?_cons_succ, Option.bind_some, Act.put, List.setIfInBounds_toArray, List.set_cons_succ, List.set_cons_zero]
  rw [e14, e15, e16]
  generalize nb 14 = b13_14 at E ⊢
  generalize nb 15 = b13_15 at E ⊢
  generalize nb 16 = b13_16 at E ⊢
  generalize vs 0 = u13_0
  generalize vs 1 = u13_1
  generalize vs 2 = u13_2
  generalize vs 3 = u13_3
  generalize vs 4 = u13_4
  generalize vs 5 = u13_5
  generalize vs 6 = u13_6
  generalize vs 7 = u13_7
  generalize vs 8 = u13_8
  generalize vs 9 = u13_9
  generalize vs 10 = u13_10
  generalize vs 11 = u13_11
  generalize vs 12 = u13_12
  generalize vs 13 = u13_13
  clear e14 e15 e16 hC hn E13 hL vs L nb
  go_upto_region 10 with (fail)
  refine region_fr (C := [Fq.st [.n a, .n b, .n m], Fq.is (.pointer (some ⟨b13_14, 0, none⟩)), Fq.st [.n S1.x, .n S1.y, .v (.bool S1.i)], Fq.is (.pointer (some ⟨b13_15, 0, none⟩)), Fq.st [.n S2.x, .n S2.y, .v (.bool S2.i)], Fq.st [.n S3.x, .n S3.y, .v (.bool S3.i), .n 0, .v (.int .i64 0)], Fq.any, Fq.any]) (ks := [none, none, none, none, none, none, none, none, none, none]) (new := [⟨6, 7, 8, Fq.st [.n 0, .n 0, .v (.bool false), .n 0, .v (.int .i64 0)], Fq.st [.n S3.x, .n S3.y, .v (.bool S3.i), .n 0, .v (.int .i64 0)], none⟩]) E rfl (by kernel_rfl) rfl rfl (fun hp => ⟨?_, ?_, ?_, ?_, ?_, ?_, ?_, ?_, trivial⟩) ?_
  ·exact q_loadSt (off := 0) (l := 6) (fs := [.n a, .n b, .n m]) (gs := [.n a, .n b, .n m]) hp (free_of rfl) trivial (mq 6 rfl) (.inl rfl) rfl row_api_Mod rfl (sqo 9) (fun v w h => h)
  ·exact q_addr (b := b13_14) (off := 0) (off' := 0) hp (free_of rfl) trivial (sqo 13) (fun ρ w h => by simp [execOp, go_sem, h]) (fun _ => rfl)
  ·exact q_loadSt (off := 0) (l := 5) (fs := [.n S1.x, .n S1.y, .v (.bool S1.i), .n 0, .v (.int .i64 0)]) (gs := [.n S1.x, .n S1.y, .v (.bool S1.i)]) hp (free_of rfl) trivial (mq 0 rfl) (.inl rfl) rfl row_api_Point rfl (sqi 1) (fun v w h => h)
  ·exact q_addr (b := b13_15) (off := 0) (off' := 0) hp (free_of rfl) trivial (sqo 14) (fun ρ w h => by simp [execOp, go_sem, h]) (fun _ => rfl)
  ·exact q_loadSt (off := 0) (l := 5) (fs := [.n S2.x, .n S2.y, .v (.bool S2.i), .n 0, .v (.int .i64 0)]) (gs := [.n S2.x, .n S2.y, .v (.bool S2.i)]) hp (free_of rfl) trivial (mq 1 rfl) (.inl rfl) rfl row_api_Point rfl (sqi 3) (fun v w h => h)
  ·exact q_call3 (F := (Fq.st [.n a, .n b, .n m]).P) (G := (Fq.st [.n S1.x, .n S1.y, .v (.bool S1.i)]).P) (F3 := (Fq.st [.n S2.x, .n S2.y, .v (.bool S2.i)]).P) hp (free_of rfl) trivial (enq_f_algorist_algoristlaw06_add) (sqi 0) (sqi 2) (sqi 4) (fun v v' u w h h' g => exLAdd (P := S1) (Q := S2) (R := (S3, 0, 0)) h h' g BM.out BA.out BB.out B1.out B2.out G4.out)
  ·exact q_allocSt (us := [.bool false, .slice none 0 0, .bool false, .slice none 0 0, .bool false, .bool false, .slice none 0 0, .int .i64 0]) (fs := [.n 0, .n 0, .v (.bool false), .n 0, .v (.int .i64 0)]) hp (mq 0 rfl) rfl rfl rfl (Nat.lt_of_sub_eq_succ rfl) rfl fits0_algoristref06_Sum (fun ρ w => ralloc_algoristref06_Sum ρ w) rfl (Nat.ne_of_beq_eq_false rfl) (fun _ _ => trivial) (old_ne rfl) (newk_ne rfl)
  ·exact q_storeNewSt (fs := [.n 0, .n 0, .v (.bool false), .n 0, .v (.int .i64 0)]) (gs := [.n S3.x, .n S3.y, .v (.bool S3.i), .n 0, .v (.int .i64 0)]) hp (mq 0 rfl) rfl rfl rfl rfl size_algoristref06_Sum rfl (own_ptr rfl rfl (by simp) rfl) (sq_in 5 rfl rfl (by simp) rfl (fun v w h => fitv_st h)) (fun _ _ => trivial) (old_ne rfl) (newi_ne rfl)
  intro L vs w14 nb hL hC hn E14
  have e1 : vs 1 = .pointer (some ⟨b13_14, 0, none⟩) := hC 1 (by simp)
  have e3 : vs 3 = .pointer (some ⟨b13_15, 0, none⟩) := hC 3 (by simp)
  have e6 : vs 6 = .pointer (some ⟨nb 6, 0, none⟩) := hn _ (mq 0 rfl)
  have E : Fr w [(nb 6, 8, Fq.st [.n S3.x, .n S3.y, .v (.bool S3.i), .n 0, .v (.int .i64 0)]), (b13_14, 8, Fq.st [.n S1.x, .n S1.y, .v (.bool S1.i), .n 0, .v (.int .i64 0)]), (b13_15, 8, Fq.st [.n S2.x, .n S2.y, .v (.bool S2.i), .n 0, .v (.int .i64 0)]), (b13_16, 8, Fq.st [.n S3.x, .n S3.y, .v (.bool S3.i), .n 0, .v (.int .i64 0)]), (b11_15, 5, Fq.st [.n x, .n y, .v (.bool false)]), (b11_16, 2, Fq.num I), (b11_17, 2, Fq.num J), (b7_17, 6, Fq.st [.n a, .n b, .n m]), (b3, 2, Fq.raw n2 a2 k2 c2 xs2), (b2, 2, Fq.raw n1 a1 k1 c1 xs1), (b1, 5, Fq.st [.v (.int .u8 M9), .v (.int .u8 A), .v (.int .u8 X), .v (.int .u8 Y), .v (.int .u16 Q)])] w14 := E14
  rw [lay_all hL]
  simp only [putAll, dstOf, List.length_cons, List.length_nil, Nat.zero_add, Nat.reduceAdd, List.getElem?_toArray, List.getElem?_cons_zero, List.getElem?_cons_succ, Option.bind_some, Act.put, List.setIfInBounds_toArray, List.set_cons_succ, List.set_cons_zero]
  rw [e1, e3, e6]
  generalize nb 6 = b14_6 at E ⊢
  generalize vs 0 = u14_0
  generalize vs 2 = u14_2
  generalize vs 4 = u14_4
  generalize vs 5 = u14_5
  clear e1 e3 e6 hC hn E14 hL vs L nb
  go_upto_region 11 with (fail)
  have B15 : Hid (ab ((I * J)) < pw 6) := ab_mulM BI.out BJ.out (by omega)
  refine region_fr (C := [Fq.st [.n a, .n b, .n m], Fq.num I, Fq.num J, Fq.num (I * J), Fq.st [.n x, .n y, .v (.bool false)], Fq.st [.n S5.x, .n S5.y, .v (.bool S5.i), .n 0, .v (.int .i64 0)], Fq.st [.n a, .n b, .n m], Fq.num I, Fq.is (.pointer (some ⟨b13_15, 0, none⟩)), Fq.st [.n S2.x, .n S2.y, .v (.bool S2.i)], Fq.st [.n S5.x, .n S5.y, .v (.bool S5.i), .n 0, .v (.int .i64 0)], Fq.any, Fq.any, Fq.any, Fq.any]) (ks := [none, none, none, none, none, none, none, none, none, none, none]) (new := [⟨11, 13, 8, Fq.st [.n 0, .n 0, .v (.bool false), .n 0, .v (.int .i64 0)], Fq.st [.n S5.x, .n S5.y, .v (.bool S5.i), .n 0, .v (.int .i64 0)], none⟩, ⟨12, 14, 8, Fq.st [.n 0, .n 0, .v (.bool false), .n 0, .v (.int .i64 0)], Fq.st [.n S5.x, .n S5.y, .v (.bool S5.i), .n 0, .v (.int .i64 0)], none⟩]) E rfl (by kernel_rfl) rfl rfl (fun hp => ⟨?_, ?_, ?_, ?_, ?_, ?_, ?_, ?_, ?_, ?_, ?_, ?_, ?_, ?_, ?_, trivial⟩) ?_
  ·exact q_loadSt (off := 0) (l := 6) (fs := [.n a, .n b, .n m]) (gs := [.n a, .n b, .n m]) hp (free_of rfl) trivial (mq 7 rfl) (.inl rfl) rfl row_api_Mod rfl (sqo 9) (fun v w h => h)
  ·exact q_loadInt (off := 0) hp (free_of rfl) trivial (mq 5 rfl) (.inl rfl) (Nat.le_of_ble_eq_true rfl) (sqo 11) (fun us w hl h => ld_num hl h)
  ·exact q_loadInt (off := 0) hp (free_of rfl) trivial (mq 6 rfl) (.inl rfl) (Nat.le_of_ble_eq_true rfl) (sqo 12) (fun us w hl h => ld_num hl h)
  ·exact q_call2 (F := (Fq.num I).P) (G := (Fq.num J).P) hp (free_of rfl) trivial (enq_Mul) (sqi 1) (sqi 2) (fun v v' w h h' => exK (MulV h h') B15.out (by omega))
  ·exact q_loadSt (off := 0) (l := 5) (fs := [.n x, .n y, .v (.bool false)]) (gs := [.n x, .n y, .v (.bool false)]) hp (free_of rfl) trivial (mq 4 rfl) (.inl rfl) rfl row_api_Point rfl (sqo 10) (fun v w h => h)
  ·exact q_call3 (F := (Fq.st [.n a, .n b, .n m]).P) (G := (Fq.num (I * J)).P) (F3 := (Fq.st [.n x, .n y, .v (.bool false)]).P) hp (free_of rfl) trivial (enq_f_algorist_algoristlaw06_times) (sqi 0) (sqi 3) (sqi 4) (fun v v' u w h h' g => exLTimes (P := (⟨x, y, false⟩ : Pt)) (R := (S5, 0, 0)) h h' g BM.out BA.out BB.out (Int.lt_of_lt_of_le B15.out (pw_le (by omega))) BP.out G5.out)
  ·exact q_loadSt (off := 0) (l := 6) (fs := [.n a, .n b, .n m]) (gs := [.n a, .n b, .n m]) hp (free_of rfl) trivial (mq 7 rfl) (.inl rfl) rfl row_api_Mod rfl (sqo 9) (fun v w h => h)
  ·exact q_loadInt (off := 0) hp (free_of rfl) trivial (mq 5 rfl) (.inl rfl) (Nat.le_of_ble_eq_true rfl) (sqo 11) (fun us w hl h => ld_num hl h)
  ·exact q_addr (b := b13_15) (off := 0) (off' := 0) hp (free_of rfl) trivial (sqo 14) (fun ρ w h => by simp [execOp, go_sem, h]) (fun _ => rfl)
  ·exact q_loadSt (off := 0) (l := 5) (fs := [.n S2.x, .n S2.y, .v (.bool S2.i), .n 0, .v (.int .i64 0)]) (gs := [.n S2.x, .n S2.y, .v (.bool S2.i)]) hp (free_of rfl) trivial (mq 2 rfl) (.inl rfl) rfl row_api_Point rfl (sqi 8) (fun v w h => h)
  ·exact q_call3 (F := (Fq.st [.n a, .n b, .n m]).P) (G := (Fq.num I).P) (F3 := (Fq.st [.n S2.x, .n S2.y, .v (.bool S2.i)]).P) hp (free_of rfl) trivial (enq_f_algorist_algoristlaw06_times) (sqi 6) (sqi 7) (sqi 9) (fun v v' u w h h' g => exLTimes (P := S2) (R := (S5, 0, 0)) h h' g BM.out BA.out BB.out (Int.lt_of_lt_of_le BI.out (pw_le (by omega))) B2.out G6.out)
  ·exact q_allocSt (us := [.bool false, .slice none 0 0, .bool false, .slice none 0 0, .bool false, .bool false, .slice none 0 0, .int .i64 0]) (fs := [.n 0, .n 0, .v (.bool false), .n 0, .v (.int .i64 0)]) hp (mq 0 rfl) rfl rfl rfl (Nat.lt_of_sub_eq_succ rfl) rfl fits0_algoristref06_Sum (fun ρ w => ralloc_algoristref06_Sum ρ w) rfl (Nat.ne_of_beq_eq_false rfl) (fun _ _ => trivial) (old_ne rfl) (newk_ne rfl)
  ·exact q_allocSt (us := [.bool false, .slice none 0 0, .bool false, .slice none 0 0, .bool false, .bool false, .slice none 0 0, .int .i64 0]) (fs := [.n 0, .n 0, .v (.bool false), .n 0, .v (.int .i64 0)]) hp (mq 1 rfl) rfl rfl rfl (Nat.lt_of_sub_eq_succ rfl) rfl fits0_algoristref06_Sum (fun ρ w => ralloc_algoristref06_Sum ρ w) rfl (Nat.ne_of_beq_eq_false rfl) (fun _ _ => trivial) (old_ne rfl) (newk_ne rfl)
  ·exact q_storeNewSt (fs := [.n 0, .n 0, .v (.bool false), .n 0, .v (.int .i64 0)]) (gs := [.n S5.x, .n S5.y, .v (.bool S5.i), .n 0, .v (.int .i64 0)]) hp (mq 0 rfl) rfl rfl rfl rfl size_algoristref06_Sum rfl (own_ptr rfl rfl (by simp) rfl) (sq_in 5 rfl rfl (by simp) rfl (fun v w h => fitv_st h)) (fun _ _ => trivial) (old_ne rfl) (newi_ne rfl)
  ·exact q_storeNewSt (fs := [.n 0, .n 0, .v (.bool false), .n 0, .v (.int .i64 0)]) (gs := [.n S5.x, .n S5.y, .v (.bool S5.i), .n 0, .v (.int .i64 0)]) hp (mq 1 rfl) rfl rfl rfl rfl size_algoristref06_Sum rfl (own_ptr rfl rfl (by simp) rfl) (sq_in 10 rfl rfl (by simp) rfl (fun v w h => fitv_st h)) (fun _ _ => trivial) (old_ne rfl) (newi_ne rfl)
  intro L vs w16 nb hL hC hn E16
  have e8 : vs 8 = .pointer (some ⟨b13_15, 0, none⟩) := hC 8 (by simp)
  have e11 : vs 11 = .pointer (some ⟨nb 11, 0, none⟩) := hn _ (mq 0 rfl)
  have e12 : vs 12 = .pointer (some ⟨nb 12, 0, none⟩) := hn _ (mq 1 rfl)
  have E : Fr w [(nb 11, 8, Fq.st [.n S5.x, .n S5.y, .v (.bool S5.i), .n 0, .v (.int .i64 0)]), (nb 12, 8, Fq.st [.n S5.x, .n S5.y, .v (.bool S5.i), .n 0, .v (.int .i64 0)]), (b14_6, 8, Fq.st [.n S3.x, .n S3.y, .v (.bool S3.i), .n 0, .v (.int .i64 0)]), (b13_14, 8, Fq.st [.n S1.x, .n S1.y, .v (.bool S1.i), .n 0, .v (.int .i64 0)]), (b13_15, 8, Fq.st [.n S2.x, .n S2.y, .v (.bool S2.i), .n 0, .v (.int .i64 0)]), (b13_16, 8, Fq.st [.n S3.x, .n S3.y, .v (.bool S3.i), .n 0, .v (.int .i64 0)]), (b11_15, 5, Fq.st [.n x, .n y, .v (.bool false)]), (b11_16, 2, Fq.num I), (b11_17, 2, Fq.num J), (b7_17, 6, Fq.st [.n a, .n b, .n m]), (b3, 2, Fq.raw n2 a2 k2 c2 xs2), (b2, 2, Fq.raw n1 a1 k1 c1 xs1), (b1, 5, Fq.st [.v (.int .u8 M9), .v (.int .u8 A), .v (.int .u8 X), .v (.int .u8 Y), .v (.int .u16 Q)])] w16 := E16
  rw [lay_all hL]
  simp only [putAll, dstOf, List.length_cons, List.length_nil, Nat.zero_add, Nat.reduceAdd, List.getElem?_toArray, List.getElem?_cons_zero, List.getElem?_cons_succ, Option.bind_some, Act.put, List.setIfInBounds_toArray, List.set_cons_succ, List.set_cons_zero]
  rw [e8, e11, e12]
  generalize nb 11 = b16_11 at E ⊢
  generalize nb 12 = b16_12 at E ⊢
  generalize vs 0 = u16_0
  generalize vs 1 = u16_1
  generalize vs 2 = u16_2
  generalize vs 3 = u16_3
  generalize vs 4 = u16_4
  generalize vs 5 = u16_5
  generalize vs 6 = u16_6
  generalize vs 7 = u16_7
  generalize vs 9 = u16_9
  generalize vs 10 = u16_10
  clear e8 e11 e12 hC hn E16 hL vs L nb
  go_upto_region 12 with (fail)
  refine region_fr (C := [Fq.is (.pointer (some ⟨b13_14, 7, none⟩)), Fq.is (.int .i64 0), Fq.is (.bool false), Fq.is (.bool false), Fq.is (.pointer (some ⟨b13_15, 7, none⟩)), Fq.is (.int .i64 0), Fq.is (.bool false), Fq.is (.bool false), Fq.is (.bool false), Fq.is (.pointer (some ⟨b13_16, 7, none⟩)), Fq.is (.int .i64 0), Fq.is (.bool false), Fq.is (.bool false), Fq.is (.bool false), Fq.is (.pointer (some ⟨b14_6, 7, none⟩)), Fq.is (.int .i64 0), Fq.is (.bool false), Fq.is (.bool false), Fq.is (.bool false), Fq.is (.pointer (some ⟨b16_11, 7, none⟩)), Fq.is (.int .i64 0), Fq.is (.bool false), Fq.is (.bool false), Fq.is (.bool false), Fq.is (.pointer (some ⟨b16_12, 7, none⟩)), Fq.is (.int .i64 0), Fq.is (.bool false), Fq.is (.bool false)]) (ks := [none, none, none, none, none, none, none, none, none, none, none, none, none]) (new := []) E rfl (by kernel_rfl) rfl rfl (fun hp => ⟨?_, ?_, ?_, ?_, ?_, ?_, ?_, ?_, ?_, ?_, ?_, ?_, ?_, ?_, ?_, ?_, ?_, ?_, ?_, ?_, ?_, ?_, ?_, ?_, ?_, ?_, ?_, ?_, trivial⟩) ?_
  ·exact q_addr (b := b13_14) (off := 0) (off' := 7) hp (free_of rfl) trivial (sqo 13) (fun ρ w h => by simp [execOp, go_sem, h]) (fun _ => rfl)
  ·exact q_load1 (off := 7) (fs := [.n S1.x, .n S1.y, .v (.bool S1.i), .n 0, .v (.int .i64 0)]) (u := .int .i64 0) hp (free_of rfl) trivial (mq 3 rfl) (.inl rfl) rfl rfl (fun ρ w b h1 h2 => by simp [execOp, go_sem, h1, h2]) (sqi 0) (fun _ => rfl)
  ·exact q_one (F := fun v _ => v = .int .i64 0) hp (free_of rfl) trivial (sqi 1) (fun ρ w hc h => ⟨.bool false, by simp [execOp, go_sem, h, hc], rfl⟩)
  ·exact q_move hp (free_of rfl) trivial (sqi 2)
  ·exact q_addr (b := b13_15) (off := 0) (off' := 7) hp (free_of rfl) gqi (sqo 14) (fun ρ w h => by simp [execOp, go_sem, h]) (fun _ => rfl)
  ·exact q_load1 (off := 7) (fs := [.n S2.x, .n S2.y, .v (.bool S2.i), .n 0, .v (.int .i64 0)]) (u := .int .i64 0) hp (free_of rfl) gqi (mq 4 rfl) (.inl rfl) rfl rfl (fun ρ w b h1 h2 => by simp [execOp, go_sem, h1, h2]) (sqi 4) (fun _ => rfl)
  ·exact q_one (F := fun v _ => v = .int .i64 0) hp (free_of rfl) gqi (sqi 5) (fun ρ w hc h => ⟨.bool false, by simp [execOp, go_sem, h, hc], rfl⟩)
  ·exact q_two (F := fun v _ => v = .bool false) (G := fun v _ => v = .bool false) hp (free_of rfl) trivial (sqi 3) (sqi 6) (fun ρ w hc h h' => ⟨_, by simp [execOp, go_sem, h, h'], rfl⟩)
  ·exact q_move hp (free_of rfl) trivial (sqi 7)
  ·exact q_addr (b := b13_16) (off := 0) (off' := 7) hp (free_of rfl) gqi (sqo 15) (fun ρ w h => by simp [execOp, go_sem, h]) (fun _ => rfl)
  ·exact q_load1 (off := 7) (fs := [.n S3.x, .n S3.y, .v (.bool S3.i), .n 0, .v (.int .i64 0)]) (u := .int .i64 0) hp (free_of rfl) gqi (mq 5 rfl) (.inl rfl) rfl rfl (fun ρ w b h1 h2 => by simp [execOp, go_sem, h1, h2]) (sqi 9) (fun _ => rfl)
  ·exact q_one (F := fun v _ => v = .int .i64 0) hp (free_of rfl) gqi (sqi 10) (fun ρ w hc h => ⟨.bool false, by simp [execOp, go_sem, h, hc], rfl⟩)
  ·exact q_two (F := fun v _ => v = .bool false) (G := fun v _ => v = .bool false) hp (free_of rfl) trivial (sqi 8) (sqi 11) (fun ρ w hc h h' => ⟨_, by simp [execOp, go_sem, h, h'], rfl⟩)
  ·exact q_move hp (free_of rfl) trivial (sqi 12)
  ·exact q_addr (b := b14_6) (off := 0) (off' := 7) hp (free_of rfl) gqi (sqo 16) (fun ρ w h => by simp [execOp, go_sem, h]) (fun _ => rfl)
  ·exact q_load1 (off := 7) (fs := [.n S3.x, .n S3.y, .v (.bool S3.i), .n 0, .v (.int .i64 0)]) (u := .int .i64 0) hp (free_of rfl) gqi (mq 2 rfl) (.inl rfl) rfl rfl (fun ρ w b h1 h2 => by simp [execOp, go_sem, h1, h2]) (sqi 14) (fun _ => rfl)
  ·exact q_one (F := fun v _ => v = .int .i64 0) hp (free_of rfl) gqi (sqi 15) (fun ρ w hc h => ⟨.bool false, by simp [execOp, go_sem, h, hc], rfl⟩)
  ·exact q_two (F := fun v _ => v = .bool false) (G := fun v _ => v = .bool false) hp (free_of rfl) trivial (sqi 13) (sqi 16) (fun ρ w hc h h' => ⟨_, by simp [execOp, go_sem, h, h'], rfl⟩)
  ·exact q_move hp (free_of rfl) trivial (sqi 17)
  ·exact q_addr (b := b16_11) (off := 0) (off' := 7) hp (free_of rfl) gqi (sqo 17) (fun ρ w h => by simp [execOp, go_sem, h]) (fun _ => rfl)
  ·exact q_load1 (off := 7) (fs := [.n S5.x, .n S5.y, .v (.bool S5.i), .n 0, .v (.int .i64 0)]) (u := .int .i64 0) hp (free_of rfl) gqi (mq 0 rfl) (.inl rfl) rfl rfl (fun ρ w b h1 h2 => by simp [execOp, go_sem, h1, h2]) (sqi 19) (fun _ => rfl)
  ·exact q_one (F := fun v _ => v = .int .i64 0) hp (free_of rfl) gqi (sqi 20) (fun ρ w hc h => ⟨.bool false, by simp [execOp, go_sem, h, hc], rfl⟩)
  ·exact q_two (F := fun v _ => v = .bool false) (G := fun v _ => v = .bool false) hp (free_of rfl) trivial (sqi 18) (sqi 21) (fun ρ w hc h h' => ⟨_, by simp [execOp, go_sem, h, h'], rfl⟩)
  ·exact q_move hp (free_of rfl) trivial (sqi 22)
  ·exact q_addr (b := b16_12) (off := 0) (off' := 7) hp (free_of rfl) gqi (sqo 18) (fun ρ w h => by simp [execOp, go_sem, h]) (fun _ => rfl)
  ·exact q_load1 (off := 7) (fs := [.n S5.x, .n S5.y, .v (.bool S5.i), .n 0, .v (.int .i64 0)]) (u := .int .i64 0) hp (free_of rfl) gqi (mq 1 rfl) (.inl rfl) rfl rfl (fun ρ w b h1 h2 => by simp [execOp, go_sem, h1, h2]) (sqi 24) (fun _ => rfl)
  ·exact q_one (F := fun v _ => v = .int .i64 0) hp (free_of rfl) gqi (sqi 25) (fun ρ w hc h => ⟨.bool false, by simp [execOp, go_sem, h, hc], rfl⟩)
  ·exact q_two (F := fun v _ => v = .bool false) (G := fun v _ => v = .bool false) hp (free_of rfl) trivial (sqi 23) (sqi 26) (fun ρ w hc h h' => ⟨_, by simp [execOp, go_sem, h, h'], rfl⟩)
  intro L vs w17 nb hL hC hn E17
  have e0 : vs 0 = .pointer (some ⟨b13_14, 7, none⟩) := hC 0 (by simp)
  have e1 : vs 1 = .int .i64 0 := hC 1 (by simp)
  have e2 : vs 2 = .bool false := hC 2 (by simp)
  have e3 : vs 3 = .bool false := hC 3 (by simp)
  have e4 : vs 4 = .pointer (some ⟨b13_15, 7, none⟩) := hC 4 (by simp)
  have e5 : vs 5 = .int .i64 0 := hC 5 (by simp)
  have e6 : vs 6 = .bool false := hC 6 (by simp)
  have e7 : vs 7 = .bool false := hC 7 (by simp)
  have e8 : vs 8 = .bool false := hC 8 (by simp)
  have e9 : vs 9 = .pointer (some ⟨b13_16, 7, none⟩) := hC 9 (by simp)
  have e10 : vs 10 = .int .i64 0 := hC 10 (by simp)
  have e11 : vs 11 = .bool false := hC 11 (by simp)
  have e12 : vs 12 = .bool false := hC 12 (by simp)
  have e13 : vs 13 = .bool false := hC 13 (by simp)
  have e14 : vs 14 = .pointer (some ⟨b14_6, 7, none⟩) := hC 14 (by simp)
  have e15 : vs 15 = .int .i64 0 := hC 15 (by simp)
  have e16 : vs 16 = .bool false := hC 16 (by simp)
  have e17 : vs 17 = .bool false := hC 17 (by simp)
  have e18 : vs 18 = .bool false := hC 18 (by simp)
  have e19 : vs 19 = .pointer (some ⟨b16_11, 7, none⟩) := hC 19 (by simp)
  have e20 : vs 20 = .int .i64 0 := hC 20 (by simp)
  have e21 : vs 21 = .bool false := hC 21 (by simp)
  have e22 : vs 22 = .bool false := hC 22 (by simp)
  have e23 : vs 23 = .bool false := hC 23 (by simp)
  have e24 : vs 24 = .pointer (some ⟨b16_12, 7, none⟩) := hC 24 (by simp)
  have e25 : vs 25 = .int .i64 0 := hC 25 (by simp)
  have e26 : vs 26 = .bool false := hC 26 (by simp)
  have e27 : vs 27 = .bool false := hC 27 (by simp)
  have E : Fr w [(b16_11, 8, Fq.st [.n S5.x, .n S5.y, .v (.bool S5.i), .n 0, .v (.int .i64 0)]), (b16_12, 8, Fq.st [.n S5.x, .n S5.y, .v (.bool S5.i), .n 0, .v (.int .i64 0)]), (b14_6, 8, Fq.st [.n S3.x, .n S3.y, .v (.bool S3.i), .n 0, .v (.int .i64 0)]), (b13_14, 8, Fq.st [.n S1.x, .n S1.y, .v (.bool S1.i), .n 0, .v (.int .i64 0)]), (b13_15, 8, Fq.st [.n S2.x, .n S2.y, .v (.bool S2.i), .n 0, .v (.int .i64 0)]), (b13_16, 8, Fq.st [.n S3.x, .n S3.y, .v (.bool S3.i), .n 0, .v (.int .i64 0)]), (b11_15, 5, Fq.st [.n x, .n y, .v (.bool false)]), (b11_16, 2, Fq.num I), (b11_17, 2, Fq.num J), (b7_17, 6, Fq.st [.n a, .n b, .n m]), (b3, 2, Fq.raw n2 a2 k2 c2 xs2), (b2, 2, Fq.raw n1 a1 k1 c1 xs1), (b1, 5, Fq.st [.v (.int .u8 M9), .v (.int .u8 A), .v (.int .u8 X), .v (.int .u8 Y), .v (.int .u16 Q)])] w17 := E17
  rw [lay_all hL]
  simp only [putAll, dstOf, List.length_cons, List.length_nil, Nat.zero_add, Nat.reduceAdd, List.getElem?_toArray, List.getElem?_cons_zero, List.getElem?_cons_succ, Option.bind_some, Act.put, List.setIfInBounds_toArray, List.set_cons_succ, List.set_cons_zero]
  rw [e0, e1, e2, e3, e4, e5, e6, e7, e8, e9, e10, e11, e12, e13, e14, e15, e16, e17, e18, e19, e20, e21, e22, e23, e24, e25, e26, e27]
  clear e0 e1 e2 e3 e4 e5 e6 e7 e8 e9 e10 e11 e12 e13 e14 e15 e16 e17 e18 e19 e20 e21 e22 e23 e24 e25 e26 e27 hC hn E17 hL vs L nb
  go_upto_region 14 with (fail)
  refine region_fr (C := [Fq.is (.pointer (some ⟨b14_6, 0, none⟩)), Fq.st [.n S3.x, .n S3.y, .v (.bool S3.i)], Fq.is (.pointer (some ⟨b13_16, 0, none⟩)), Fq.st [.n S3.x, .n S3.y, .v (.bool S3.i)], Fq.is (.bool true), Fq.is (.bool true), Fq.is (.pointer (some ⟨b16_11, 0, none⟩)), Fq.st [.n S5.x, .n S5.y, .v (.bool S5.i)], Fq.is (.pointer (some ⟨b16_12, 0, none⟩)), Fq.st [.n S5.x, .n S5.y, .v (.bool S5.i)], Fq.is (.bool true), Fq.is (.bool true), Fq.is (.bool true), Fq.is (.bool true), Fq.is (.bool true), Fq.is (.bool true)]) (ks := [none, none, none, none, none, none, none, none, none, none, none, none, none]) (new := []) E rfl (by kernel_rfl) rfl rfl (fun hp => ⟨?_, ?_, ?_, ?_, ?_, ?_, ?_, ?_, ?_, ?_, ?_, ?_, ?_, ?_, ?_, ?_, trivial⟩) ?_
  ·exact q_addr (b := b14_6) (off := 0) (off' := 0) hp (free_of rfl) trivial (sqo 16) (fun ρ w h => by simp [execOp, go_sem, h]) (fun _ => rfl)
  ·exact q_loadSt (off := 0) (l := 5) (fs := [.n S3.x, .n S3.y, .v (.bool S3.i), .n 0, .v (.int .i64 0)]) (gs := [.n S3.x, .n S3.y, .v (.bool S3.i)]) hp (free_of rfl) trivial (mq 2 rfl) (.inl rfl) rfl row_api_Point rfl (sqi 0) (fun v w h => h)
  ·exact q_addr (b := b13_16) (off := 0) (off' := 0) hp (free_of rfl) trivial (sqo 15) (fun ρ w h => by simp [execOp, go_sem, h]) (fun _ => rfl)
  ·exact q_loadSt (off := 0) (l := 5) (fs := [.n S3.x, .n S3.y, .v (.bool S3.i), .n 0, .v (.int .i64 0)]) (gs := [.n S3.x, .n S3.y, .v (.bool S3.i)]) hp (free_of rfl) trivial (mq 5 rfl) (.inl rfl) rfl row_api_Point rfl (sqi 2) (fun v w h => h)
  ·exact q_call2 (F := (Fq.st [.n S3.x, .n S3.y, .v (.bool S3.i)]).P) (G := (Fq.st [.n S3.x, .n S3.y, .v (.bool S3.i)]).P) hp (free_of rfl) trivial (enq_f_algorist_algoristref06_Same) (sqi 1) (sqi 3) (fun v v' w h h' => exPtSame (P := S3) (Q := S3) h h' (sameP_refl _))
  ·exact q_move hp (free_of rfl) trivial (sqi 4)
  ·exact q_addr (b := b16_11) (off := 0) (off' := 0) hp (free_of rfl) gqi (sqo 17) (fun ρ w h => by simp [execOp, go_sem, h]) (fun _ => rfl)
  ·exact q_loadSt (off := 0) (l := 5) (fs := [.n S5.x, .n S5.y, .v (.bool S5.i), .n 0, .v (.int .i64 0)]) (gs := [.n S5.x, .n S5.y, .v (.bool S5.i)]) hp (free_of rfl) gqi (mq 0 rfl) (.inl rfl) rfl row_api_Point rfl (sqi 6) (fun v w h => h)
  ·exact q_addr (b := b16_12) (off := 0) (off' := 0) hp (free_of rfl) gqi (sqo 18) (fun ρ w h => by simp [execOp, go_sem, h]) (fun _ => rfl)
  ·exact q_loadSt (off := 0) (l := 5) (fs := [.n S5.x, .n S5.y, .v (.bool S5.i), .n 0, .v (.int .i64 0)]) (gs := [.n S5.x, .n S5.y, .v (.bool S5.i)]) hp (free_of rfl) gqi (mq 1 rfl) (.inl rfl) rfl row_api_Point rfl (sqi 8) (fun v w h => h)
  ·exact q_call2 (F := (Fq.st [.n S5.x, .n S5.y, .v (.bool S5.i)]).P) (G := (Fq.st [.n S5.x, .n S5.y, .v (.bool S5.i)]).P) hp (free_of rfl) gqi (enq_f_algorist_algoristref06_Same) (sqi 7) (sqi 9) (fun v v' w h h' => exPtSame (P := S5) (Q := S5) h h' (sameP_refl _))
  ·exact q_two (F := fun v _ => v = .bool true) (G := fun v _ => v = .bool true) hp (free_of rfl) trivial (sqi 5) (sqi 10) (fun ρ w hc h h' => ⟨_, by simp [execOp, go_sem, h, h'], rfl⟩)
  ·exact q_move hp (free_of rfl) trivial (sqi 11)
  ·exact q_move hp (free_of rfl) gqi (sqo 7)
  ·exact q_two (F := fun v _ => v = .bool true) (G := fun v _ => v = .bool true) hp (free_of rfl) trivial (sqi 12) (sqi 13) (fun ρ w hc h h' => ⟨_, by simp [execOp, go_sem, h, h'], rfl⟩)
  ·exact q_assign hp (free_of rfl) trivial (sqi 14)
  intro L vs w18 nb hL hC hn E18
  have e0 : vs 0 = .pointer (some ⟨b14_6, 0, none⟩) := hC 0 (by simp)
  have e2 : vs 2 = .pointer (some ⟨b13_16, 0, none⟩) := hC 2 (by simp)
  have e4 : vs 4 = .bool true := hC 4 (by simp)
  have e5 : vs 5 = .bool true := hC 5 (by simp)
  have e6 : vs 6 = .pointer (some ⟨b16_11, 0, none⟩) := hC 6 (by simp)
  have e8 : vs 8 = .pointer (some ⟨b16_12, 0, none⟩) := hC 8 (by simp)
  have e10 : vs 10 = .bool true := hC 10 (by simp)
  have e11 : vs 11 = .bool true := hC 11 (by simp)
  have e12 : vs 12 = .bool true := hC 12 (by simp)
  have e13 : vs 13 = .bool true := hC 13 (by simp)
  have e14 : vs 14 = .bool true := hC 14 (by simp)
  have e15 : vs 15 = .bool true := hC 15 (by simp)
  have E : Fr w [(b16_11, 8, Fq.st [.n S5.x, .n S5.y, .v (.bool S5.i), .n 0, .v (.int .i64 0)]), (b16_12, 8, Fq.st [.n S5.x, .n S5.y, .v (.bool S5.i), .n 0, .v (.int .i64 0)]), (b14_6, 8, Fq.st [.n S3.x, .n S3.y, .v (.bool S3.i), .n 0, .v (.int .i64 0)]), (b13_14, 8, Fq.st [.n S1.x, .n S1.y, .v (.bool S1.i), .n 0, .v (.int .i64 0)]), (b13_15, 8, Fq.st [.n S2.x, .n S2.y, .v (.bool S2.i), .n 0, .v (.int .i64 0)]), (b13_16, 8, Fq.st [.n S3.x, .n S3.y, .v (.bool S3.i), .n 0, .v (.int .i64 0)]), (b11_15, 5, Fq.st [.n x, .n y, .v (.bool false)]), (b11_16, 2, Fq.num I), (b11_17, 2, Fq.num J), (b7_17, 6, Fq.st [.n a, .n b, .n m]), (b3, 2, Fq.raw n2 a2 k2 c2 xs2), (b2, 2, Fq.raw n1 a1 k1 c1 xs1), (b1, 5, Fq.st [.v (.int .u8 M9), .v (.int .u8 A), .v (.int .u8 X), .v (.int .u8 Y), .v (.int .u16 Q)])] w18 := E18
  rw [lay_all hL]
  simp only [putAll, dstOf, List.length_cons, List.length_nil, Nat.zero_add, Nat.reduceAdd, List.getElem?_toArray, List.getElem?_cons_zero, List.getElem?_cons_succ, Option.bind_some, Act.put, List.setIfInBounds_toArray, List.set_cons_succ, List.set_cons_zero]
  rw [e0, e2, e4, e5, e6, e8, e10, e11, e12, e13, e14, e15]
  generalize vs 1 = u18_1
  generalize vs 3 = u18_3
  generalize vs 7 = u18_7
  generalize vs 9 = u18_9
  clear e0 e2 e4 e5 e6 e8 e10 e11 e12 e13 e14 e15 hC hn E18 hL vs L nb
  clear HMM HM0 HMP HAX HBB HON G1 G2 G3 G4 G5 G6
  clear B12 B15 BM BA BB BP BI BJ BZ B1 B2 B3 B5
  go_wp2
  refine bodyPost_ret (v := .bool true) ?_ rfl ⟨_, rfl, E.below, rfl⟩
  simp [results, Try.results4, go_sem]

theorem PointMultiples_row (w : World) (M9 A X Y Q : Int) (hM : 0 ≤ M9 ∧ M9 ≤ 255) (hA : 0 ≤ A ∧ A ≤ 255) (hX : 0 ≤ X ∧ X ≤ 255) (hY : 0 ≤ Y ∧ Y ≤ 255) (hQ : 0 ≤ Q ∧ Q ≤ 65535) (n1 : Bool) (a1 : Option Addr) (k1 c1 : Nat) (xs1 : List Int) (h1 : Sl w a1 k1 c1 xs1) (hk1 : k1 ≤ 9223372036854775807) (n2 : Bool) (a2 : Option Addr) (k2 c2 : Nat) (xs2 : List Int) (h2 : Sl w a2 k2 c2 xs2) (hk2 : k2 ≤ 9223372036854775807) : Calls Try.prog 4 #[.agg #[.int .u8 M9, .int .u8 A, .int .u8 X, .int .u8 Y, .int .u16 Q], .agg #[.bool n1, .slice a1 k1 c1], .agg #[.bool n2, .slice a2 k2 c2]] w fun e w' => e = .returned (.bool true) ∧ Below w.heap.size w w' := by
 refine (PointMultiples_any w (v := .agg #[.int .u8 M9, .int .u8 A, .int .u8 X, .int .u8 Y, .int .u16 Q]) ⟨[.int .u8 M9, .int .u8 A, .int .u8 X, .int .u8 Y, .int .u16 Q], rfl, _, rfl, rfl, _, rfl, rfl, _, rfl, rfl, _, rfl, rfl, _, rfl, rfl, rfl⟩ hM hA hX hY hQ n1 a1 k1 c1 xs1 h1 hk1 n2 a2 k2 c2 xs2 h2 hk2).mono ?_
 rintro e w' ⟨v', rfl, hb, rfl⟩
 exact ⟨rfl, hb⟩

end Go.Proofs.Ytihhlaagndingaa
