/- Yw, Yx, Yy. -/
import Derived.Test.YtlehjhlihahjhaaBt6
/- Walks: the reference's Parse of fractions. -/
namespace Go.Proofs.Ytlehjhlihahjhaa
open Go Go.RowKit

/-- What is read of a numerator and a denominator. -/
noncomputable def prsS (A D : List Int) : Int × Int × Int := if paE A = 0 ∧ paE D = 0 ∧ 0 < paV D ∧ Int.gcd (paV A) (paV D) = 1 ∧ paV D ≠ 1 then (paV A, paV D, 0) else (0, 0, 3)
/-- What is read of an integer. -/
noncomputable def prsN (A : List Int) : Int × Int × Int := if paE A = 0 then (paV A, 1, 0) else (0, 0, 3)

theorem end_no {s sd : ByteArray} {K : Nat} (hd : sd = s.extract (K + 1) s.size) (hK : K + 1 = s.size) : ¬ paE (bys sd) = 0 := fun e => by
  have h := (paE_0 e).2.1
  have hl := bys_len s
  rw [hd, drop_cut, List.drop_of_length_le (by omega)] at h
  exact not_text_nil h
theorem pair_ne {s sn : ByteArray} {K : Nat} {n d : Int} (h1 : d = 1) (h : (bys sn).length ≤ 1300 ∧ IsText (bys sn) ∧ intText n = bys sn) (hn : sn = s.extract 0 K) (hK : K < s.size) : ((bytesOf (pairText n d)).toList == s.toList) = false := by
  refine (text_eq _ _ _).trans (decide_eq_false fun e => ?_)
  have hl := bys_len s
  unfold pairText at e
  rw [if_pos h1, h.2.2] at e
  have e3 := congrArg List.length e
  rw [hn, take_cut, List.length_take] at e3
  omega
theorem pair_eq {s sn sd : ByteArray} {K : Nat} {n d : Int} (h1 : ¬ d = 1) (h : (bys sn).length ≤ 1300 ∧ IsText (bys sn) ∧ intText n = bys sn) (h' : (bys sd).length ≤ 1300 ∧ IsText (bys sd) ∧ intText d = bys sd) (hn : sn = s.extract 0 K) (hd : sd = s.extract (K + 1) s.size) (hS : Slash (bys s) K) (hK : K < s.size) : ((bytesOf (pairText n d)).toList == s.toList) = true := by
  refine (text_eq _ _ _).trans (decide_eq_true ?_)
  have hl := bys_len s
  unfold pairText
  rw [if_neg h1, h.2.2, h'.2.2, hn, hd, take_cut, drop_cut]
  exact slash_split hS (by omega)
theorem pair_one {s sn : ByteArray} {K : Nat} {n : Int} (h : (bys sn).length ≤ 1300 ∧ IsText (bys sn) ∧ intText n = bys sn) (hn : sn = s.extract 0 K) (_ : K ≤ s.size) (hK : K = s.size) : ((bytesOf (pairText n 1)).toList == s.toList) = true := by
  refine (text_eq _ _ _).trans (decide_eq_true ?_)
  have hl := bys_len s
  unfold pairText
  rw [if_pos rfl, h.2.2, hn, take_cut, List.take_of_length_le (by omega)]

theorem measW {n k : Nat} (h : k < n) : n - (intOf (.int .i64 ((k : Int) + 1))).toNat < n - (intOf (.int .i64 (k : Int))).toNat := by simp [intOf]; omega

set_option maxRecDepth 100000 in
set_option maxHeartbeats 4000000 in
theorem sp_big (w : World) {s : ByteArray} (hl : 2601 < s.size) :
    Calls Try.prog 27 #[.string s] w fun e w' => ∃ v', e = .returned v' ∧ Below w.heap.size w w' ∧ (Fq.tup2 (Fq.pair 0 0) (Fq.is (.int .i64 2))).P v' w' := by
  obtain ⟨w1, b1, hw1, hb1, hs1, E⟩ := fr_start w (F := Fq.pair 0 0) (us := [.bool false, .slice none 0 0, .bool false, .slice none 0 0]) 31 rfl (by simp) (tame_rat _ _ _ _ _ _ _ _) (Pair.zero _)
  go_enter Try.func27, Try.ntmps27
  go_upto_region 1 with (fail)
  rw [← hw1]
  rw [← hb1]
  clear hw1 hb1 hs1
  have T1 := hidd (show (2601 : Int) < ((s.size : Nat) : Int) by omega)
  clear hl
  refine region_fr (C := [Fq.is (.string s), Fq.is (.int .i64 ((s.size : Nat) : Int)), Fq.is (.bool true)]) (ks := [none]) (new := []) E rfl (by kernel_rfl) rfl rfl (fun hp => ⟨?_, ?_, ?_, trivial⟩) ?_
  · exact q_move hp (free_of rfl) trivial (sq_out rfl rfl (fun _ _ => rfl))
  · exact q_lenS hp (free_of rfl) trivial (sq_in 0 rfl rfl (by simp) rfl (fun v w h => h)) (fun _ => rfl)
  · exact q_one (F := fun v _ => v = .int .i64 ((s.size : Nat) : Int)) hp (free_of rfl) trivial (sq_in 1 rfl rfl (by simp) rfl (fun v w h => h)) (fun ρ w hc h => ⟨.bool true, by simp [execOp, go_sem, h, hc, T1.out], rfl⟩)
  intro L vs w2 nb hL hC hn E2
  have e0 : vs 0 = .string s := hC 0 (by simp)
  have e1 : vs 1 = .int .i64 ((s.size : Nat) : Int) := hC 1 (by simp)
  have e2 : vs 2 = .bool true := hC 2 (by simp)
  have E : Fr w [(b1, 4, Fq.pair 0 0)] w2 := E2
  rw [lay_all hL]
  simp only [putAll, dstOf, List.length_cons, List.length_nil, Nat.zero_add, Nat.reduceAdd, List.getElem?_toArray, List.getElem?_cons_zero, List.getElem?_cons_succ, Option.bind_some, Act.put, List.setIfInBounds_toArray, List.set_cons_succ, List.set_cons_zero]
  rw [e0, e1, e2]
  clear e0 e1 e2 hC hn E2 hL vs L nb
  clear T1
  go_upto_region 2 with (fail)
  refine region_fr (C := [Fq.pair 0 0, Fq.any, Fq.is (.int .i64 2)]) (ks := [some (1, Fq.pair 0 0)]) (new := []) E rfl (by kernel_rfl) rfl rfl (fun hp => ⟨?_, ?_, ?_, trivial⟩) ?_
  · exact q_zeroRat hp (free_of rfl) trivial (fun v w h => h)
  · exact q_storeOldRat hp (List.mem_iff_getElem?.2 ⟨0, rfl⟩) rfl rfl (sq_out rfl rfl (fun _ _ => rfl)) (sq_in 0 rfl rfl (by simp) rfl (fun v w h => ratV_pair h)) (fun _ _ => trivial) (newik_ne rfl)
  · exact q_assign hp (free_of rfl) trivial (sq_const (fun _ => rfl))
  intro L vs w3 nb hL hC hn E3
  have e2 : vs 2 = .int .i64 2 := hC 2 (by simp)
  have E : Fr w [(b1, 4, Fq.pair 0 0)] w3 := E3
  rw [lay_all hL]
  simp only [putAll, dstOf, List.length_cons, List.length_nil, Nat.zero_add, Nat.reduceAdd, List.getElem?_toArray, List.getElem?_cons_zero, List.getElem?_cons_succ, Option.bind_some, Act.put, List.setIfInBounds_toArray, List.set_cons_succ, List.set_cons_zero]
  rw [e2]
  generalize vs 0 = u3_0
  clear e2 hC hn E3 hL vs L nb
  obtain ⟨p0, p1, p2, p3, c0, c1, c2, c3, hP⟩ := box_pair (E.box 0 rfl)
  go_wp2
  refine bodyPost_ret (v := .tuple #[.agg #[p0, p1, p2, p3], .int .i64 2]) ?_ rfl ⟨_, rfl, E.below, ⟨_, _, rfl, hP, rfl⟩⟩
  simp [results, Try.results27, go_sem, c0, c1, c2, c3]

set_option maxRecDepth 100000 in
set_option maxHeartbeats 4000000 in
theorem sp_none (w : World) {s sn : ByteArray} {K : Nat} (hS : Hid (Slash (bys s) K)) (hl : s.size ≤ 2601) (hn : Hid (sn = s.extract 0 K)) (hK : K = s.size) :
    Calls Try.prog 27 #[.string s] w fun e w' => ∃ v', e = .returned v' ∧ Below w.heap.size w w' ∧ (Fq.tup2 (Fq.pair (prsN (bys sn)).1 (prsN (bys sn)).2.1) (Fq.is (.int .i64 (prsN (bys sn)).2.2))).P v' w' := by
  obtain ⟨w1, b1, hw1, hb1, hs1, E⟩ := fr_start w (F := Fq.pair 0 0) (us := [.bool false, .slice none 0 0, .bool false, .slice none 0 0]) 31 rfl (by simp) (tame_rat _ _ _ _ _ _ _ _) (Pair.zero _)
  go_enter Try.func27, Try.ntmps27
  go_upto_region 1 with (fail)
  rw [← hw1]
  rw [← hb1]
  clear hw1 hb1 hs1
  have T1 := hidd (show ¬ (2601 : Int) < ((s.size : Nat) : Int) by omega)
  have HL := hidd hl
  have HK := hidd hK
  clear hl hK
  refine region_fr (C := [Fq.is (.string s), Fq.is (.int .i64 ((s.size : Nat) : Int)), Fq.is (.bool false)]) (ks := [none]) (new := []) E rfl (by kernel_rfl) rfl rfl (fun hp => ⟨?_, ?_, ?_, trivial⟩) ?_
  · exact q_move hp (free_of rfl) trivial (sq_out rfl rfl (fun _ _ => rfl))
  · exact q_lenS hp (free_of rfl) trivial (sq_in 0 rfl rfl (by simp) rfl (fun v w h => h)) (fun _ => rfl)
  · exact q_one (F := fun v _ => v = .int .i64 ((s.size : Nat) : Int)) hp (free_of rfl) trivial (sq_in 1 rfl rfl (by simp) rfl (fun v w h => h)) (fun ρ w hc h => ⟨.bool false, by simp [execOp, go_sem, h, hc, T1.out], rfl⟩)
  intro L vs w2 nb hL hC hn E2
  have e0 : vs 0 = .string s := hC 0 (by simp)
  have e1 : vs 1 = .int .i64 ((s.size : Nat) : Int) := hC 1 (by simp)
  have e2 : vs 2 = .bool false := hC 2 (by simp)
  have E : Fr w [(b1, 4, Fq.pair 0 0)] w2 := E2
  rw [lay_all hL]
  simp only [putAll, dstOf, List.length_cons, List.length_nil, Nat.zero_add, Nat.reduceAdd, List.getElem?_toArray, List.getElem?_cons_zero, List.getElem?_cons_succ, Option.bind_some, Act.put, List.setIfInBounds_toArray, List.set_cons_succ, List.set_cons_zero]
  rw [e0, e1, e2]
  clear e0 e1 e2 hC hn E2 hL vs L nb
  clear T1
  go_upto_region 3 with (fail)
  refine region_fr (C := [Fq.is (.string s), Fq.is (.int .i64 ((s.size : Nat) : Int)), Fq.is (.int .i64 ((s.size : Nat) : Int))]) (ks := [none]) (new := []) E rfl (by kernel_rfl) rfl rfl (fun hp => ⟨?_, ?_, ?_, trivial⟩) ?_
  · exact q_move hp (free_of rfl) trivial (sq_out rfl rfl (fun _ _ => rfl))
  · exact q_lenS hp (free_of rfl) trivial (sq_in 0 rfl rfl (by simp) rfl (fun v w h => h)) (fun _ => rfl)
  · exact q_assign hp (free_of rfl) trivial (sq_in 1 rfl rfl (by simp) rfl (fun v w h => h))
  intro L vs w3 nb hL hC hn E3
  have e0 : vs 0 = .string s := hC 0 (by simp)
  have e1 : vs 1 = .int .i64 ((s.size : Nat) : Int) := hC 1 (by simp)
  have e2 : vs 2 = .int .i64 ((s.size : Nat) : Int) := hC 2 (by simp)
  have E : Fr w [(b1, 4, Fq.pair 0 0)] w3 := E3
  rw [lay_all hL]
  simp only [putAll, dstOf, List.length_cons, List.length_nil, Nat.zero_add, Nat.reduceAdd, List.getElem?_toArray, List.getElem?_cons_zero, List.getElem?_cons_succ, Option.bind_some, Act.put, List.setIfInBounds_toArray, List.set_cons_succ, List.set_cons_zero]
  rw [e0, e1, e2]
  clear e0 e1 e2 hC hn E3 hL vs L nb
  go_upto_region 4 with (fail)
  refine region_fr (C := [Fq.is (.int .i64 0)]) (ks := [none]) (new := []) E rfl (by kernel_rfl) rfl rfl (fun hp => ⟨?_, trivial⟩) ?_
  · exact q_assign hp (free_of rfl) trivial (sq_const (fun _ => rfl))
  intro L vs w4 nb hL hC hn E4
  have e0 : vs 0 = .int .i64 0 := hC 0 (by simp)
  have E : Fr w [(b1, 4, Fq.pair 0 0)] w4 := E4
  rw [lay_all hL]
  simp only [putAll, dstOf, List.length_cons, List.length_nil, Nat.zero_add, List.getElem?_toArray, List.getElem?_cons_zero, Option.bind_some, Act.put, List.setIfInBounds_toArray, List.set_cons_succ, List.set_cons_zero]
  rw [e0]
  clear e0 hC hn E4 hL vs L nb
  have HS := hidd E
  go_upto_region 5 with (fail)
  go_loopw [4, 5] (fun va vi W => ∃ p q : Nat, va = .int .i64 (p : Int) ∧ vi = .int .i64 (q : Int) ∧ q ≤ s.size ∧ ((p = s.size ∧ q ≤ K) ∨ (p = K ∧ K < s.size ∧ q = K + 1)) ∧ Fr w [(b1, 4, Fq.pair 0 0)] W) (fun _ vi _ => s.size - (intOf vi).toNat)
  case atStart => exact ⟨s.size, 0, rfl, rfl, Nat.zero_le _, .inl ⟨rfl, Nat.zero_le _⟩, HS.out⟩
  case round =>
    obtain ⟨p, q, rfl, rfl, hq, hc, E⟩ := hrel
    clear HS
    have hK1 := HK.out
    have hL1 := HL.out
    have hll := bys_len s
    rcases hc with ⟨hp, hqK⟩ | ⟨hp, hK2, hq1⟩
    · by_cases hqe : q < s.size
      · have hqs : q < s.size := by omega
        have hat := bys_at s hqs
        obtain ⟨x, hx⟩ : ∃ x : Int, ((s[q]'hqs).toNat : Int) = x := ⟨_, rfl⟩
        rw [hx] at hat
        have hx47 : ¬ x = 47 := by rw [← hat]; exact hS.out.2.1 q (by omega)
        have hxb : (x == 47) = false := by simpa using hx47
        subst hp
        have h1 : (q : Int) < (s.size : Int) := by omega
        have hw : wrap64 ((q : Int) + 1) = (q : Int) + 1 := by simp only [wrap64]; omega
        have HQ := hidd hqs
        have HQK := hidd hqK
        have HE : Hid (q < K) := by show _ < _; omega
        clear hat hqK hK1 hll hq hL1 hqe
        go_wp2
        go_roundw
        case rel => exact ⟨s.size, q + 1, rfl, by first | go_num | (rw [hw]; go_num), by have := HQ.out; omega, .inl ⟨rfl, by have := HE.out; omega⟩, E⟩
        case measure => first | exact measW HQ.out | (rw [hw]; exact measW HQ.out)
      · obtain rfl : q = K := by omega
        obtain rfl : p = q := by omega
        have TL := hidd (show ¬ ((p : Nat) : Int) < ((s.size : Nat) : Int) by omega)
        clear hK1 hL1 hll hq hp hqK hqe
        go_upto_region 5 with (fail)
        refine region_fr (C := [Fq.is (.int .i64 ((p : Nat) : Int)), Fq.is (.string s), Fq.is (.int .i64 ((s.size : Nat) : Int)), Fq.is (.bool false), Fq.is (.bool false), Fq.is (undef), Fq.is (undef), Fq.is (undef), Fq.is (undef), Fq.is (.bool false)]) (ks := [none]) (new := []) E rfl (by kernel_rfl) rfl rfl (fun hp => ⟨?_, ?_, ?_, ?_, ?_, ?_, ?_, ?_, ?_, ?_, trivial⟩) ?_
        · exact q_move hp (free_of rfl) trivial (sq_out rfl rfl (fun _ _ => rfl))
        · exact q_move hp (free_of rfl) trivial (sq_out rfl rfl (fun _ _ => rfl))
        · exact q_lenS hp (free_of rfl) trivial (sq_in 1 rfl rfl (by simp) rfl (fun v w h => h)) (fun _ => rfl)
        · exact q_two (F := fun v _ => v = .int .i64 ((p : Nat) : Int)) (G := fun v _ => v = .int .i64 ((s.size : Nat) : Int)) hp (free_of rfl) trivial (sq_in 0 rfl rfl (by simp) rfl (fun v w h => h)) (sq_in 2 rfl rfl (by simp) rfl (fun v w h => h)) (fun ρ w hc h h' => ⟨.bool false, by simp [execOp, go_sem, h, h', TL.out], rfl⟩)
        · exact q_move hp (free_of rfl) trivial (sq_in 3 rfl rfl (by simp) rfl (fun v w h => h))
        · exact q_skip hp (free_of rfl) rfl (gq_some rfl rfl (by simp) rfl (fun v w h => h)) (fun _ => rfl)
        · exact q_skip hp (free_of rfl) rfl (gq_some rfl rfl (by simp) rfl (fun v w h => h)) (fun _ => rfl)
        · exact q_skip hp (free_of rfl) rfl (gq_some rfl rfl (by simp) rfl (fun v w h => h)) (fun _ => rfl)
        · exact q_skip hp (free_of rfl) rfl (gq_some rfl rfl (by simp) rfl (fun v w h => h)) (fun _ => rfl)
        · exact q_two (F := fun v _ => v = .bool false) (G := fun v _ => v = .bool false) hp (free_of rfl) trivial (sq_in 4 rfl rfl (by simp) rfl (fun v w h => h)) (sq_const (fun _ => rfl)) (fun ρ w hc h h' => ⟨_, by simp [execOp, go_sem, h, h'], rfl⟩)
        intro L vs w5 nb hL hC hn E5
        have e0 : vs 0 = .int .i64 ((p : Nat) : Int) := hC 0 (by simp)
        have e1 : vs 1 = .string s := hC 1 (by simp)
        have e2 : vs 2 = .int .i64 ((s.size : Nat) : Int) := hC 2 (by simp)
        have e3 : vs 3 = .bool false := hC 3 (by simp)
        have e4 : vs 4 = .bool false := hC 4 (by simp)
        have e5 : vs 5 = undef := hC 5 (by simp)
        have e6 : vs 6 = undef := hC 6 (by simp)
        have e7 : vs 7 = undef := hC 7 (by simp)
        have e8 : vs 8 = undef := hC 8 (by simp)
        have e9 : vs 9 = .bool false := hC 9 (by simp)
        have E : Fr w [(b1, 4, Fq.pair 0 0)] w5 := E5
        rw [lay_all hL]
        simp only [putAll, dstOf, List.length_cons, List.length_nil, Nat.zero_add, Nat.reduceAdd, List.getElem?_toArray, List.getElem?_cons_zero, List.getElem?_cons_succ, Option.bind_some, Act.put, List.setIfInBounds_toArray, List.set_cons_succ, List.set_cons_zero]
        rw [e0, e1, e2, e3, e4, e5, e6, e7, e8, e9]
        clear e0 e1 e2 e3 e4 e5 e6 e7 e8 e9 hC hn E5 hL vs L nb
        clear TL
        have hpS : Hid (p ≤ s.size) := by have := hS.out.1; rwa [bys_len] at this
        go_upto_region 9 with (fail)
        refine region_fr (C := [Fq.is (.string s), Fq.is (.int .i64 ((p : Nat) : Int)), Fq.is (.string sn), Fq.tup2 (Fq.num (paV (bys sn))) (Fq.is (.int .i64 (paE (bys sn)))), Fq.tup2 (Fq.num (paV (bys sn))) (Fq.is (.int .i64 (paE (bys sn)))), Fq.num (paV (bys sn)), Fq.is (.int .i64 (paE (bys sn))), Fq.any, Fq.any, Fq.is (.int .i64 (paE (bys sn)))]) (ks := [none]) (new := [⟨7, 8, 2, Fq.num 0, Fq.num (paV (bys sn)), none⟩]) E rfl (by kernel_rfl) rfl rfl (fun hp => ⟨?_, ?_, ?_, ?_, ?_, ?_, ?_, ?_, ?_, ?_, trivial⟩) ?_
        · exact q_move hp (free_of rfl) trivial (sq_out rfl rfl (fun _ _ => rfl))
        · exact q_move hp (free_of rfl) trivial (sq_out rfl rfl (fun _ _ => rfl))
        · exact q_sliceTo (s := s) (k := p) hp (free_of rfl) trivial (sq_in 0 rfl rfl (by simp) rfl (fun v w h => h)) (sq_in 1 rfl rfl (by simp) rfl (fun v w h => h)) hpS.out (fun _ => (congrArg Value.string hn.out.symm))
        · exact q_call1 (F := (Fq.is (.string sn)).P) hp (free_of rfl) trivial (enq_R_Parse) (sq_in 2 rfl rfl (by simp) rfl (fun v w h => h)) (fun v w h => (by subst h; exact exRParseU))
        · exact q_move hp (free_of rfl) trivial (sq_in 3 rfl rfl (by simp) rfl (fun v w h => h))
        · exact q_extract2 hp (free_of rfl) trivial (sq_in 4 rfl rfl (by simp) rfl (fun v w h => h)) (fun v1 v2 w h1 h2 => ⟨_, rfl, h1⟩)
        · exact q_extract2 hp (free_of rfl) trivial (sq_in 4 rfl rfl (by simp) rfl (fun v w h => h)) (fun v1 v2 w h1 h2 => ⟨_, rfl, h2⟩)
        · exact q_allocInt hp (List.mem_iff_getElem?.2 ⟨0, rfl⟩) rfl rfl rfl rfl (Nat.ne_of_beq_eq_false rfl) (fun _ _ => trivial) (old_ne rfl) (newk_ne rfl) (fun w => Num.zero w)
        · exact q_storeNewInt hp (List.mem_iff_getElem?.2 ⟨0, rfl⟩) rfl rfl rfl (own_ptr rfl rfl (by simp) rfl) (sq_in 5 rfl rfl (by simp) rfl (fun v w h => intV_num h)) (fun _ _ => trivial) (old_ne rfl) (newi_ne rfl)
        · exact q_assign hp (free_of rfl) trivial (sq_in 6 rfl rfl (by simp) rfl (fun v w h => h))
        intro L vs w6 nb hL hC hn E6
        have e0 : vs 0 = .string s := hC 0 (by simp)
        have e1 : vs 1 = .int .i64 ((p : Nat) : Int) := hC 1 (by simp)
        have e2 : vs 2 = .string sn := hC 2 (by simp)
        have e6 : vs 6 = .int .i64 (paE (bys sn)) := hC 6 (by simp)
        have e9 : vs 9 = .int .i64 (paE (bys sn)) := hC 9 (by simp)
        have e7 : vs 7 = .pointer (some ⟨nb 7, 0, none⟩) := hn _ (List.mem_iff_getElem?.2 ⟨0, rfl⟩)
        have E : Fr w [(nb 7, 2, Fq.num (paV (bys sn))), (b1, 4, Fq.pair 0 0)] w6 := E6
        rw [lay_all hL]
        simp only [putAll, dstOf, List.length_cons, List.length_nil, Nat.zero_add, Nat.reduceAdd, List.getElem?_toArray, List.getElem?_cons_zero, List.getElem?_cons_succ, Option.bind_some, Act.put, List.setIfInBounds_toArray, List.set_cons_succ, List.set_cons_zero]
        rw [e0, e1, e2, e6, e9, e7]
        generalize nb 7 = b6_7 at E ⊢
        generalize vs 3 = u6_3
        generalize vs 4 = u6_4
        generalize vs 5 = u6_5
        clear e0 e1 e2 e6 e9 e7 hC hn E6 hL vs L nb
        go_upto_region 10 with (fail)
        have B7 : Hid (ab ((1)) < pw 3) := ab_lit (by decide)
        refine region_fr (C := [Fq.num (1), Fq.any, Fq.any, Fq.is (.int .i64 0)]) (ks := [none, none]) (new := [⟨1, 2, 2, Fq.num 0, Fq.num (1), none⟩]) E rfl (by kernel_rfl) rfl rfl (fun hp => ⟨?_, ?_, ?_, ?_, trivial⟩) ?_
        · exact q_call1 (F := (Fq.is (.int .i64 1)).P) hp (free_of rfl) trivial (enq_R_Of) (sq_const (fun _ => rfl)) (fun v w h => (by subst h; exact rOfK w (1) (by omega) (by omega)))
        · exact q_allocInt hp (List.mem_iff_getElem?.2 ⟨0, rfl⟩) rfl rfl rfl rfl (Nat.ne_of_beq_eq_false rfl) (fun _ _ => trivial) (old_ne rfl) (newk_ne rfl) (fun w => Num.zero w)
        · exact q_storeNewInt hp (List.mem_iff_getElem?.2 ⟨0, rfl⟩) rfl rfl rfl (own_ptr rfl rfl (by simp) rfl) (sq_in 0 rfl rfl (by simp) rfl (fun v w h => intV_num h)) (fun _ _ => trivial) (old_ne rfl) (newi_ne rfl)
        · exact q_assign hp (free_of rfl) trivial (sq_const (fun _ => rfl))
        intro L vs w8 nb hL hC hn E8
        have e3 : vs 3 = .int .i64 0 := hC 3 (by simp)
        have e1 : vs 1 = .pointer (some ⟨nb 1, 0, none⟩) := hn _ (List.mem_iff_getElem?.2 ⟨0, rfl⟩)
        have E : Fr w [(nb 1, 2, Fq.num (1)), (b6_7, 2, Fq.num (paV (bys sn))), (b1, 4, Fq.pair 0 0)] w8 := E8
        rw [lay_all hL]
        simp only [putAll, dstOf, List.length_cons, List.length_nil, Nat.zero_add, Nat.reduceAdd, List.getElem?_toArray, List.getElem?_cons_zero, List.getElem?_cons_succ, Option.bind_some, Act.put, List.setIfInBounds_toArray, List.set_cons_succ, List.set_cons_zero]
        rw [e3, e1]
        generalize nb 1 = b8_1 at E ⊢
        generalize vs 0 = u8_0
        clear e3 e1 hC hn E8 hL vs L nb
        have TA := hidd (show ¬ ((p : Nat) : Int) < ((s.size : Nat) : Int) by have := HK.out; omega)
        go_upto_region 11 with (fail)
        refine region_fr (C := [Fq.is (.int .i64 ((p : Nat) : Int)), Fq.is (.string s), Fq.is (.int .i64 ((s.size : Nat) : Int)), Fq.is (.bool false)]) (ks := [none, none, none]) (new := []) E rfl (by kernel_rfl) rfl rfl (fun hp => ⟨?_, ?_, ?_, ?_, trivial⟩) ?_
        · exact q_move hp (free_of rfl) trivial (sq_out rfl rfl (fun _ _ => rfl))
        · exact q_move hp (free_of rfl) trivial (sq_out rfl rfl (fun _ _ => rfl))
        · exact q_lenS hp (free_of rfl) trivial (sq_in 1 rfl rfl (by simp) rfl (fun v w h => h)) (fun _ => rfl)
        · exact q_two (F := fun v _ => v = .int .i64 ((p : Nat) : Int)) (G := fun v _ => v = .int .i64 ((s.size : Nat) : Int)) hp (free_of rfl) trivial (sq_in 0 rfl rfl (by simp) rfl (fun v w h => h)) (sq_in 2 rfl rfl (by simp) rfl (fun v w h => h)) (fun ρ w hc h h' => ⟨.bool false, by simp [execOp, go_sem, h, h', TA.out], rfl⟩)
        intro L vs w9 nb hL hC hn E9
        have e0 : vs 0 = .int .i64 ((p : Nat) : Int) := hC 0 (by simp)
        have e1 : vs 1 = .string s := hC 1 (by simp)
        have e2 : vs 2 = .int .i64 ((s.size : Nat) : Int) := hC 2 (by simp)
        have e3 : vs 3 = .bool false := hC 3 (by simp)
        have E : Fr w [(b8_1, 2, Fq.num (1)), (b6_7, 2, Fq.num (paV (bys sn))), (b1, 4, Fq.pair 0 0)] w9 := E9
        rw [lay_all hL]
        simp only [putAll, dstOf, List.length_cons, List.length_nil, Nat.zero_add, Nat.reduceAdd, List.getElem?_toArray, List.getElem?_cons_zero, List.getElem?_cons_succ, Option.bind_some, Act.put, List.setIfInBounds_toArray, List.set_cons_succ, List.set_cons_zero]
        rw [e0, e1, e2, e3]
        clear e0 e1 e2 e3 hC hn E9 hL vs L nb
        clear TA
        by_cases h1 : paE (bys sn) = 0
        · have e1 := hidd h1
          clear h1
          go_upto_region 13 with (fail)
          refine region_fr (C := [Fq.is (.int .i64 (paE (bys sn))), Fq.is (.bool false), Fq.is (.bool false), Fq.is (.int .i64 0), Fq.is (.bool false), Fq.is (.bool false)]) (ks := [none, none, none]) (new := []) E rfl (by kernel_rfl) rfl rfl (fun hp => ⟨?_, ?_, ?_, ?_, ?_, ?_, trivial⟩) ?_
          · exact q_move hp (free_of rfl) trivial (sq_out rfl rfl (fun _ _ => rfl))
          · exact q_one (F := fun v _ => v = .int .i64 (paE (bys sn))) hp (free_of rfl) trivial (sq_in 0 rfl rfl (by simp) rfl (fun v w h => h)) (fun ρ w hc h => ⟨.bool false, by simp [execOp, go_sem, h, hc, e1.out], rfl⟩)
          · exact q_move hp (free_of rfl) trivial (sq_in 1 rfl rfl (by simp) rfl (fun v w h => h))
          · exact q_move hp (free_of rfl) (gq_some rfl rfl (by simp) rfl (fun v w h => h)) (sq_out rfl rfl (fun _ _ => rfl))
          · exact q_one (F := fun v _ => v = .int .i64 0) hp (free_of rfl) (gq_some rfl rfl (by simp) rfl (fun v w h => h)) (sq_in 3 rfl rfl (by simp) rfl (fun v w h => h)) (fun ρ w hc h => ⟨.bool false, by simp [execOp, go_sem, h, hc], rfl⟩)
          · exact q_two (F := fun v _ => v = .bool false) (G := fun v _ => v = .bool false) hp (free_of rfl) trivial (sq_in 2 rfl rfl (by simp) rfl (fun v w h => h)) (sq_in 4 rfl rfl (by simp) rfl (fun v w h => h)) (fun ρ w hc h h' => ⟨_, by simp [execOp, go_sem, h, h'], rfl⟩)
          intro L vs w10 nb hL hC hn E10
          have e0 : vs 0 = .int .i64 (paE (bys sn)) := hC 0 (by simp)
          have e1 : vs 1 = .bool false := hC 1 (by simp)
          have e2 : vs 2 = .bool false := hC 2 (by simp)
          have e3 : vs 3 = .int .i64 0 := hC 3 (by simp)
          have e4 : vs 4 = .bool false := hC 4 (by simp)
          have e5 : vs 5 = .bool false := hC 5 (by simp)
          have E : Fr w [(b8_1, 2, Fq.num (1)), (b6_7, 2, Fq.num (paV (bys sn))), (b1, 4, Fq.pair 0 0)] w10 := E10
          rw [lay_all hL]
          simp only [putAll, dstOf, List.length_cons, List.length_nil, Nat.zero_add, Nat.reduceAdd, List.getElem?_toArray, List.getElem?_cons_zero, List.getElem?_cons_succ, Option.bind_some, Act.put, List.setIfInBounds_toArray, List.set_cons_succ, List.set_cons_zero]
          rw [e0, e1, e2, e3, e4, e5]
          clear e0 e1 e2 e3 e4 e5 hC hn E10 hL vs L nb
          go_upto_region 15 with (fail)
          refine region_fr (C := [Fq.num (paV (bys sn)), Fq.num (1), Fq.pair (paV (bys sn)) (1), Fq.any, Fq.any]) (ks := [none, none, none]) (new := [⟨3, 4, 4, Fq.pair 0 0, Fq.pair (paV (bys sn)) (1), none⟩]) E rfl (by kernel_rfl) rfl rfl (fun hp => ⟨?_, ?_, ?_, ?_, ?_, trivial⟩) ?_
          · exact q_loadInt (off := 0) hp (free_of rfl) trivial (List.mem_iff_getElem?.2 ⟨1, rfl⟩) (.inl rfl) (Nat.le_of_ble_eq_true rfl) (sq_out rfl rfl (fun _ _ => rfl)) (fun us w hl h => ld_num hl h)
          · exact q_loadInt (off := 0) hp (free_of rfl) trivial (List.mem_iff_getElem?.2 ⟨0, rfl⟩) (.inl rfl) (Nat.le_of_ble_eq_true rfl) (sq_out rfl rfl (fun _ _ => rfl)) (fun us w hl h => ld_num hl h)
          · exact q_buildRat (n := (paV (bys sn))) (d0 := (1)) hp (free_of rfl) trivial (sq_in 0 rfl rfl (by simp) rfl (fun v w h => h)) (sq_in 1 rfl rfl (by simp) rfl (fun v w h => h)) (fun v w h => h)
          · exact q_allocRat hp (List.mem_iff_getElem?.2 ⟨0, rfl⟩) rfl rfl rfl rfl (Nat.ne_of_beq_eq_false rfl) (fun _ _ => trivial) (old_ne rfl) (newk_ne rfl) (fun w => Pair.zero w)
          · exact q_storeNewRat hp (List.mem_iff_getElem?.2 ⟨0, rfl⟩) rfl rfl rfl (own_ptr rfl rfl (by simp) rfl) (sq_in 2 rfl rfl (by simp) rfl (fun v w h => ratV_pair h)) (fun _ _ => trivial) (old_ne rfl) (newi_ne rfl)
          intro L vs w11 nb hL hC hn E11
          have e3 : vs 3 = .pointer (some ⟨nb 3, 0, none⟩) := hn _ (List.mem_iff_getElem?.2 ⟨0, rfl⟩)
          have E : Fr w [(nb 3, 4, Fq.pair (paV (bys sn)) (1)), (b8_1, 2, Fq.num (1)), (b6_7, 2, Fq.num (paV (bys sn))), (b1, 4, Fq.pair 0 0)] w11 := E11
          rw [lay_all hL]
          simp only [putAll, dstOf, List.length_cons, List.length_nil, Nat.zero_add, Nat.reduceAdd, List.getElem?_toArray, List.getElem?_cons_zero, List.getElem?_cons_succ, Option.bind_some, Act.put, List.setIfInBounds_toArray, List.set_cons_succ, List.set_cons_zero]
          rw [e3]
          generalize nb 3 = b11_3 at E ⊢
          generalize vs 0 = u11_0
          generalize vs 1 = u11_1
          generalize vs 2 = u11_2
          clear e3 hC hn E11 hL vs L nb
          have TN := paE_0 e1.out
          go_upto_region 16 with (fail)
          refine region_fr (C := [Fq.pair (paV (bys sn)) (1), Fq.tup2 (Fq.is (.string (bytesOf (pairText (paV (bys sn)) (1))))) (Fq.is (.int .i64 0)), Fq.tup2 (Fq.is (.string (bytesOf (pairText (paV (bys sn)) (1))))) (Fq.is (.int .i64 0)), Fq.is (.string (bytesOf (pairText (paV (bys sn)) (1)))), Fq.is (.int .i64 0), Fq.is (.string (bytesOf (pairText (paV (bys sn)) (1)))), Fq.is (.int .i64 0)]) (ks := [none, none, none, none]) (new := []) E rfl (by kernel_rfl) rfl rfl (fun hp => ⟨?_, ?_, ?_, ?_, ?_, ?_, ?_, trivial⟩) ?_
          · exact q_loadRat hp (free_of rfl) trivial (List.mem_iff_getElem?.2 ⟨0, rfl⟩) (.inl rfl) rfl (sq_out rfl rfl (fun _ _ => rfl)) (fun us w hl h => h)
          · exact q_call1 (F := (Fq.pair (paV (bys sn)) (1)).P) hp (free_of rfl) trivial (enq_S_Text) (sq_in 0 rfl rfl (by simp) rfl (fun v w h => h)) (fun v w h => exSTextP h (by rw [TN.2.2]; exact TN.1) (by rw [text_1]; decide))
          · exact q_move hp (free_of rfl) trivial (sq_in 1 rfl rfl (by simp) rfl (fun v w h => h))
          · exact q_extract2 hp (free_of rfl) trivial (sq_in 2 rfl rfl (by simp) rfl (fun v w h => h)) (fun v1 v2 w h1 h2 => ⟨_, rfl, h1⟩)
          · exact q_extract2 hp (free_of rfl) trivial (sq_in 2 rfl rfl (by simp) rfl (fun v w h => h)) (fun v1 v2 w h1 h2 => ⟨_, rfl, h2⟩)
          · exact q_assign hp (free_of rfl) trivial (sq_in 3 rfl rfl (by simp) rfl (fun v w h => h))
          · exact q_assign hp (free_of rfl) trivial (sq_in 4 rfl rfl (by simp) rfl (fun v w h => h))
          intro L vs w12 nb hL hC hn E12
          have e3 : vs 3 = .string (bytesOf (pairText (paV (bys sn)) (1))) := hC 3 (by simp)
          have e4 : vs 4 = .int .i64 0 := hC 4 (by simp)
          have e5 : vs 5 = .string (bytesOf (pairText (paV (bys sn)) (1))) := hC 5 (by simp)
          have e6 : vs 6 = .int .i64 0 := hC 6 (by simp)
          have E : Fr w [(b11_3, 4, Fq.pair (paV (bys sn)) (1)), (b8_1, 2, Fq.num (1)), (b6_7, 2, Fq.num (paV (bys sn))), (b1, 4, Fq.pair 0 0)] w12 := E12
          rw [lay_all hL]
          simp only [putAll, dstOf, List.length_cons, List.length_nil, Nat.zero_add, Nat.reduceAdd, List.getElem?_toArray, List.getElem?_cons_zero, List.getElem?_cons_succ, Option.bind_some, Act.put, List.setIfInBounds_toArray, List.set_cons_succ, List.set_cons_zero]
          rw [e3, e4, e5, e6]
          generalize vs 0 = u12_0
          generalize vs 1 = u12_1
          generalize vs 2 = u12_2
          clear e3 e4 e5 e6 hC hn E12 hL vs L nb
          clear TN
          have er : Hid (prsN (bys sn) = ((paV (bys sn)), 1, 0)) := if_pos e1.out
          have hx : Hid (((bytesOf (pairText (paV (bys sn)) 1)).toList == s.toList) = true) := pair_one (paE_0 e1.out) hn.out hpS.out HK.out
          go_upto_region 17 with (fail)
          refine region_fr (C := [Fq.pair (paV (bys sn)) (1), Fq.is (.bool true), Fq.is (.bool false), Fq.is (.bool false), Fq.is (.int .i64 0), Fq.is (.bool false), Fq.is (.bool false), Fq.is (.bool false), Fq.is (.string (bytesOf (pairText (paV (bys sn)) (1)))), Fq.is (.string s), Fq.is (.bool false), Fq.is (.bool false)]) (ks := [none, none, none, none]) (new := []) E rfl (by kernel_rfl) rfl rfl (fun hp => ⟨?_, ?_, ?_, ?_, ?_, ?_, ?_, ?_, ?_, ?_, ?_, ?_, trivial⟩) ?_
          · exact q_loadRat hp (free_of rfl) trivial (List.mem_iff_getElem?.2 ⟨0, rfl⟩) (.inl rfl) rfl (sq_out rfl rfl (fun _ _ => rfl)) (fun us w hl h => h)
          · exact q_call1 (F := (Fq.pair (paV (bys sn)) (1)).P) hp (free_of rfl) trivial (enq_S_Valid) (sq_in 0 rfl rfl (by simp) rfl (fun v w h => h)) (fun v w h => exSValidT h (Int.lt_of_lt_of_le (paV_ab _) (pw_le (by omega))) (Int.lt_of_lt_of_le B7.out (pw_le (by omega))) (by decide) (by rw [Int.gcd_one]))
          · exact q_one (F := fun v _ => v = .bool true) hp (free_of rfl) trivial (sq_in 1 rfl rfl (by simp) rfl (fun v w h => h)) (fun ρ w _ h => ⟨.bool false, by simp [execOp, go_sem, h], rfl⟩)
          · exact q_move hp (free_of rfl) trivial (sq_in 2 rfl rfl (by simp) rfl (fun v w h => h))
          · exact q_move hp (free_of rfl) (gq_some rfl rfl (by simp) rfl (fun v w h => h)) (sq_out rfl rfl (fun _ _ => rfl))
          · exact q_one (F := fun v _ => v = .int .i64 0) hp (free_of rfl) (gq_some rfl rfl (by simp) rfl (fun v w h => h)) (sq_in 4 rfl rfl (by simp) rfl (fun v w h => h)) (fun ρ w hc h => ⟨.bool false, by simp [execOp, go_sem, h, hc], rfl⟩)
          · exact q_two (F := fun v _ => v = .bool false) (G := fun v _ => v = .bool false) hp (free_of rfl) trivial (sq_in 3 rfl rfl (by simp) rfl (fun v w h => h)) (sq_in 5 rfl rfl (by simp) rfl (fun v w h => h)) (fun ρ w hc h h' => ⟨_, by simp [execOp, go_sem, h, h'], rfl⟩)
          · exact q_move hp (free_of rfl) trivial (sq_in 6 rfl rfl (by simp) rfl (fun v w h => h))
          · exact q_move hp (free_of rfl) (gq_some rfl rfl (by simp) rfl (fun v w h => h)) (sq_out rfl rfl (fun _ _ => rfl))
          · exact q_move hp (free_of rfl) (gq_some rfl rfl (by simp) rfl (fun v w h => h)) (sq_out rfl rfl (fun _ _ => rfl))
          · exact q_two (F := fun v _ => v = .string (bytesOf (pairText (paV (bys sn)) (1)))) (G := fun v _ => v = .string s) hp (free_of rfl) (gq_some rfl rfl (by simp) rfl (fun v w h => h)) (sq_in 8 rfl rfl (by simp) rfl (fun v w h => h)) (sq_in 9 rfl rfl (by simp) rfl (fun v w h => h)) (fun ρ w hc h h' => ⟨.bool false, by simp [execOp, go_sem, h, h', hx.out], rfl⟩)
          · exact q_two (F := fun v _ => v = .bool false) (G := fun v _ => v = .bool false) hp (free_of rfl) trivial (sq_in 7 rfl rfl (by simp) rfl (fun v w h => h)) (sq_in 10 rfl rfl (by simp) rfl (fun v w h => h)) (fun ρ w hc h h' => ⟨_, by simp [execOp, go_sem, h, h'], rfl⟩)
          intro L vs w13 nb hL hC hn E13
          have e1 : vs 1 = .bool true := hC 1 (by simp)
          have e2 : vs 2 = .bool false := hC 2 (by simp)
          have e3 : vs 3 = .bool false := hC 3 (by simp)
          have e4 : vs 4 = .int .i64 0 := hC 4 (by simp)
          have e5 : vs 5 = .bool false := hC 5 (by simp)
          have e6 : vs 6 = .bool false := hC 6 (by simp)
          have e7 : vs 7 = .bool false := hC 7 (by simp)
          have e8 : vs 8 = .string (bytesOf (pairText (paV (bys sn)) (1))) := hC 8 (by simp)
          have e9 : vs 9 = .string s := hC 9 (by simp)
          have e10 : vs 10 = .bool false := hC 10 (by simp)
          have e11 : vs 11 = .bool false := hC 11 (by simp)
          have E : Fr w [(b11_3, 4, Fq.pair (paV (bys sn)) (1)), (b8_1, 2, Fq.num (1)), (b6_7, 2, Fq.num (paV (bys sn))), (b1, 4, Fq.pair 0 0)] w13 := E13
          rw [lay_all hL]
          simp only [putAll, dstOf, List.length_cons, List.length_nil, Nat.zero_add, Nat.reduceAdd, List.getElem?_toArray, List.getElem?_cons_zero, List.getElem?_cons_succ, Option.bind_some, Act.put, List.setIfInBounds_toArray, List.set_cons_succ, List.set_cons_zero]
          rw [e1, e2, e3, e4, e5, e6, e7, e8, e9, e10, e11]
          generalize vs 0 = u13_0
          clear e1 e2 e3 e4 e5 e6 e7 e8 e9 e10 e11 hC hn E13 hL vs L nb
          clear e1 hx
          go_upto_region 19 with (fail)
          refine region_fr (C := [Fq.pair (paV (bys sn)) (1), Fq.any, Fq.is (.int .i64 0)]) (ks := [none, none, none, some (1, Fq.pair (paV (bys sn)) (1))]) (new := []) E rfl (by kernel_rfl) rfl rfl (fun hp => ⟨?_, ?_, ?_, trivial⟩) ?_
          · exact q_loadRat hp (free_of rfl) trivial (List.mem_iff_getElem?.2 ⟨0, rfl⟩) (.inl rfl) rfl (sq_out rfl rfl (fun _ _ => rfl)) (fun us w hl h => h)
          · exact q_storeOldRat hp (List.mem_iff_getElem?.2 ⟨3, rfl⟩) rfl rfl (sq_out rfl rfl (fun _ _ => rfl)) (sq_in 0 rfl rfl (by simp) rfl (fun v w h => ratV_pair h)) (fun _ _ => trivial) (newik_ne rfl)
          · exact q_assign hp (free_of rfl) trivial (sq_const (fun _ => rfl))
          intro L vs w14 nb hL hC hn E14
          have e2 : vs 2 = .int .i64 0 := hC 2 (by simp)
          have E : Fr w [(b11_3, 4, Fq.pair (paV (bys sn)) (1)), (b8_1, 2, Fq.num (1)), (b6_7, 2, Fq.num (paV (bys sn))), (b1, 4, Fq.pair (paV (bys sn)) (1))] w14 := E14
          rw [lay_all hL]
          simp only [putAll, dstOf, List.length_cons, List.length_nil, Nat.zero_add, Nat.reduceAdd, List.getElem?_toArray, List.getElem?_cons_zero, List.getElem?_cons_succ, Option.bind_some, Act.put, List.setIfInBounds_toArray, List.set_cons_succ, List.set_cons_zero]
          rw [e2]
          generalize vs 0 = u14_0
          clear e2 hC hn E14 hL vs L nb
          clear hS HL HK hpS hn
          obtain ⟨p0, p1, p2, p3, c0, c1, c2, c3, hP⟩ := box_pair (E.box 3 rfl)
          clear B7
          go_wp2
          refine bodyPost_ret (v := .tuple #[.agg #[p0, p1, p2, p3], .int .i64 0]) ?_ rfl ⟨_, rfl, E.below, by rw [er.out]; exact ⟨_, _, rfl, hP, rfl⟩⟩
          simp [results, Try.results27, go_sem, c0, c1, c2, c3]
        · have er : Hid (prsN (bys sn) = (0, 0, 3)) := if_neg (fun h => h1 h)
          have e1 := hidd h1
          clear h1
          go_upto_region 13 with (fail)
          refine region_fr (C := [Fq.is (.int .i64 (paE (bys sn))), Fq.is (.bool true), Fq.is (.bool true), Fq.is (undef), Fq.is (undef), Fq.is (.bool true)]) (ks := [none, none, none]) (new := []) E rfl (by kernel_rfl) rfl rfl (fun hp => ⟨?_, ?_, ?_, ?_, ?_, ?_, trivial⟩) ?_
          · exact q_move hp (free_of rfl) trivial (sq_out rfl rfl (fun _ _ => rfl))
          · exact q_one (F := fun v _ => v = .int .i64 (paE (bys sn))) hp (free_of rfl) trivial (sq_in 0 rfl rfl (by simp) rfl (fun v w h => h)) (fun ρ w hc h => ⟨.bool true, by simp [execOp, go_sem, h, hc, e1.out], rfl⟩)
          · exact q_move hp (free_of rfl) trivial (sq_in 1 rfl rfl (by simp) rfl (fun v w h => h))
          · exact q_skip hp (free_of rfl) rfl (gq_some rfl rfl (by simp) rfl (fun v w h => h)) (fun _ => rfl)
          · exact q_skip hp (free_of rfl) rfl (gq_some rfl rfl (by simp) rfl (fun v w h => h)) (fun _ => rfl)
          · exact q_two (F := fun v _ => v = .bool true) (G := fun v _ => v = .bool true) hp (free_of rfl) trivial (sq_in 2 rfl rfl (by simp) rfl (fun v w h => h)) (sq_const (fun _ => rfl)) (fun ρ w hc h h' => ⟨_, by simp [execOp, go_sem, h, h'], rfl⟩)
          intro L vs w15 nb hL hC hn E15
          have e0 : vs 0 = .int .i64 (paE (bys sn)) := hC 0 (by simp)
          have e1 : vs 1 = .bool true := hC 1 (by simp)
          have e2 : vs 2 = .bool true := hC 2 (by simp)
          have e3 : vs 3 = undef := hC 3 (by simp)
          have e4 : vs 4 = undef := hC 4 (by simp)
          have e5 : vs 5 = .bool true := hC 5 (by simp)
          have E : Fr w [(b8_1, 2, Fq.num (1)), (b6_7, 2, Fq.num (paV (bys sn))), (b1, 4, Fq.pair 0 0)] w15 := E15
          rw [lay_all hL]
          simp only [putAll, dstOf, List.length_cons, List.length_nil, Nat.zero_add, Nat.reduceAdd, List.getElem?_toArray, List.getElem?_cons_zero, List.getElem?_cons_succ, Option.bind_some, Act.put, List.setIfInBounds_toArray, List.set_cons_succ, List.set_cons_zero]
          rw [e0, e1, e2, e3, e4, e5]
          clear e0 e1 e2 e3 e4 e5 hC hn E15 hL vs L nb
          clear e1
          go_upto_region 14 with (fail)
          refine region_fr (C := [Fq.pair 0 0, Fq.any, Fq.is (.int .i64 3)]) (ks := [none, none, some (1, Fq.pair 0 0)]) (new := []) E rfl (by kernel_rfl) rfl rfl (fun hp => ⟨?_, ?_, ?_, trivial⟩) ?_
          · exact q_zeroRat hp (free_of rfl) trivial (fun v w h => h)
          · exact q_storeOldRat hp (List.mem_iff_getElem?.2 ⟨2, rfl⟩) rfl rfl (sq_out rfl rfl (fun _ _ => rfl)) (sq_in 0 rfl rfl (by simp) rfl (fun v w h => ratV_pair h)) (fun _ _ => trivial) (newik_ne rfl)
          · exact q_assign hp (free_of rfl) trivial (sq_const (fun _ => rfl))
          intro L vs w16 nb hL hC hn E16
          have e2 : vs 2 = .int .i64 3 := hC 2 (by simp)
          have E : Fr w [(b8_1, 2, Fq.num (1)), (b6_7, 2, Fq.num (paV (bys sn))), (b1, 4, Fq.pair 0 0)] w16 := E16
          rw [lay_all hL]
          simp only [putAll, dstOf, List.length_cons, List.length_nil, Nat.zero_add, Nat.reduceAdd, List.getElem?_toArray, List.getElem?_cons_zero, List.getElem?_cons_succ, Option.bind_some, Act.put, List.setIfInBounds_toArray, List.set_cons_succ, List.set_cons_zero]
          rw [e2]
          generalize vs 0 = u16_0
          clear e2 hC hn E16 hL vs L nb
          clear hS HL HK hpS hn
          obtain ⟨p0, p1, p2, p3, c0, c1, c2, c3, hP⟩ := box_pair (E.box 2 rfl)
          clear B7
          go_wp2
          refine bodyPost_ret (v := .tuple #[.agg #[p0, p1, p2, p3], .int .i64 3]) ?_ rfl ⟨_, rfl, E.below, by rw [er.out]; exact ⟨_, _, rfl, hP, rfl⟩⟩
          simp [results, Try.results27, go_sem, c0, c1, c2, c3]
    · exact absurd hK2 (by omega)

set_option maxRecDepth 100000 in
set_option maxHeartbeats 4000000 in
theorem sp_end (w : World) {s sn sd : ByteArray} {K : Nat} (hS : Hid (Slash (bys s) K)) (hl : s.size ≤ 2601) (hn : Hid (sn = s.extract 0 K)) (hd : Hid (sd = s.extract (K + 1) s.size)) (hK : K + 1 = s.size) :
    Calls Try.prog 27 #[.string s] w fun e w' => ∃ v', e = .returned v' ∧ Below w.heap.size w w' ∧ (Fq.tup2 (Fq.pair (prsS (bys sn) (bys sd)).1 (prsS (bys sn) (bys sd)).2.1) (Fq.is (.int .i64 (prsS (bys sn) (bys sd)).2.2))).P v' w' := by
  obtain ⟨w1, b1, hw1, hb1, hs1, E⟩ := fr_start w (F := Fq.pair 0 0) (us := [.bool false, .slice none 0 0, .bool false, .slice none 0 0]) 31 rfl (by simp) (tame_rat _ _ _ _ _ _ _ _) (Pair.zero _)
  go_enter Try.func27, Try.ntmps27
  go_upto_region 1 with (fail)
  rw [← hw1]
  rw [← hb1]
  clear hw1 hb1 hs1
  have T1 := hidd (show ¬ (2601 : Int) < ((s.size : Nat) : Int) by omega)
  have HL := hidd hl
  have HK := hidd hK
  clear hl hK
  refine region_fr (C := [Fq.is (.string s), Fq.is (.int .i64 ((s.size : Nat) : Int)), Fq.is (.bool false)]) (ks := [none]) (new := []) E rfl (by kernel_rfl) rfl rfl (fun hp => ⟨?_, ?_, ?_, trivial⟩) ?_
  · exact q_move hp (free_of rfl) trivial (sq_out rfl rfl (fun _ _ => rfl))
  · exact q_lenS hp (free_of rfl) trivial (sq_in 0 rfl rfl (by simp) rfl (fun v w h => h)) (fun _ => rfl)
  · exact q_one (F := fun v _ => v = .int .i64 ((s.size : Nat) : Int)) hp (free_of rfl) trivial (sq_in 1 rfl rfl (by simp) rfl (fun v w h => h)) (fun ρ w hc h => ⟨.bool false, by simp [execOp, go_sem, h, hc, T1.out], rfl⟩)
  intro L vs w2 nb hL hC hn E2
  have e0 : vs 0 = .string s := hC 0 (by simp)
  have e1 : vs 1 = .int .i64 ((s.size : Nat) : Int) := hC 1 (by simp)
  have e2 : vs 2 = .bool false := hC 2 (by simp)
  have E : Fr w [(b1, 4, Fq.pair 0 0)] w2 := E2
  rw [lay_all hL]
  simp only [putAll, dstOf, List.length_cons, List.length_nil, Nat.zero_add, Nat.reduceAdd, List.getElem?_toArray, List.getElem?_cons_zero, List.getElem?_cons_succ, Option.bind_some, Act.put, List.setIfInBounds_toArray, List.set_cons_succ, List.set_cons_zero]
  rw [e0, e1, e2]
  clear e0 e1 e2 hC hn E2 hL vs L nb
  clear T1
  go_upto_region 3 with (fail)
  refine region_fr (C := [Fq.is (.string s), Fq.is (.int .i64 ((s.size : Nat) : Int)), Fq.is (.int .i64 ((s.size : Nat) : Int))]) (ks := [none]) (new := []) E rfl (by kernel_rfl) rfl rfl (fun hp => ⟨?_, ?_, ?_, trivial⟩) ?_
  · exact q_move hp (free_of rfl) trivial (sq_out rfl rfl (fun _ _ => rfl))
  · exact q_lenS hp (free_of rfl) trivial (sq_in 0 rfl rfl (by simp) rfl (fun v w h => h)) (fun _ => rfl)
  · exact q_assign hp (free_of rfl) trivial (sq_in 1 rfl rfl (by simp) rfl (fun v w h => h))
  intro L vs w3 nb hL hC hn E3
  have e0 : vs 0 = .string s := hC 0 (by simp)
  have e1 : vs 1 = .int .i64 ((s.size : Nat) : Int) := hC 1 (by simp)
  have e2 : vs 2 = .int .i64 ((s.size : Nat) : Int) := hC 2 (by simp)
  have E : Fr w [(b1, 4, Fq.pair 0 0)] w3 := E3
  rw [lay_all hL]
  simp only [putAll, dstOf, List.length_cons, List.length_nil, Nat.zero_add, Nat.reduceAdd, List.getElem?_toArray, List.getElem?_cons_zero, List.getElem?_cons_succ, Option.bind_some, Act.put, List.setIfInBounds_toArray, List.set_cons_succ, List.set_cons_zero]
  rw [e0, e1, e2]
  clear e0 e1 e2 hC hn E3 hL vs L nb
  go_upto_region 4 with (fail)
  refine region_fr (C := [Fq.is (.int .i64 0)]) (ks := [none]) (new := []) E rfl (by kernel_rfl) rfl rfl (fun hp => ⟨?_, trivial⟩) ?_
  · exact q_assign hp (free_of rfl) trivial (sq_const (fun _ => rfl))
  intro L vs w4 nb hL hC hn E4
  have e0 : vs 0 = .int .i64 0 := hC 0 (by simp)
  have E : Fr w [(b1, 4, Fq.pair 0 0)] w4 := E4
  rw [lay_all hL]
  simp only [putAll, dstOf, List.length_cons, List.length_nil, Nat.zero_add, List.getElem?_toArray, List.getElem?_cons_zero, Option.bind_some, Act.put, List.setIfInBounds_toArray, List.set_cons_succ, List.set_cons_zero]
  rw [e0]
  clear e0 hC hn E4 hL vs L nb
  have HS := hidd E
  go_upto_region 5 with (fail)
  go_loopw [4, 5] (fun va vi W => ∃ p q : Nat, va = .int .i64 (p : Int) ∧ vi = .int .i64 (q : Int) ∧ q ≤ s.size ∧ ((p = s.size ∧ q ≤ K) ∨ (p = K ∧ K < s.size ∧ q = K + 1)) ∧ Fr w [(b1, 4, Fq.pair 0 0)] W) (fun _ vi _ => s.size - (intOf vi).toNat)
  case atStart => exact ⟨s.size, 0, rfl, rfl, Nat.zero_le _, .inl ⟨rfl, Nat.zero_le _⟩, HS.out⟩
  case round =>
    obtain ⟨p, q, rfl, rfl, hq, hc, E⟩ := hrel
    clear HS
    have hK1 := HK.out
    have hL1 := HL.out
    have hll := bys_len s
    rcases hc with ⟨hp, hqK⟩ | ⟨hp, hK2, hq1⟩
    · by_cases hqe : q = K
      · have hqs : q < s.size := by omega
        have hat := bys_at s hqs
        obtain ⟨x, hx⟩ : ∃ x : Int, ((s[q]'hqs).toNat : Int) = x := ⟨_, rfl⟩
        rw [hx] at hat
        obtain rfl : x = 47 := by rw [← hat]; have := hS.out.2.2 (by omega); rwa [show K = q by omega] at this
        subst hp
        have h1 : (q : Int) < (s.size : Int) := by omega
        have hw : wrap64 ((q : Int) + 1) = (q : Int) + 1 := by simp only [wrap64]; omega
        have HQ := hidd hqs
        have HQK := hidd hqK
        have HE : Hid (q = K) := by show _ = _; omega
        clear hat hqK hK1 hll hq hL1 hqe
        go_wp2
        go_roundw
        case rel => exact ⟨q, q + 1, rfl, by first | go_num | (rw [hw]; go_num), by have := HQ.out; omega, .inr ⟨HE.out, by have := HQ.out; have := HE.out; omega, by have := HE.out; omega⟩, E⟩
        case measure => first | exact measW HQ.out | (rw [hw]; exact measW HQ.out)
      · have hqs : q < s.size := by omega
        have hat := bys_at s hqs
        obtain ⟨x, hx⟩ : ∃ x : Int, ((s[q]'hqs).toNat : Int) = x := ⟨_, rfl⟩
        rw [hx] at hat
        have hx47 : ¬ x = 47 := by rw [← hat]; exact hS.out.2.1 q (by omega)
        have hxb : (x == 47) = false := by simpa using hx47
        subst hp
        have h1 : (q : Int) < (s.size : Int) := by omega
        have hw : wrap64 ((q : Int) + 1) = (q : Int) + 1 := by simp only [wrap64]; omega
        have HQ := hidd hqs
        have HQK := hidd hqK
        have HE : Hid (q < K) := by show _ < _; omega
        clear hat hqK hK1 hll hq hL1 hqe
        go_wp2
        go_roundw
        case rel => exact ⟨s.size, q + 1, rfl, by first | go_num | (rw [hw]; go_num), by have := HQ.out; omega, .inl ⟨rfl, by have := HE.out; omega⟩, E⟩
        case measure => first | exact measW HQ.out | (rw [hw]; exact measW HQ.out)
    · subst hp
      subst hq1
      have TL := hidd (show ((s.size : Nat) : Int) ≤ ((p : Nat) : Int) + 1 by omega)
      clear hK1 hL1 hll hq hK2
      go_upto_region 5 with (fail)
      refine region_fr (C := [Fq.is (.int .i64 ((p + 1 : Nat) : Int)), Fq.is (.string s), Fq.is (.int .i64 ((s.size : Nat) : Int)), Fq.is (.bool false), Fq.is (.bool false), Fq.is (undef), Fq.is (undef), Fq.is (undef), Fq.is (undef), Fq.is (.bool false)]) (ks := [none]) (new := []) E rfl (by kernel_rfl) rfl rfl (fun hp => ⟨?_, ?_, ?_, ?_, ?_, ?_, ?_, ?_, ?_, ?_, trivial⟩) ?_
      · exact q_move hp (free_of rfl) trivial (sq_out rfl rfl (fun _ _ => rfl))
      · exact q_move hp (free_of rfl) trivial (sq_out rfl rfl (fun _ _ => rfl))
      · exact q_lenS hp (free_of rfl) trivial (sq_in 1 rfl rfl (by simp) rfl (fun v w h => h)) (fun _ => rfl)
      · exact q_two (F := fun v _ => v = .int .i64 ((p + 1 : Nat) : Int)) (G := fun v _ => v = .int .i64 ((s.size : Nat) : Int)) hp (free_of rfl) trivial (sq_in 0 rfl rfl (by simp) rfl (fun v w h => h)) (sq_in 2 rfl rfl (by simp) rfl (fun v w h => h)) (fun ρ w hc h h' => ⟨.bool false, by simp [execOp, go_sem, h, h', TL.out], rfl⟩)
      · exact q_move hp (free_of rfl) trivial (sq_in 3 rfl rfl (by simp) rfl (fun v w h => h))
      · exact q_skip hp (free_of rfl) rfl (gq_some rfl rfl (by simp) rfl (fun v w h => h)) (fun _ => rfl)
      · exact q_skip hp (free_of rfl) rfl (gq_some rfl rfl (by simp) rfl (fun v w h => h)) (fun _ => rfl)
      · exact q_skip hp (free_of rfl) rfl (gq_some rfl rfl (by simp) rfl (fun v w h => h)) (fun _ => rfl)
      · exact q_skip hp (free_of rfl) rfl (gq_some rfl rfl (by simp) rfl (fun v w h => h)) (fun _ => rfl)
      · exact q_two (F := fun v _ => v = .bool false) (G := fun v _ => v = .bool false) hp (free_of rfl) trivial (sq_in 4 rfl rfl (by simp) rfl (fun v w h => h)) (sq_const (fun _ => rfl)) (fun ρ w hc h h' => ⟨_, by simp [execOp, go_sem, h, h'], rfl⟩)
      intro L vs w5 nb hL hC hn E5
      have e0 : vs 0 = .int .i64 ((p + 1 : Nat) : Int) := hC 0 (by simp)
      have e1 : vs 1 = .string s := hC 1 (by simp)
      have e2 : vs 2 = .int .i64 ((s.size : Nat) : Int) := hC 2 (by simp)
      have e3 : vs 3 = .bool false := hC 3 (by simp)
      have e4 : vs 4 = .bool false := hC 4 (by simp)
      have e5 : vs 5 = undef := hC 5 (by simp)
      have e6 : vs 6 = undef := hC 6 (by simp)
      have e7 : vs 7 = undef := hC 7 (by simp)
      have e8 : vs 8 = undef := hC 8 (by simp)
      have e9 : vs 9 = .bool false := hC 9 (by simp)
      have E : Fr w [(b1, 4, Fq.pair 0 0)] w5 := E5
      rw [lay_all hL]
      simp only [putAll, dstOf, List.length_cons, List.length_nil, Nat.zero_add, Nat.reduceAdd, List.getElem?_toArray, List.getElem?_cons_zero, List.getElem?_cons_succ, Option.bind_some, Act.put, List.setIfInBounds_toArray, List.set_cons_succ, List.set_cons_zero]
      rw [e0, e1, e2, e3, e4, e5, e6, e7, e8, e9]
      clear e0 e1 e2 e3 e4 e5 e6 e7 e8 e9 hC hn E5 hL vs L nb
      clear TL
      have hpS : Hid (p ≤ s.size) := by have := hS.out.1; rwa [bys_len] at this
      go_upto_region 9 with (fail)
      refine region_fr (C := [Fq.is (.string s), Fq.is (.int .i64 ((p : Nat) : Int)), Fq.is (.string sn), Fq.tup2 (Fq.num (paV (bys sn))) (Fq.is (.int .i64 (paE (bys sn)))), Fq.tup2 (Fq.num (paV (bys sn))) (Fq.is (.int .i64 (paE (bys sn)))), Fq.num (paV (bys sn)), Fq.is (.int .i64 (paE (bys sn))), Fq.any, Fq.any, Fq.is (.int .i64 (paE (bys sn)))]) (ks := [none]) (new := [⟨7, 8, 2, Fq.num 0, Fq.num (paV (bys sn)), none⟩]) E rfl (by kernel_rfl) rfl rfl (fun hp => ⟨?_, ?_, ?_, ?_, ?_, ?_, ?_, ?_, ?_, ?_, trivial⟩) ?_
      · exact q_move hp (free_of rfl) trivial (sq_out rfl rfl (fun _ _ => rfl))
      · exact q_move hp (free_of rfl) trivial (sq_out rfl rfl (fun _ _ => rfl))
      · exact q_sliceTo (s := s) (k := p) hp (free_of rfl) trivial (sq_in 0 rfl rfl (by simp) rfl (fun v w h => h)) (sq_in 1 rfl rfl (by simp) rfl (fun v w h => h)) hpS.out (fun _ => (congrArg Value.string hn.out.symm))
      · exact q_call1 (F := (Fq.is (.string sn)).P) hp (free_of rfl) trivial (enq_R_Parse) (sq_in 2 rfl rfl (by simp) rfl (fun v w h => h)) (fun v w h => (by subst h; exact exRParseU))
      · exact q_move hp (free_of rfl) trivial (sq_in 3 rfl rfl (by simp) rfl (fun v w h => h))
      · exact q_extract2 hp (free_of rfl) trivial (sq_in 4 rfl rfl (by simp) rfl (fun v w h => h)) (fun v1 v2 w h1 h2 => ⟨_, rfl, h1⟩)
      · exact q_extract2 hp (free_of rfl) trivial (sq_in 4 rfl rfl (by simp) rfl (fun v w h => h)) (fun v1 v2 w h1 h2 => ⟨_, rfl, h2⟩)
      · exact q_allocInt hp (List.mem_iff_getElem?.2 ⟨0, rfl⟩) rfl rfl rfl rfl (Nat.ne_of_beq_eq_false rfl) (fun _ _ => trivial) (old_ne rfl) (newk_ne rfl) (fun w => Num.zero w)
      · exact q_storeNewInt hp (List.mem_iff_getElem?.2 ⟨0, rfl⟩) rfl rfl rfl (own_ptr rfl rfl (by simp) rfl) (sq_in 5 rfl rfl (by simp) rfl (fun v w h => intV_num h)) (fun _ _ => trivial) (old_ne rfl) (newi_ne rfl)
      · exact q_assign hp (free_of rfl) trivial (sq_in 6 rfl rfl (by simp) rfl (fun v w h => h))
      intro L vs w6 nb hL hC hn E6
      have e0 : vs 0 = .string s := hC 0 (by simp)
      have e1 : vs 1 = .int .i64 ((p : Nat) : Int) := hC 1 (by simp)
      have e2 : vs 2 = .string sn := hC 2 (by simp)
      have e6 : vs 6 = .int .i64 (paE (bys sn)) := hC 6 (by simp)
      have e9 : vs 9 = .int .i64 (paE (bys sn)) := hC 9 (by simp)
      have e7 : vs 7 = .pointer (some ⟨nb 7, 0, none⟩) := hn _ (List.mem_iff_getElem?.2 ⟨0, rfl⟩)
      have E : Fr w [(nb 7, 2, Fq.num (paV (bys sn))), (b1, 4, Fq.pair 0 0)] w6 := E6
      rw [lay_all hL]
      simp only [putAll, dstOf, List.length_cons, List.length_nil, Nat.zero_add, Nat.reduceAdd, List.getElem?_toArray, List.getElem?_cons_zero, List.getElem?_cons_succ, Option.bind_some, Act.put, List.setIfInBounds_toArray, List.set_cons_succ, List.set_cons_zero]
      rw [e0, e1, e2, e6, e9, e7]
      generalize nb 7 = b6_7 at E ⊢
      generalize vs 3 = u6_3
      generalize vs 4 = u6_4
      generalize vs 5 = u6_5
      clear e0 e1 e2 e6 e9 e7 hC hn E6 hL vs L nb
      go_upto_region 10 with (fail)
      have B7 : Hid (ab ((1)) < pw 3) := ab_lit (by decide)
      refine region_fr (C := [Fq.num (1), Fq.any, Fq.any, Fq.is (.int .i64 0)]) (ks := [none, none]) (new := [⟨1, 2, 2, Fq.num 0, Fq.num (1), none⟩]) E rfl (by kernel_rfl) rfl rfl (fun hp => ⟨?_, ?_, ?_, ?_, trivial⟩) ?_
      · exact q_call1 (F := (Fq.is (.int .i64 1)).P) hp (free_of rfl) trivial (enq_R_Of) (sq_const (fun _ => rfl)) (fun v w h => (by subst h; exact rOfK w (1) (by omega) (by omega)))
      · exact q_allocInt hp (List.mem_iff_getElem?.2 ⟨0, rfl⟩) rfl rfl rfl rfl (Nat.ne_of_beq_eq_false rfl) (fun _ _ => trivial) (old_ne rfl) (newk_ne rfl) (fun w => Num.zero w)
      · exact q_storeNewInt hp (List.mem_iff_getElem?.2 ⟨0, rfl⟩) rfl rfl rfl (own_ptr rfl rfl (by simp) rfl) (sq_in 0 rfl rfl (by simp) rfl (fun v w h => intV_num h)) (fun _ _ => trivial) (old_ne rfl) (newi_ne rfl)
      · exact q_assign hp (free_of rfl) trivial (sq_const (fun _ => rfl))
      intro L vs w8 nb hL hC hn E8
      have e3 : vs 3 = .int .i64 0 := hC 3 (by simp)
      have e1 : vs 1 = .pointer (some ⟨nb 1, 0, none⟩) := hn _ (List.mem_iff_getElem?.2 ⟨0, rfl⟩)
      have E : Fr w [(nb 1, 2, Fq.num (1)), (b6_7, 2, Fq.num (paV (bys sn))), (b1, 4, Fq.pair 0 0)] w8 := E8
      rw [lay_all hL]
      simp only [putAll, dstOf, List.length_cons, List.length_nil, Nat.zero_add, Nat.reduceAdd, List.getElem?_toArray, List.getElem?_cons_zero, List.getElem?_cons_succ, Option.bind_some, Act.put, List.setIfInBounds_toArray, List.set_cons_succ, List.set_cons_zero]
      rw [e3, e1]
      generalize nb 1 = b8_1 at E ⊢
      generalize vs 0 = u8_0
      clear e3 e1 hC hn E8 hL vs L nb
      have TA := hidd (show ((p : Nat) : Int) < ((s.size : Nat) : Int) by have := HK.out; omega)
      go_upto_region 11 with (fail)
      refine region_fr (C := [Fq.is (.int .i64 ((p : Nat) : Int)), Fq.is (.string s), Fq.is (.int .i64 ((s.size : Nat) : Int)), Fq.is (.bool true)]) (ks := [none, none, none]) (new := []) E rfl (by kernel_rfl) rfl rfl (fun hp => ⟨?_, ?_, ?_, ?_, trivial⟩) ?_
      · exact q_move hp (free_of rfl) trivial (sq_out rfl rfl (fun _ _ => rfl))
      · exact q_move hp (free_of rfl) trivial (sq_out rfl rfl (fun _ _ => rfl))
      · exact q_lenS hp (free_of rfl) trivial (sq_in 1 rfl rfl (by simp) rfl (fun v w h => h)) (fun _ => rfl)
      · exact q_two (F := fun v _ => v = .int .i64 ((p : Nat) : Int)) (G := fun v _ => v = .int .i64 ((s.size : Nat) : Int)) hp (free_of rfl) trivial (sq_in 0 rfl rfl (by simp) rfl (fun v w h => h)) (sq_in 2 rfl rfl (by simp) rfl (fun v w h => h)) (fun ρ w hc h h' => ⟨.bool true, by simp [execOp, go_sem, h, h', TA.out], rfl⟩)
      intro L vs w9 nb hL hC hn E9
      have e0 : vs 0 = .int .i64 ((p : Nat) : Int) := hC 0 (by simp)
      have e1 : vs 1 = .string s := hC 1 (by simp)
      have e2 : vs 2 = .int .i64 ((s.size : Nat) : Int) := hC 2 (by simp)
      have e3 : vs 3 = .bool true := hC 3 (by simp)
      have E : Fr w [(b8_1, 2, Fq.num (1)), (b6_7, 2, Fq.num (paV (bys sn))), (b1, 4, Fq.pair 0 0)] w9 := E9
      rw [lay_all hL]
      simp only [putAll, dstOf, List.length_cons, List.length_nil, Nat.zero_add, Nat.reduceAdd, List.getElem?_toArray, List.getElem?_cons_zero, List.getElem?_cons_succ, Option.bind_some, Act.put, List.setIfInBounds_toArray, List.set_cons_succ, List.set_cons_zero]
      rw [e0, e1, e2, e3]
      clear e0 e1 e2 e3 hC hn E9 hL vs L nb
      clear TA
      have TW : Hid (IntKind.i64.wrap (((p : Nat) : Int) + 1) = (((p + 1 : Nat)) : Int)) := IntWalk.i64_in _ (by have := HL.out; have := HK.out; omega)
      go_upto_region 12 with (fail)
      refine region_fr (C := [Fq.is (.string s), Fq.is (.int .i64 ((p : Nat) : Int)), Fq.is (.int .i64 (((p + 1 : Nat)) : Int)), Fq.is (.string sd), Fq.tup2 (Fq.num (paV (bys sd))) (Fq.is (.int .i64 (paE (bys sd)))), Fq.tup2 (Fq.num (paV (bys sd))) (Fq.is (.int .i64 (paE (bys sd)))), Fq.num (paV (bys sd)), Fq.is (.int .i64 (paE (bys sd))), Fq.any, Fq.is (.int .i64 (paE (bys sd)))]) (ks := [some (8, Fq.num (paV (bys sd))), none, none]) (new := []) E rfl (by kernel_rfl) rfl rfl (fun hp => ⟨?_, ?_, ?_, ?_, ?_, ?_, ?_, ?_, ?_, ?_, trivial⟩) ?_
      · exact q_move hp (free_of rfl) trivial (sq_out rfl rfl (fun _ _ => rfl))
      · exact q_move hp (free_of rfl) trivial (sq_out rfl rfl (fun _ _ => rfl))
      · exact q_one (F := fun v _ => v = .int .i64 ((p : Nat) : Int)) hp (free_of rfl) trivial (sq_in 1 rfl rfl (by simp) rfl (fun v w h => h)) (fun ρ w hc h => ⟨.int .i64 (((p + 1 : Nat)) : Int), by simp [execOp, go_sem, h, hc, TW.out], rfl⟩)
      · exact q_sliceFrom (s := s) (k := (p + 1)) hp (free_of rfl) trivial (sq_in 0 rfl rfl (by simp) rfl (fun v w h => h)) (sq_in 2 rfl rfl (by simp) rfl (fun v w h => h)) (by have := HK.out; omega) (fun _ => (congrArg Value.string hd.out.symm))
      · exact q_call1 (F := (Fq.is (.string sd)).P) hp (free_of rfl) trivial (enq_R_Parse) (sq_in 3 rfl rfl (by simp) rfl (fun v w h => h)) (fun v w h => (by subst h; exact exRParseU))
      · exact q_move hp (free_of rfl) trivial (sq_in 4 rfl rfl (by simp) rfl (fun v w h => h))
      · exact q_extract2 hp (free_of rfl) trivial (sq_in 5 rfl rfl (by simp) rfl (fun v w h => h)) (fun v1 v2 w h1 h2 => ⟨_, rfl, h1⟩)
      · exact q_extract2 hp (free_of rfl) trivial (sq_in 5 rfl rfl (by simp) rfl (fun v w h => h)) (fun v1 v2 w h1 h2 => ⟨_, rfl, h2⟩)
      · exact q_storeOldInt hp (List.mem_iff_getElem?.2 ⟨0, rfl⟩) rfl rfl (sq_out rfl rfl (fun _ _ => rfl)) (sq_in 6 rfl rfl (by simp) rfl (fun v w h => intV_num h)) (fun _ _ => trivial) (newik_ne rfl)
      · exact q_assign hp (free_of rfl) trivial (sq_in 7 rfl rfl (by simp) rfl (fun v w h => h))
      intro L vs w10 nb hL hC hn E10
      have e0 : vs 0 = .string s := hC 0 (by simp)
      have e1 : vs 1 = .int .i64 ((p : Nat) : Int) := hC 1 (by simp)
      have e2 : vs 2 = .int .i64 (((p + 1 : Nat)) : Int) := hC 2 (by simp)
      have e3 : vs 3 = .string sd := hC 3 (by simp)
      have e7 : vs 7 = .int .i64 (paE (bys sd)) := hC 7 (by simp)
      have e9 : vs 9 = .int .i64 (paE (bys sd)) := hC 9 (by simp)
      have E : Fr w [(b8_1, 2, Fq.num (paV (bys sd))), (b6_7, 2, Fq.num (paV (bys sn))), (b1, 4, Fq.pair 0 0)] w10 := E10
      rw [lay_all hL]
      simp only [putAll, dstOf, List.length_cons, List.length_nil, Nat.zero_add, Nat.reduceAdd, List.getElem?_toArray, List.getElem?_cons_zero, List.getElem?_cons_succ, Option.bind_some, Act.put, List.setIfInBounds_toArray, List.set_cons_succ, List.set_cons_zero]
      rw [e0, e1, e2, e3, e7, e9]
      generalize vs 4 = u10_4
      generalize vs 5 = u10_5
      generalize vs 6 = u10_6
      clear e0 e1 e2 e3 e7 e9 hC hn E10 hL vs L nb
      clear TW
      have h2 : ¬ paE (bys sd) = 0 := end_no hd.out HK.out
      by_cases h1 : ¬ paE (bys sn) = 0
      · have er : Hid (prsS (bys sn) (bys sd) = (0, 0, 3)) := if_neg (fun h => h1 h.1)
        have e1 := hidd h1
        clear h1
        go_upto_region 13 with (fail)
        refine region_fr (C := [Fq.is (.int .i64 (paE (bys sn))), Fq.is (.bool true), Fq.is (.bool true), Fq.is (undef), Fq.is (undef), Fq.is (.bool true)]) (ks := [none, none, none]) (new := []) E rfl (by kernel_rfl) rfl rfl (fun hp => ⟨?_, ?_, ?_, ?_, ?_, ?_, trivial⟩) ?_
        · exact q_move hp (free_of rfl) trivial (sq_out rfl rfl (fun _ _ => rfl))
        · exact q_one (F := fun v _ => v = .int .i64 (paE (bys sn))) hp (free_of rfl) trivial (sq_in 0 rfl rfl (by simp) rfl (fun v w h => h)) (fun ρ w hc h => ⟨.bool true, by simp [execOp, go_sem, h, hc, e1.out], rfl⟩)
        · exact q_move hp (free_of rfl) trivial (sq_in 1 rfl rfl (by simp) rfl (fun v w h => h))
        · exact q_skip hp (free_of rfl) rfl (gq_some rfl rfl (by simp) rfl (fun v w h => h)) (fun _ => rfl)
        · exact q_skip hp (free_of rfl) rfl (gq_some rfl rfl (by simp) rfl (fun v w h => h)) (fun _ => rfl)
        · exact q_two (F := fun v _ => v = .bool true) (G := fun v _ => v = .bool true) hp (free_of rfl) trivial (sq_in 2 rfl rfl (by simp) rfl (fun v w h => h)) (sq_const (fun _ => rfl)) (fun ρ w hc h h' => ⟨_, by simp [execOp, go_sem, h, h'], rfl⟩)
        intro L vs w11 nb hL hC hn E11
        have e0 : vs 0 = .int .i64 (paE (bys sn)) := hC 0 (by simp)
        have e1 : vs 1 = .bool true := hC 1 (by simp)
        have e2 : vs 2 = .bool true := hC 2 (by simp)
        have e3 : vs 3 = undef := hC 3 (by simp)
        have e4 : vs 4 = undef := hC 4 (by simp)
        have e5 : vs 5 = .bool true := hC 5 (by simp)
        have E : Fr w [(b8_1, 2, Fq.num (paV (bys sd))), (b6_7, 2, Fq.num (paV (bys sn))), (b1, 4, Fq.pair 0 0)] w11 := E11
        rw [lay_all hL]
        simp only [putAll, dstOf, List.length_cons, List.length_nil, Nat.zero_add, Nat.reduceAdd, List.getElem?_toArray, List.getElem?_cons_zero, List.getElem?_cons_succ, Option.bind_some, Act.put, List.setIfInBounds_toArray, List.set_cons_succ, List.set_cons_zero]
        rw [e0, e1, e2, e3, e4, e5]
        clear e0 e1 e2 e3 e4 e5 hC hn E11 hL vs L nb
        clear e1
        go_upto_region 14 with (fail)
        refine region_fr (C := [Fq.pair 0 0, Fq.any, Fq.is (.int .i64 3)]) (ks := [none, none, some (1, Fq.pair 0 0)]) (new := []) E rfl (by kernel_rfl) rfl rfl (fun hp => ⟨?_, ?_, ?_, trivial⟩) ?_
        · exact q_zeroRat hp (free_of rfl) trivial (fun v w h => h)
        · exact q_storeOldRat hp (List.mem_iff_getElem?.2 ⟨2, rfl⟩) rfl rfl (sq_out rfl rfl (fun _ _ => rfl)) (sq_in 0 rfl rfl (by simp) rfl (fun v w h => ratV_pair h)) (fun _ _ => trivial) (newik_ne rfl)
        · exact q_assign hp (free_of rfl) trivial (sq_const (fun _ => rfl))
        intro L vs w12 nb hL hC hn E12
        have e2 : vs 2 = .int .i64 3 := hC 2 (by simp)
        have E : Fr w [(b8_1, 2, Fq.num (paV (bys sd))), (b6_7, 2, Fq.num (paV (bys sn))), (b1, 4, Fq.pair 0 0)] w12 := E12
        rw [lay_all hL]
        simp only [putAll, dstOf, List.length_cons, List.length_nil, Nat.zero_add, Nat.reduceAdd, List.getElem?_toArray, List.getElem?_cons_zero, List.getElem?_cons_succ, Option.bind_some, Act.put, List.setIfInBounds_toArray, List.set_cons_succ, List.set_cons_zero]
        rw [e2]
        generalize vs 0 = u12_0
        clear e2 hC hn E12 hL vs L nb
        clear hS HL HK hpS hn hd
        obtain ⟨p0, p1, p2, p3, c0, c1, c2, c3, hP⟩ := box_pair (E.box 2 rfl)
        clear B7
        go_wp2
        refine bodyPost_ret (v := .tuple #[.agg #[p0, p1, p2, p3], .int .i64 3]) ?_ rfl ⟨_, rfl, E.below, by rw [er.out]; exact ⟨_, _, rfl, hP, rfl⟩⟩
        simp [results, Try.results27, go_sem, c0, c1, c2, c3]
      · have h1 : paE (bys sn) = 0 := by omega
        have er : Hid (prsS (bys sn) (bys sd) = (0, 0, 3)) := if_neg (fun h => h2 h.2.1)
        have e1 := hidd h1
        have e2 := hidd h2
        clear h1 h2
        go_upto_region 13 with (fail)
        refine region_fr (C := [Fq.is (.int .i64 (paE (bys sn))), Fq.is (.bool false), Fq.is (.bool false), Fq.is (.int .i64 (paE (bys sd))), Fq.is (.bool true), Fq.is (.bool true)]) (ks := [none, none, none]) (new := []) E rfl (by kernel_rfl) rfl rfl (fun hp => ⟨?_, ?_, ?_, ?_, ?_, ?_, trivial⟩) ?_
        · exact q_move hp (free_of rfl) trivial (sq_out rfl rfl (fun _ _ => rfl))
        · exact q_one (F := fun v _ => v = .int .i64 (paE (bys sn))) hp (free_of rfl) trivial (sq_in 0 rfl rfl (by simp) rfl (fun v w h => h)) (fun ρ w hc h => ⟨.bool false, by simp [execOp, go_sem, h, hc, e1.out], rfl⟩)
        · exact q_move hp (free_of rfl) trivial (sq_in 1 rfl rfl (by simp) rfl (fun v w h => h))
        · exact q_move hp (free_of rfl) (gq_some rfl rfl (by simp) rfl (fun v w h => h)) (sq_out rfl rfl (fun _ _ => rfl))
        · exact q_one (F := fun v _ => v = .int .i64 (paE (bys sd))) hp (free_of rfl) (gq_some rfl rfl (by simp) rfl (fun v w h => h)) (sq_in 3 rfl rfl (by simp) rfl (fun v w h => h)) (fun ρ w hc h => ⟨.bool true, by simp [execOp, go_sem, h, hc, e2.out], rfl⟩)
        · exact q_two (F := fun v _ => v = .bool false) (G := fun v _ => v = .bool true) hp (free_of rfl) trivial (sq_in 2 rfl rfl (by simp) rfl (fun v w h => h)) (sq_in 4 rfl rfl (by simp) rfl (fun v w h => h)) (fun ρ w hc h h' => ⟨_, by simp [execOp, go_sem, h, h'], rfl⟩)
        intro L vs w13 nb hL hC hn E13
        have e0 : vs 0 = .int .i64 (paE (bys sn)) := hC 0 (by simp)
        have e1 : vs 1 = .bool false := hC 1 (by simp)
        have e2 : vs 2 = .bool false := hC 2 (by simp)
        have e3 : vs 3 = .int .i64 (paE (bys sd)) := hC 3 (by simp)
        have e4 : vs 4 = .bool true := hC 4 (by simp)
        have e5 : vs 5 = .bool true := hC 5 (by simp)
        have E : Fr w [(b8_1, 2, Fq.num (paV (bys sd))), (b6_7, 2, Fq.num (paV (bys sn))), (b1, 4, Fq.pair 0 0)] w13 := E13
        rw [lay_all hL]
        simp only [putAll, dstOf, List.length_cons, List.length_nil, Nat.zero_add, Nat.reduceAdd, List.getElem?_toArray, List.getElem?_cons_zero, List.getElem?_cons_succ, Option.bind_some, Act.put, List.setIfInBounds_toArray, List.set_cons_succ, List.set_cons_zero]
        rw [e0, e1, e2, e3, e4, e5]
        clear e0 e1 e2 e3 e4 e5 hC hn E13 hL vs L nb
        clear e1 e2
        go_upto_region 14 with (fail)
        refine region_fr (C := [Fq.pair 0 0, Fq.any, Fq.is (.int .i64 3)]) (ks := [none, none, some (1, Fq.pair 0 0)]) (new := []) E rfl (by kernel_rfl) rfl rfl (fun hp => ⟨?_, ?_, ?_, trivial⟩) ?_
        · exact q_zeroRat hp (free_of rfl) trivial (fun v w h => h)
        · exact q_storeOldRat hp (List.mem_iff_getElem?.2 ⟨2, rfl⟩) rfl rfl (sq_out rfl rfl (fun _ _ => rfl)) (sq_in 0 rfl rfl (by simp) rfl (fun v w h => ratV_pair h)) (fun _ _ => trivial) (newik_ne rfl)
        · exact q_assign hp (free_of rfl) trivial (sq_const (fun _ => rfl))
        intro L vs w14 nb hL hC hn E14
        have e2 : vs 2 = .int .i64 3 := hC 2 (by simp)
        have E : Fr w [(b8_1, 2, Fq.num (paV (bys sd))), (b6_7, 2, Fq.num (paV (bys sn))), (b1, 4, Fq.pair 0 0)] w14 := E14
        rw [lay_all hL]
        simp only [putAll, dstOf, List.length_cons, List.length_nil, Nat.zero_add, Nat.reduceAdd, List.getElem?_toArray, List.getElem?_cons_zero, List.getElem?_cons_succ, Option.bind_some, Act.put, List.setIfInBounds_toArray, List.set_cons_succ, List.set_cons_zero]
        rw [e2]
        generalize vs 0 = u14_0
        clear e2 hC hn E14 hL vs L nb
        clear hS HL HK hpS hn hd
        obtain ⟨p0, p1, p2, p3, c0, c1, c2, c3, hP⟩ := box_pair (E.box 2 rfl)
        clear B7
        go_wp2
        refine bodyPost_ret (v := .tuple #[.agg #[p0, p1, p2, p3], .int .i64 3]) ?_ rfl ⟨_, rfl, E.below, by rw [er.out]; exact ⟨_, _, rfl, hP, rfl⟩⟩
        simp [results, Try.results27, go_sem, c0, c1, c2, c3]

set_option maxRecDepth 100000 in
set_option maxHeartbeats 4000000 in
theorem sp_in (w : World) {s sn sd : ByteArray} {K : Nat} (hS : Hid (Slash (bys s) K)) (hl : s.size ≤ 2601) (hn : Hid (sn = s.extract 0 K)) (hd : Hid (sd = s.extract (K + 1) s.size)) (hK : K + 1 < s.size) :
    Calls Try.prog 27 #[.string s] w fun e w' => ∃ v', e = .returned v' ∧ Below w.heap.size w w' ∧ (Fq.tup2 (Fq.pair (prsS (bys sn) (bys sd)).1 (prsS (bys sn) (bys sd)).2.1) (Fq.is (.int .i64 (prsS (bys sn) (bys sd)).2.2))).P v' w' := by
  obtain ⟨w1, b1, hw1, hb1, hs1, E⟩ := fr_start w (F := Fq.pair 0 0) (us := [.bool false, .slice none 0 0, .bool false, .slice none 0 0]) 31 rfl (by simp) (tame_rat _ _ _ _ _ _ _ _) (Pair.zero _)
  go_enter Try.func27, Try.ntmps27
  go_upto_region 1 with (fail)
  rw [← hw1]
  rw [← hb1]
  clear hw1 hb1 hs1
  have T1 := hidd (show ¬ (2601 : Int) < ((s.size : Nat) : Int) by omega)
  have HL := hidd hl
  have HK := hidd hK
  clear hl hK
  refine region_fr (C := [Fq.is (.string s), Fq.is (.int .i64 ((s.size : Nat) : Int)), Fq.is (.bool false)]) (ks := [none]) (new := []) E rfl (by kernel_rfl) rfl rfl (fun hp => ⟨?_, ?_, ?_, trivial⟩) ?_
  · exact q_move hp (free_of rfl) trivial (sq_out rfl rfl (fun _ _ => rfl))
  · exact q_lenS hp (free_of rfl) trivial (sq_in 0 rfl rfl (by simp) rfl (fun v w h => h)) (fun _ => rfl)
  · exact q_one (F := fun v _ => v = .int .i64 ((s.size : Nat) : Int)) hp (free_of rfl) trivial (sq_in 1 rfl rfl (by simp) rfl (fun v w h => h)) (fun ρ w hc h => ⟨.bool false, by simp [execOp, go_sem, h, hc, T1.out], rfl⟩)
  intro L vs w2 nb hL hC hn E2
  have e0 : vs 0 = .string s := hC 0 (by simp)
  have e1 : vs 1 = .int .i64 ((s.size : Nat) : Int) := hC 1 (by simp)
  have e2 : vs 2 = .bool false := hC 2 (by simp)
  have E : Fr w [(b1, 4, Fq.pair 0 0)] w2 := E2
  rw [lay_all hL]
  simp only [putAll, dstOf, List.length_cons, List.length_nil, Nat.zero_add, Nat.reduceAdd, List.getElem?_toArray, List.getElem?_cons_zero, List.getElem?_cons_succ, Option.bind_some, Act.put, List.setIfInBounds_toArray, List.set_cons_succ, List.set_cons_zero]
  rw [e0, e1, e2]
  clear e0 e1 e2 hC hn E2 hL vs L nb
  clear T1
  go_upto_region 3 with (fail)
  refine region_fr (C := [Fq.is (.string s), Fq.is (.int .i64 ((s.size : Nat) : Int)), Fq.is (.int .i64 ((s.size : Nat) : Int))]) (ks := [none]) (new := []) E rfl (by kernel_rfl) rfl rfl (fun hp => ⟨?_, ?_, ?_, trivial⟩) ?_
  · exact q_move hp (free_of rfl) trivial (sq_out rfl rfl (fun _ _ => rfl))
  · exact q_lenS hp (free_of rfl) trivial (sq_in 0 rfl rfl (by simp) rfl (fun v w h => h)) (fun _ => rfl)
  · exact q_assign hp (free_of rfl) trivial (sq_in 1 rfl rfl (by simp) rfl (fun v w h => h))
  intro L vs w3 nb hL hC hn E3
  have e0 : vs 0 = .string s := hC 0 (by simp)
  have e1 : vs 1 = .int .i64 ((s.size : Nat) : Int) := hC 1 (by simp)
  have e2 : vs 2 = .int .i64 ((s.size : Nat) : Int) := hC 2 (by simp)
  have E : Fr w [(b1, 4, Fq.pair 0 0)] w3 := E3
  rw [lay_all hL]
  simp only [putAll, dstOf, List.length_cons, List.length_nil, Nat.zero_add, Nat.reduceAdd, List.getElem?_toArray, List.getElem?_cons_zero, List.getElem?_cons_succ, Option.bind_some, Act.put, List.setIfInBounds_toArray, List.set_cons_succ, List.set_cons_zero]
  rw [e0, e1, e2]
  clear e0 e1 e2 hC hn E3 hL vs L nb
  go_upto_region 4 with (fail)
  refine region_fr (C := [Fq.is (.int .i64 0)]) (ks := [none]) (new := []) E rfl (by kernel_rfl) rfl rfl (fun hp => ⟨?_, trivial⟩) ?_
  · exact q_assign hp (free_of rfl) trivial (sq_const (fun _ => rfl))
  intro L vs w4 nb hL hC hn E4
  have e0 : vs 0 = .int .i64 0 := hC 0 (by simp)
  have E : Fr w [(b1, 4, Fq.pair 0 0)] w4 := E4
  rw [lay_all hL]
  simp only [putAll, dstOf, List.length_cons, List.length_nil, Nat.zero_add, List.getElem?_toArray, List.getElem?_cons_zero, Option.bind_some, Act.put, List.setIfInBounds_toArray, List.set_cons_succ, List.set_cons_zero]
  rw [e0]
  clear e0 hC hn E4 hL vs L nb
  have HS := hidd E
  go_upto_region 5 with (fail)
  go_loopw [4, 5] (fun va vi W => ∃ p q : Nat, va = .int .i64 (p : Int) ∧ vi = .int .i64 (q : Int) ∧ q ≤ s.size ∧ ((p = s.size ∧ q ≤ K) ∨ (p = K ∧ K < s.size ∧ q = K + 1)) ∧ Fr w [(b1, 4, Fq.pair 0 0)] W) (fun _ vi _ => s.size - (intOf vi).toNat)
  case atStart => exact ⟨s.size, 0, rfl, rfl, Nat.zero_le _, .inl ⟨rfl, Nat.zero_le _⟩, HS.out⟩
  case round =>
    obtain ⟨p, q, rfl, rfl, hq, hc, E⟩ := hrel
    clear HS
    have hK1 := HK.out
    have hL1 := HL.out
    have hll := bys_len s
    rcases hc with ⟨hp, hqK⟩ | ⟨hp, hK2, hq1⟩
    · by_cases hqe : q = K
      · have hqs : q < s.size := by omega
        have hat := bys_at s hqs
        obtain ⟨x, hx⟩ : ∃ x : Int, ((s[q]'hqs).toNat : Int) = x := ⟨_, rfl⟩
        rw [hx] at hat
        obtain rfl : x = 47 := by rw [← hat]; have := hS.out.2.2 (by omega); rwa [show K = q by omega] at this
        subst hp
        have h1 : (q : Int) < (s.size : Int) := by omega
        have hw : wrap64 ((q : Int) + 1) = (q : Int) + 1 := by simp only [wrap64]; omega
        have HQ := hidd hqs
        have HQK := hidd hqK
        have HE : Hid (q = K) := by show _ = _; omega
        clear hat hqK hK1 hll hq hL1 hqe
        go_wp2
        go_roundw
        case rel => exact ⟨q, q + 1, rfl, by first | go_num | (rw [hw]; go_num), by have := HQ.out; omega, .inr ⟨HE.out, by have := HQ.out; have := HE.out; omega, by have := HE.out; omega⟩, E⟩
        case measure => first | exact measW HQ.out | (rw [hw]; exact measW HQ.out)
      · have hqs : q < s.size := by omega
        have hat := bys_at s hqs
        obtain ⟨x, hx⟩ : ∃ x : Int, ((s[q]'hqs).toNat : Int) = x := ⟨_, rfl⟩
        rw [hx] at hat
        have hx47 : ¬ x = 47 := by rw [← hat]; exact hS.out.2.1 q (by omega)
        have hxb : (x == 47) = false := by simpa using hx47
        subst hp
        have h1 : (q : Int) < (s.size : Int) := by omega
        have hw : wrap64 ((q : Int) + 1) = (q : Int) + 1 := by simp only [wrap64]; omega
        have HQ := hidd hqs
        have HQK := hidd hqK
        have HE : Hid (q < K) := by show _ < _; omega
        clear hat hqK hK1 hll hq hL1 hqe
        go_wp2
        go_roundw
        case rel => exact ⟨s.size, q + 1, rfl, by first | go_num | (rw [hw]; go_num), by have := HQ.out; omega, .inl ⟨rfl, by have := HE.out; omega⟩, E⟩
        case measure => first | exact measW HQ.out | (rw [hw]; exact measW HQ.out)
    · subst hp
      subst hq1
      have TL := hidd (show ((p : Nat) : Int) + 1 < ((s.size : Nat) : Int) by omega)
      have TE := hidd (show ¬ ((p : Nat) : Int) = ((s.size : Nat) : Int) by omega)
      clear hK1 hL1 hll hq hK2
      go_upto_region 5 with (fail)
      refine region_fr (C := [Fq.is (.int .i64 ((p + 1 : Nat) : Int)), Fq.is (.string s), Fq.is (.int .i64 ((s.size : Nat) : Int)), Fq.is (.bool true), Fq.is (.bool true), Fq.is (.int .i64 ((p : Nat) : Int)), Fq.is (.string s), Fq.is (.int .i64 ((s.size : Nat) : Int)), Fq.is (.bool false), Fq.is (.bool false)]) (ks := [none]) (new := []) E rfl (by kernel_rfl) rfl rfl (fun hp => ⟨?_, ?_, ?_, ?_, ?_, ?_, ?_, ?_, ?_, ?_, trivial⟩) ?_
      · exact q_move hp (free_of rfl) trivial (sq_out rfl rfl (fun _ _ => rfl))
      · exact q_move hp (free_of rfl) trivial (sq_out rfl rfl (fun _ _ => rfl))
      · exact q_lenS hp (free_of rfl) trivial (sq_in 1 rfl rfl (by simp) rfl (fun v w h => h)) (fun _ => rfl)
      · exact q_two (F := fun v _ => v = .int .i64 ((p + 1 : Nat) : Int)) (G := fun v _ => v = .int .i64 ((s.size : Nat) : Int)) hp (free_of rfl) trivial (sq_in 0 rfl rfl (by simp) rfl (fun v w h => h)) (sq_in 2 rfl rfl (by simp) rfl (fun v w h => h)) (fun ρ w hc h h' => ⟨.bool true, by simp [execOp, go_sem, h, h', TL.out], rfl⟩)
      · exact q_move hp (free_of rfl) trivial (sq_in 3 rfl rfl (by simp) rfl (fun v w h => h))
      · exact q_move hp (free_of rfl) (gq_some rfl rfl (by simp) rfl (fun v w h => h)) (sq_out rfl rfl (fun _ _ => rfl))
      · exact q_move hp (free_of rfl) (gq_some rfl rfl (by simp) rfl (fun v w h => h)) (sq_out rfl rfl (fun _ _ => rfl))
      · exact q_lenS hp (free_of rfl) (gq_some rfl rfl (by simp) rfl (fun v w h => h)) (sq_in 6 rfl rfl (by simp) rfl (fun v w h => h)) (fun _ => rfl)
      · exact q_two (F := fun v _ => v = .int .i64 ((p : Nat) : Int)) (G := fun v _ => v = .int .i64 ((s.size : Nat) : Int)) hp (free_of rfl) (gq_some rfl rfl (by simp) rfl (fun v w h => h)) (sq_in 5 rfl rfl (by simp) rfl (fun v w h => h)) (sq_in 7 rfl rfl (by simp) rfl (fun v w h => h)) (fun ρ w hc h h' => ⟨.bool false, by simp [execOp, go_sem, h, h', TE.out], rfl⟩)
      · exact q_two (F := fun v _ => v = .bool true) (G := fun v _ => v = .bool false) hp (free_of rfl) trivial (sq_in 4 rfl rfl (by simp) rfl (fun v w h => h)) (sq_in 8 rfl rfl (by simp) rfl (fun v w h => h)) (fun ρ w hc h h' => ⟨_, by simp [execOp, go_sem, h, h'], rfl⟩)
      intro L vs w5 nb hL hC hn E5
      have e0 : vs 0 = .int .i64 ((p + 1 : Nat) : Int) := hC 0 (by simp)
      have e1 : vs 1 = .string s := hC 1 (by simp)
      have e2 : vs 2 = .int .i64 ((s.size : Nat) : Int) := hC 2 (by simp)
      have e3 : vs 3 = .bool true := hC 3 (by simp)
      have e4 : vs 4 = .bool true := hC 4 (by simp)
      have e5 : vs 5 = .int .i64 ((p : Nat) : Int) := hC 5 (by simp)
      have e6 : vs 6 = .string s := hC 6 (by simp)
      have e7 : vs 7 = .int .i64 ((s.size : Nat) : Int) := hC 7 (by simp)
      have e8 : vs 8 = .bool false := hC 8 (by simp)
      have e9 : vs 9 = .bool false := hC 9 (by simp)
      have E : Fr w [(b1, 4, Fq.pair 0 0)] w5 := E5
      rw [lay_all hL]
      simp only [putAll, dstOf, List.length_cons, List.length_nil, Nat.zero_add, Nat.reduceAdd, List.getElem?_toArray, List.getElem?_cons_zero, List.getElem?_cons_succ, Option.bind_some, Act.put, List.setIfInBounds_toArray, List.set_cons_succ, List.set_cons_zero]
      rw [e0, e1, e2, e3, e4, e5, e6, e7, e8, e9]
      clear e0 e1 e2 e3 e4 e5 e6 e7 e8 e9 hC hn E5 hL vs L nb
      clear TL TE
      have hpS : Hid (p ≤ s.size) := by have := hS.out.1; rwa [bys_len] at this
      go_upto_region 9 with (fail)
      refine region_fr (C := [Fq.is (.string s), Fq.is (.int .i64 ((p : Nat) : Int)), Fq.is (.string sn), Fq.tup2 (Fq.num (paV (bys sn))) (Fq.is (.int .i64 (paE (bys sn)))), Fq.tup2 (Fq.num (paV (bys sn))) (Fq.is (.int .i64 (paE (bys sn)))), Fq.num (paV (bys sn)), Fq.is (.int .i64 (paE (bys sn))), Fq.any, Fq.any, Fq.is (.int .i64 (paE (bys sn)))]) (ks := [none]) (new := [⟨7, 8, 2, Fq.num 0, Fq.num (paV (bys sn)), none⟩]) E rfl (by kernel_rfl) rfl rfl (fun hp => ⟨?_, ?_, ?_, ?_, ?_, ?_, ?_, ?_, ?_, ?_, trivial⟩) ?_
      · exact q_move hp (free_of rfl) trivial (sq_out rfl rfl (fun _ _ => rfl))
      · exact q_move hp (free_of rfl) trivial (sq_out rfl rfl (fun _ _ => rfl))
      · exact q_sliceTo (s := s) (k := p) hp (free_of rfl) trivial (sq_in 0 rfl rfl (by simp) rfl (fun v w h => h)) (sq_in 1 rfl rfl (by simp) rfl (fun v w h => h)) hpS.out (fun _ => (congrArg Value.string hn.out.symm))
      · exact q_call1 (F := (Fq.is (.string sn)).P) hp (free_of rfl) trivial (enq_R_Parse) (sq_in 2 rfl rfl (by simp) rfl (fun v w h => h)) (fun v w h => (by subst h; exact exRParseU))
      · exact q_move hp (free_of rfl) trivial (sq_in 3 rfl rfl (by simp) rfl (fun v w h => h))
      · exact q_extract2 hp (free_of rfl) trivial (sq_in 4 rfl rfl (by simp) rfl (fun v w h => h)) (fun v1 v2 w h1 h2 => ⟨_, rfl, h1⟩)
      · exact q_extract2 hp (free_of rfl) trivial (sq_in 4 rfl rfl (by simp) rfl (fun v w h => h)) (fun v1 v2 w h1 h2 => ⟨_, rfl, h2⟩)
      · exact q_allocInt hp (List.mem_iff_getElem?.2 ⟨0, rfl⟩) rfl rfl rfl rfl (Nat.ne_of_beq_eq_false rfl) (fun _ _ => trivial) (old_ne rfl) (newk_ne rfl) (fun w => Num.zero w)
      · exact q_storeNewInt hp (List.mem_iff_getElem?.2 ⟨0, rfl⟩) rfl rfl rfl (own_ptr rfl rfl (by simp) rfl) (sq_in 5 rfl rfl (by simp) rfl (fun v w h => intV_num h)) (fun _ _ => trivial) (old_ne rfl) (newi_ne rfl)
      · exact q_assign hp (free_of rfl) trivial (sq_in 6 rfl rfl (by simp) rfl (fun v w h => h))
      intro L vs w6 nb hL hC hn E6
      have e0 : vs 0 = .string s := hC 0 (by simp)
      have e1 : vs 1 = .int .i64 ((p : Nat) : Int) := hC 1 (by simp)
      have e2 : vs 2 = .string sn := hC 2 (by simp)
      have e6 : vs 6 = .int .i64 (paE (bys sn)) := hC 6 (by simp)
      have e9 : vs 9 = .int .i64 (paE (bys sn)) := hC 9 (by simp)
      have e7 : vs 7 = .pointer (some ⟨nb 7, 0, none⟩) := hn _ (List.mem_iff_getElem?.2 ⟨0, rfl⟩)
      have E : Fr w [(nb 7, 2, Fq.num (paV (bys sn))), (b1, 4, Fq.pair 0 0)] w6 := E6
      rw [lay_all hL]
      simp only [putAll, dstOf, List.length_cons, List.length_nil, Nat.zero_add, Nat.reduceAdd, List.getElem?_toArray, List.getElem?_cons_zero, List.getElem?_cons_succ, Option.bind_some, Act.put, List.setIfInBounds_toArray, List.set_cons_succ, List.set_cons_zero]
      rw [e0, e1, e2, e6, e9, e7]
      generalize nb 7 = b6_7 at E ⊢
      generalize vs 3 = u6_3
      generalize vs 4 = u6_4
      generalize vs 5 = u6_5
      clear e0 e1 e2 e6 e9 e7 hC hn E6 hL vs L nb
      go_upto_region 10 with (fail)
      have B7 : Hid (ab ((1)) < pw 3) := ab_lit (by decide)
      refine region_fr (C := [Fq.num (1), Fq.any, Fq.any, Fq.is (.int .i64 0)]) (ks := [none, none]) (new := [⟨1, 2, 2, Fq.num 0, Fq.num (1), none⟩]) E rfl (by kernel_rfl) rfl rfl (fun hp => ⟨?_, ?_, ?_, ?_, trivial⟩) ?_
      · exact q_call1 (F := (Fq.is (.int .i64 1)).P) hp (free_of rfl) trivial (enq_R_Of) (sq_const (fun _ => rfl)) (fun v w h => (by subst h; exact rOfK w (1) (by omega) (by omega)))
      · exact q_allocInt hp (List.mem_iff_getElem?.2 ⟨0, rfl⟩) rfl rfl rfl rfl (Nat.ne_of_beq_eq_false rfl) (fun _ _ => trivial) (old_ne rfl) (newk_ne rfl) (fun w => Num.zero w)
      · exact q_storeNewInt hp (List.mem_iff_getElem?.2 ⟨0, rfl⟩) rfl rfl rfl (own_ptr rfl rfl (by simp) rfl) (sq_in 0 rfl rfl (by simp) rfl (fun v w h => intV_num h)) (fun _ _ => trivial) (old_ne rfl) (newi_ne rfl)
      · exact q_assign hp (free_of rfl) trivial (sq_const (fun _ => rfl))
      intro L vs w8 nb hL hC hn E8
      have e3 : vs 3 = .int .i64 0 := hC 3 (by simp)
      have e1 : vs 1 = .pointer (some ⟨nb 1, 0, none⟩) := hn _ (List.mem_iff_getElem?.2 ⟨0, rfl⟩)
      have E : Fr w [(nb 1, 2, Fq.num (1)), (b6_7, 2, Fq.num (paV (bys sn))), (b1, 4, Fq.pair 0 0)] w8 := E8
      rw [lay_all hL]
      simp only [putAll, dstOf, List.length_cons, List.length_nil, Nat.zero_add, Nat.reduceAdd, List.getElem?_toArray, List.getElem?_cons_zero, List.getElem?_cons_succ, Option.bind_some, Act.put, List.setIfInBounds_toArray, List.set_cons_succ, List.set_cons_zero]
      rw [e3, e1]
      generalize nb 1 = b8_1 at E ⊢
      generalize vs 0 = u8_0
      clear e3 e1 hC hn E8 hL vs L nb
      have TA := hidd (show ((p : Nat) : Int) < ((s.size : Nat) : Int) by have := HK.out; omega)
      go_upto_region 11 with (fail)
      refine region_fr (C := [Fq.is (.int .i64 ((p : Nat) : Int)), Fq.is (.string s), Fq.is (.int .i64 ((s.size : Nat) : Int)), Fq.is (.bool true)]) (ks := [none, none, none]) (new := []) E rfl (by kernel_rfl) rfl rfl (fun hp => ⟨?_, ?_, ?_, ?_, trivial⟩) ?_
      · exact q_move hp (free_of rfl) trivial (sq_out rfl rfl (fun _ _ => rfl))
      · exact q_move hp (free_of rfl) trivial (sq_out rfl rfl (fun _ _ => rfl))
      · exact q_lenS hp (free_of rfl) trivial (sq_in 1 rfl rfl (by simp) rfl (fun v w h => h)) (fun _ => rfl)
      · exact q_two (F := fun v _ => v = .int .i64 ((p : Nat) : Int)) (G := fun v _ => v = .int .i64 ((s.size : Nat) : Int)) hp (free_of rfl) trivial (sq_in 0 rfl rfl (by simp) rfl (fun v w h => h)) (sq_in 2 rfl rfl (by simp) rfl (fun v w h => h)) (fun ρ w hc h h' => ⟨.bool true, by simp [execOp, go_sem, h, h', TA.out], rfl⟩)
      intro L vs w9 nb hL hC hn E9
      have e0 : vs 0 = .int .i64 ((p : Nat) : Int) := hC 0 (by simp)
      have e1 : vs 1 = .string s := hC 1 (by simp)
      have e2 : vs 2 = .int .i64 ((s.size : Nat) : Int) := hC 2 (by simp)
      have e3 : vs 3 = .bool true := hC 3 (by simp)
      have E : Fr w [(b8_1, 2, Fq.num (1)), (b6_7, 2, Fq.num (paV (bys sn))), (b1, 4, Fq.pair 0 0)] w9 := E9
      rw [lay_all hL]
      simp only [putAll, dstOf, List.length_cons, List.length_nil, Nat.zero_add, Nat.reduceAdd, List.getElem?_toArray, List.getElem?_cons_zero, List.getElem?_cons_succ, Option.bind_some, Act.put, List.setIfInBounds_toArray, List.set_cons_succ, List.set_cons_zero]
      rw [e0, e1, e2, e3]
      clear e0 e1 e2 e3 hC hn E9 hL vs L nb
      clear TA
      have TW : Hid (IntKind.i64.wrap (((p : Nat) : Int) + 1) = (((p + 1 : Nat)) : Int)) := IntWalk.i64_in _ (by have := HL.out; have := HK.out; omega)
      go_upto_region 12 with (fail)
      refine region_fr (C := [Fq.is (.string s), Fq.is (.int .i64 ((p : Nat) : Int)), Fq.is (.int .i64 (((p + 1 : Nat)) : Int)), Fq.is (.string sd), Fq.tup2 (Fq.num (paV (bys sd))) (Fq.is (.int .i64 (paE (bys sd)))), Fq.tup2 (Fq.num (paV (bys sd))) (Fq.is (.int .i64 (paE (bys sd)))), Fq.num (paV (bys sd)), Fq.is (.int .i64 (paE (bys sd))), Fq.any, Fq.is (.int .i64 (paE (bys sd)))]) (ks := [some (8, Fq.num (paV (bys sd))), none, none]) (new := []) E rfl (by kernel_rfl) rfl rfl (fun hp => ⟨?_, ?_, ?_, ?_, ?_, ?_, ?_, ?_, ?_, ?_, trivial⟩) ?_
      · exact q_move hp (free_of rfl) trivial (sq_out rfl rfl (fun _ _ => rfl))
      · exact q_move hp (free_of rfl) trivial (sq_out rfl rfl (fun _ _ => rfl))
      · exact q_one (F := fun v _ => v = .int .i64 ((p : Nat) : Int)) hp (free_of rfl) trivial (sq_in 1 rfl rfl (by simp) rfl (fun v w h => h)) (fun ρ w hc h => ⟨.int .i64 (((p + 1 : Nat)) : Int), by simp [execOp, go_sem, h, hc, TW.out], rfl⟩)
      · exact q_sliceFrom (s := s) (k := (p + 1)) hp (free_of rfl) trivial (sq_in 0 rfl rfl (by simp) rfl (fun v w h => h)) (sq_in 2 rfl rfl (by simp) rfl (fun v w h => h)) (by have := HK.out; omega) (fun _ => (congrArg Value.string hd.out.symm))
      · exact q_call1 (F := (Fq.is (.string sd)).P) hp (free_of rfl) trivial (enq_R_Parse) (sq_in 3 rfl rfl (by simp) rfl (fun v w h => h)) (fun v w h => (by subst h; exact exRParseU))
      · exact q_move hp (free_of rfl) trivial (sq_in 4 rfl rfl (by simp) rfl (fun v w h => h))
      · exact q_extract2 hp (free_of rfl) trivial (sq_in 5 rfl rfl (by simp) rfl (fun v w h => h)) (fun v1 v2 w h1 h2 => ⟨_, rfl, h1⟩)
      · exact q_extract2 hp (free_of rfl) trivial (sq_in 5 rfl rfl (by simp) rfl (fun v w h => h)) (fun v1 v2 w h1 h2 => ⟨_, rfl, h2⟩)
      · exact q_storeOldInt hp (List.mem_iff_getElem?.2 ⟨0, rfl⟩) rfl rfl (sq_out rfl rfl (fun _ _ => rfl)) (sq_in 6 rfl rfl (by simp) rfl (fun v w h => intV_num h)) (fun _ _ => trivial) (newik_ne rfl)
      · exact q_assign hp (free_of rfl) trivial (sq_in 7 rfl rfl (by simp) rfl (fun v w h => h))
      intro L vs w10 nb hL hC hn E10
      have e0 : vs 0 = .string s := hC 0 (by simp)
      have e1 : vs 1 = .int .i64 ((p : Nat) : Int) := hC 1 (by simp)
      have e2 : vs 2 = .int .i64 (((p + 1 : Nat)) : Int) := hC 2 (by simp)
      have e3 : vs 3 = .string sd := hC 3 (by simp)
      have e7 : vs 7 = .int .i64 (paE (bys sd)) := hC 7 (by simp)
      have e9 : vs 9 = .int .i64 (paE (bys sd)) := hC 9 (by simp)
      have E : Fr w [(b8_1, 2, Fq.num (paV (bys sd))), (b6_7, 2, Fq.num (paV (bys sn))), (b1, 4, Fq.pair 0 0)] w10 := E10
      rw [lay_all hL]
      simp only [putAll, dstOf, List.length_cons, List.length_nil, Nat.zero_add, Nat.reduceAdd, List.getElem?_toArray, List.getElem?_cons_zero, List.getElem?_cons_succ, Option.bind_some, Act.put, List.setIfInBounds_toArray, List.set_cons_succ, List.set_cons_zero]
      rw [e0, e1, e2, e3, e7, e9]
      generalize vs 4 = u10_4
      generalize vs 5 = u10_5
      generalize vs 6 = u10_6
      clear e0 e1 e2 e3 e7 e9 hC hn E10 hL vs L nb
      clear TW
      have hI := hidd (show p < s.size by have := HK.out; omega)
      by_cases h1 : paE (bys sn) = 0
      · by_cases h2 : paE (bys sd) = 0
        · have e1 := hidd h1
          clear h1
          have e2 := hidd h2
          clear h2
          go_upto_region 13 with (fail)
          refine region_fr (C := [Fq.is (.int .i64 (paE (bys sn))), Fq.is (.bool false), Fq.is (.bool false), Fq.is (.int .i64 (paE (bys sd))), Fq.is (.bool false), Fq.is (.bool false)]) (ks := [none, none, none]) (new := []) E rfl (by kernel_rfl) rfl rfl (fun hp => ⟨?_, ?_, ?_, ?_, ?_, ?_, trivial⟩) ?_
          · exact q_move hp (free_of rfl) trivial (sq_out rfl rfl (fun _ _ => rfl))
          · exact q_one (F := fun v _ => v = .int .i64 (paE (bys sn))) hp (free_of rfl) trivial (sq_in 0 rfl rfl (by simp) rfl (fun v w h => h)) (fun ρ w hc h => ⟨.bool false, by simp [execOp, go_sem, h, hc, e1.out], rfl⟩)
          · exact q_move hp (free_of rfl) trivial (sq_in 1 rfl rfl (by simp) rfl (fun v w h => h))
          · exact q_move hp (free_of rfl) (gq_some rfl rfl (by simp) rfl (fun v w h => h)) (sq_out rfl rfl (fun _ _ => rfl))
          · exact q_one (F := fun v _ => v = .int .i64 (paE (bys sd))) hp (free_of rfl) (gq_some rfl rfl (by simp) rfl (fun v w h => h)) (sq_in 3 rfl rfl (by simp) rfl (fun v w h => h)) (fun ρ w hc h => ⟨.bool false, by simp [execOp, go_sem, h, hc, e2.out], rfl⟩)
          · exact q_two (F := fun v _ => v = .bool false) (G := fun v _ => v = .bool false) hp (free_of rfl) trivial (sq_in 2 rfl rfl (by simp) rfl (fun v w h => h)) (sq_in 4 rfl rfl (by simp) rfl (fun v w h => h)) (fun ρ w hc h h' => ⟨_, by simp [execOp, go_sem, h, h'], rfl⟩)
          intro L vs w11 nb hL hC hn E11
          have e0 : vs 0 = .int .i64 (paE (bys sn)) := hC 0 (by simp)
          have e1 : vs 1 = .bool false := hC 1 (by simp)
          have e2 : vs 2 = .bool false := hC 2 (by simp)
          have e3 : vs 3 = .int .i64 (paE (bys sd)) := hC 3 (by simp)
          have e4 : vs 4 = .bool false := hC 4 (by simp)
          have e5 : vs 5 = .bool false := hC 5 (by simp)
          have E : Fr w [(b8_1, 2, Fq.num (paV (bys sd))), (b6_7, 2, Fq.num (paV (bys sn))), (b1, 4, Fq.pair 0 0)] w11 := E11
          rw [lay_all hL]
          simp only [putAll, dstOf, List.length_cons, List.length_nil, Nat.zero_add, Nat.reduceAdd, List.getElem?_toArray, List.getElem?_cons_zero, List.getElem?_cons_succ, Option.bind_some, Act.put, List.setIfInBounds_toArray, List.set_cons_succ, List.set_cons_zero]
          rw [e0, e1, e2, e3, e4, e5]
          clear e0 e1 e2 e3 e4 e5 hC hn E11 hL vs L nb
          go_upto_region 15 with (fail)
          refine region_fr (C := [Fq.num (paV (bys sn)), Fq.num (paV (bys sd)), Fq.pair (paV (bys sn)) (paV (bys sd)), Fq.any, Fq.any]) (ks := [none, none, none]) (new := [⟨3, 4, 4, Fq.pair 0 0, Fq.pair (paV (bys sn)) (paV (bys sd)), none⟩]) E rfl (by kernel_rfl) rfl rfl (fun hp => ⟨?_, ?_, ?_, ?_, ?_, trivial⟩) ?_
          · exact q_loadInt (off := 0) hp (free_of rfl) trivial (List.mem_iff_getElem?.2 ⟨1, rfl⟩) (.inl rfl) (Nat.le_of_ble_eq_true rfl) (sq_out rfl rfl (fun _ _ => rfl)) (fun us w hl h => ld_num hl h)
          · exact q_loadInt (off := 0) hp (free_of rfl) trivial (List.mem_iff_getElem?.2 ⟨0, rfl⟩) (.inl rfl) (Nat.le_of_ble_eq_true rfl) (sq_out rfl rfl (fun _ _ => rfl)) (fun us w hl h => ld_num hl h)
          · exact q_buildRat (n := (paV (bys sn))) (d0 := (paV (bys sd))) hp (free_of rfl) trivial (sq_in 0 rfl rfl (by simp) rfl (fun v w h => h)) (sq_in 1 rfl rfl (by simp) rfl (fun v w h => h)) (fun v w h => h)
          · exact q_allocRat hp (List.mem_iff_getElem?.2 ⟨0, rfl⟩) rfl rfl rfl rfl (Nat.ne_of_beq_eq_false rfl) (fun _ _ => trivial) (old_ne rfl) (newk_ne rfl) (fun w => Pair.zero w)
          · exact q_storeNewRat hp (List.mem_iff_getElem?.2 ⟨0, rfl⟩) rfl rfl rfl (own_ptr rfl rfl (by simp) rfl) (sq_in 2 rfl rfl (by simp) rfl (fun v w h => ratV_pair h)) (fun _ _ => trivial) (old_ne rfl) (newi_ne rfl)
          intro L vs w12 nb hL hC hn E12
          have e3 : vs 3 = .pointer (some ⟨nb 3, 0, none⟩) := hn _ (List.mem_iff_getElem?.2 ⟨0, rfl⟩)
          have E : Fr w [(nb 3, 4, Fq.pair (paV (bys sn)) (paV (bys sd))), (b8_1, 2, Fq.num (paV (bys sd))), (b6_7, 2, Fq.num (paV (bys sn))), (b1, 4, Fq.pair 0 0)] w12 := E12
          rw [lay_all hL]
          simp only [putAll, dstOf, List.length_cons, List.length_nil, Nat.zero_add, Nat.reduceAdd, List.getElem?_toArray, List.getElem?_cons_zero, List.getElem?_cons_succ, Option.bind_some, Act.put, List.setIfInBounds_toArray, List.set_cons_succ, List.set_cons_zero]
          rw [e3]
          generalize nb 3 = b12_3 at E ⊢
          generalize vs 0 = u12_0
          generalize vs 1 = u12_1
          generalize vs 2 = u12_2
          clear e3 hC hn E12 hL vs L nb
          have TN := paE_0 e1.out
          have TD := paE_0 e2.out
          go_upto_region 16 with (fail)
          refine region_fr (C := [Fq.pair (paV (bys sn)) (paV (bys sd)), Fq.tup2 (Fq.is (.string (bytesOf (pairText (paV (bys sn)) (paV (bys sd)))))) (Fq.is (.int .i64 0)), Fq.tup2 (Fq.is (.string (bytesOf (pairText (paV (bys sn)) (paV (bys sd)))))) (Fq.is (.int .i64 0)), Fq.is (.string (bytesOf (pairText (paV (bys sn)) (paV (bys sd))))), Fq.is (.int .i64 0), Fq.is (.string (bytesOf (pairText (paV (bys sn)) (paV (bys sd))))), Fq.is (.int .i64 0)]) (ks := [none, none, none, none]) (new := []) E rfl (by kernel_rfl) rfl rfl (fun hp => ⟨?_, ?_, ?_, ?_, ?_, ?_, ?_, trivial⟩) ?_
          · exact q_loadRat hp (free_of rfl) trivial (List.mem_iff_getElem?.2 ⟨0, rfl⟩) (.inl rfl) rfl (sq_out rfl rfl (fun _ _ => rfl)) (fun us w hl h => h)
          · exact q_call1 (F := (Fq.pair (paV (bys sn)) (paV (bys sd))).P) hp (free_of rfl) trivial (enq_S_Text) (sq_in 0 rfl rfl (by simp) rfl (fun v w h => h)) (fun v w h => exSTextP h (by rw [TN.2.2]; exact TN.1) (by rw [TD.2.2]; exact TD.1))
          · exact q_move hp (free_of rfl) trivial (sq_in 1 rfl rfl (by simp) rfl (fun v w h => h))
          · exact q_extract2 hp (free_of rfl) trivial (sq_in 2 rfl rfl (by simp) rfl (fun v w h => h)) (fun v1 v2 w h1 h2 => ⟨_, rfl, h1⟩)
          · exact q_extract2 hp (free_of rfl) trivial (sq_in 2 rfl rfl (by simp) rfl (fun v w h => h)) (fun v1 v2 w h1 h2 => ⟨_, rfl, h2⟩)
          · exact q_assign hp (free_of rfl) trivial (sq_in 3 rfl rfl (by simp) rfl (fun v w h => h))
          · exact q_assign hp (free_of rfl) trivial (sq_in 4 rfl rfl (by simp) rfl (fun v w h => h))
          intro L vs w13 nb hL hC hn E13
          have e3 : vs 3 = .string (bytesOf (pairText (paV (bys sn)) (paV (bys sd)))) := hC 3 (by simp)
          have e4 : vs 4 = .int .i64 0 := hC 4 (by simp)
          have e5 : vs 5 = .string (bytesOf (pairText (paV (bys sn)) (paV (bys sd)))) := hC 5 (by simp)
          have e6 : vs 6 = .int .i64 0 := hC 6 (by simp)
          have E : Fr w [(b12_3, 4, Fq.pair (paV (bys sn)) (paV (bys sd))), (b8_1, 2, Fq.num (paV (bys sd))), (b6_7, 2, Fq.num (paV (bys sn))), (b1, 4, Fq.pair 0 0)] w13 := E13
          rw [lay_all hL]
          simp only [putAll, dstOf, List.length_cons, List.length_nil, Nat.zero_add, Nat.reduceAdd, List.getElem?_toArray, List.getElem?_cons_zero, List.getElem?_cons_succ, Option.bind_some, Act.put, List.setIfInBounds_toArray, List.set_cons_succ, List.set_cons_zero]
          rw [e3, e4, e5, e6]
          generalize vs 0 = u13_0
          generalize vs 1 = u13_1
          generalize vs 2 = u13_2
          clear e3 e4 e5 e6 hC hn E13 hL vs L nb
          clear TN TD
          by_cases hv : 0 < (paV (bys sd))
          · by_cases hg : Int.gcd (paV (bys sn)) (paV (bys sd)) = 1
            · by_cases h1 : (paV (bys sd)) = 1
              · have er : Hid (prsS (bys sn) (bys sd) = (0, 0, 3)) := if_neg (fun h => h.2.2.2.2 h1)
                have hv2 := hidd (And.intro hv hg)
                have hx : Hid (((bytesOf (pairText (paV (bys sn)) (paV (bys sd)))).toList == s.toList) = false) := pair_ne h1 (paE_0 e1.out) hn.out hI.out
                clear hv hg h1
                go_upto_region 17 with (fail)
                refine region_fr (C := [Fq.pair (paV (bys sn)) (paV (bys sd)), Fq.is (.bool true), Fq.is (.bool false), Fq.is (.bool false), Fq.is (.int .i64 0), Fq.is (.bool false), Fq.is (.bool false), Fq.is (.bool false), Fq.is (.string (bytesOf (pairText (paV (bys sn)) (paV (bys sd))))), Fq.is (.string s), Fq.is (.bool true), Fq.is (.bool true)]) (ks := [none, none, none, none]) (new := []) E rfl (by kernel_rfl) rfl rfl (fun hp => ⟨?_, ?_, ?_, ?_, ?_, ?_, ?_, ?_, ?_, ?_, ?_, ?_, trivial⟩) ?_
                · exact q_loadRat hp (free_of rfl) trivial (List.mem_iff_getElem?.2 ⟨0, rfl⟩) (.inl rfl) rfl (sq_out rfl rfl (fun _ _ => rfl)) (fun us w hl h => h)
                · exact q_call1 (F := (Fq.pair (paV (bys sn)) (paV (bys sd))).P) hp (free_of rfl) trivial (enq_S_Valid) (sq_in 0 rfl rfl (by simp) rfl (fun v w h => h)) (fun v w h => exSValidT h (Int.lt_of_lt_of_le (paV_ab _) (pw_le (by omega))) (Int.lt_of_lt_of_le (paV_ab _) (pw_le (by omega))) hv2.out.1 hv2.out.2)
                · exact q_one (F := fun v _ => v = .bool true) hp (free_of rfl) trivial (sq_in 1 rfl rfl (by simp) rfl (fun v w h => h)) (fun ρ w _ h => ⟨.bool false, by simp [execOp, go_sem, h], rfl⟩)
                · exact q_move hp (free_of rfl) trivial (sq_in 2 rfl rfl (by simp) rfl (fun v w h => h))
                · exact q_move hp (free_of rfl) (gq_some rfl rfl (by simp) rfl (fun v w h => h)) (sq_out rfl rfl (fun _ _ => rfl))
                · exact q_one (F := fun v _ => v = .int .i64 0) hp (free_of rfl) (gq_some rfl rfl (by simp) rfl (fun v w h => h)) (sq_in 4 rfl rfl (by simp) rfl (fun v w h => h)) (fun ρ w hc h => ⟨.bool false, by simp [execOp, go_sem, h, hc], rfl⟩)
                · exact q_two (F := fun v _ => v = .bool false) (G := fun v _ => v = .bool false) hp (free_of rfl) trivial (sq_in 3 rfl rfl (by simp) rfl (fun v w h => h)) (sq_in 5 rfl rfl (by simp) rfl (fun v w h => h)) (fun ρ w hc h h' => ⟨_, by simp [execOp, go_sem, h, h'], rfl⟩)
                · exact q_move hp (free_of rfl) trivial (sq_in 6 rfl rfl (by simp) rfl (fun v w h => h))
                · exact q_move hp (free_of rfl) (gq_some rfl rfl (by simp) rfl (fun v w h => h)) (sq_out rfl rfl (fun _ _ => rfl))
                · exact q_move hp (free_of rfl) (gq_some rfl rfl (by simp) rfl (fun v w h => h)) (sq_out rfl rfl (fun _ _ => rfl))
                · exact q_two (F := fun v _ => v = .string (bytesOf (pairText (paV (bys sn)) (paV (bys sd))))) (G := fun v _ => v = .string s) hp (free_of rfl) (gq_some rfl rfl (by simp) rfl (fun v w h => h)) (sq_in 8 rfl rfl (by simp) rfl (fun v w h => h)) (sq_in 9 rfl rfl (by simp) rfl (fun v w h => h)) (fun ρ w hc h h' => ⟨.bool true, by simp [execOp, go_sem, h, h', hx.out], rfl⟩)
                · exact q_two (F := fun v _ => v = .bool false) (G := fun v _ => v = .bool true) hp (free_of rfl) trivial (sq_in 7 rfl rfl (by simp) rfl (fun v w h => h)) (sq_in 10 rfl rfl (by simp) rfl (fun v w h => h)) (fun ρ w hc h h' => ⟨_, by simp [execOp, go_sem, h, h'], rfl⟩)
                intro L vs w14 nb hL hC hn E14
                have e1 : vs 1 = .bool true := hC 1 (by simp)
                have e2 : vs 2 = .bool false := hC 2 (by simp)
                have e3 : vs 3 = .bool false := hC 3 (by simp)
                have e4 : vs 4 = .int .i64 0 := hC 4 (by simp)
                have e5 : vs 5 = .bool false := hC 5 (by simp)
                have e6 : vs 6 = .bool false := hC 6 (by simp)
                have e7 : vs 7 = .bool false := hC 7 (by simp)
                have e8 : vs 8 = .string (bytesOf (pairText (paV (bys sn)) (paV (bys sd)))) := hC 8 (by simp)
                have e9 : vs 9 = .string s := hC 9 (by simp)
                have e10 : vs 10 = .bool true := hC 10 (by simp)
                have e11 : vs 11 = .bool true := hC 11 (by simp)
                have E : Fr w [(b12_3, 4, Fq.pair (paV (bys sn)) (paV (bys sd))), (b8_1, 2, Fq.num (paV (bys sd))), (b6_7, 2, Fq.num (paV (bys sn))), (b1, 4, Fq.pair 0 0)] w14 := E14
                rw [lay_all hL]
                simp only [putAll, dstOf, List.length_cons, List.length_nil, Nat.zero_add, Nat.reduceAdd, List.getElem?_toArray, List.getElem?_cons_zero, List.getElem?_cons_succ, Option.bind_some, Act.put, List.setIfInBounds_toArray, List.set_cons_succ, List.set_cons_zero]
                rw [e1, e2, e3, e4, e5, e6, e7, e8, e9, e10, e11]
                generalize vs 0 = u14_0
                clear e1 e2 e3 e4 e5 e6 e7 e8 e9 e10 e11 hC hn E14 hL vs L nb
                clear e1 e2 hv2 hx
                go_upto_region 18 with (fail)
                refine region_fr (C := [Fq.pair 0 0, Fq.any, Fq.is (.int .i64 3)]) (ks := [none, none, none, some (1, Fq.pair 0 0)]) (new := []) E rfl (by kernel_rfl) rfl rfl (fun hp => ⟨?_, ?_, ?_, trivial⟩) ?_
                · exact q_zeroRat hp (free_of rfl) trivial (fun v w h => h)
                · exact q_storeOldRat hp (List.mem_iff_getElem?.2 ⟨3, rfl⟩) rfl rfl (sq_out rfl rfl (fun _ _ => rfl)) (sq_in 0 rfl rfl (by simp) rfl (fun v w h => ratV_pair h)) (fun _ _ => trivial) (newik_ne rfl)
                · exact q_assign hp (free_of rfl) trivial (sq_const (fun _ => rfl))
                intro L vs w15 nb hL hC hn E15
                have e2 : vs 2 = .int .i64 3 := hC 2 (by simp)
                have E : Fr w [(b12_3, 4, Fq.pair (paV (bys sn)) (paV (bys sd))), (b8_1, 2, Fq.num (paV (bys sd))), (b6_7, 2, Fq.num (paV (bys sn))), (b1, 4, Fq.pair 0 0)] w15 := E15
                rw [lay_all hL]
                simp only [putAll, dstOf, List.length_cons, List.length_nil, Nat.zero_add, Nat.reduceAdd, List.getElem?_toArray, List.getElem?_cons_zero, List.getElem?_cons_succ, Option.bind_some, Act.put, List.setIfInBounds_toArray, List.set_cons_succ, List.set_cons_zero]
                rw [e2]
                generalize vs 0 = u15_0
                clear e2 hC hn E15 hL vs L nb
                clear hS HL HK hpS hn hd
                obtain ⟨p0, p1, p2, p3, c0, c1, c2, c3, hP⟩ := box_pair (E.box 3 rfl)
                clear B7
                go_wp2
                refine bodyPost_ret (v := .tuple #[.agg #[p0, p1, p2, p3], .int .i64 3]) ?_ rfl ⟨_, rfl, E.below, by rw [er.out]; exact ⟨_, _, rfl, hP, rfl⟩⟩
                simp [results, Try.results27, go_sem, c0, c1, c2, c3]
              · have er : Hid (prsS (bys sn) (bys sd) = ((paV (bys sn)), (paV (bys sd)), 0)) := if_pos ⟨e1.out, e2.out, hv, hg, h1⟩
                have hv2 := hidd (And.intro hv hg)
                have hx : Hid (((bytesOf (pairText (paV (bys sn)) (paV (bys sd)))).toList == s.toList) = true) := pair_eq h1 (paE_0 e1.out) (paE_0 e2.out) hn.out hd.out hS.out hI.out
                clear hv hg h1
                go_upto_region 17 with (fail)
                refine region_fr (C := [Fq.pair (paV (bys sn)) (paV (bys sd)), Fq.is (.bool true), Fq.is (.bool false), Fq.is (.bool false), Fq.is (.int .i64 0), Fq.is (.bool false), Fq.is (.bool false), Fq.is (.bool false), Fq.is (.string (bytesOf (pairText (paV (bys sn)) (paV (bys sd))))), Fq.is (.string s), Fq.is (.bool false), Fq.is (.bool false)]) (ks := [none, none, none, none]) (new := []) E rfl (by kernel_rfl) rfl rfl (fun hp => ⟨?_, ?_, ?_, ?_, ?_, ?_, ?_, ?_, ?_, ?_, ?_, ?_, trivial⟩) ?_
                · exact q_loadRat hp (free_of rfl) trivial (List.mem_iff_getElem?.2 ⟨0, rfl⟩) (.inl rfl) rfl (sq_out rfl rfl (fun _ _ => rfl)) (fun us w hl h => h)
                · exact q_call1 (F := (Fq.pair (paV (bys sn)) (paV (bys sd))).P) hp (free_of rfl) trivial (enq_S_Valid) (sq_in 0 rfl rfl (by simp) rfl (fun v w h => h)) (fun v w h => exSValidT h (Int.lt_of_lt_of_le (paV_ab _) (pw_le (by omega))) (Int.lt_of_lt_of_le (paV_ab _) (pw_le (by omega))) hv2.out.1 hv2.out.2)
                · exact q_one (F := fun v _ => v = .bool true) hp (free_of rfl) trivial (sq_in 1 rfl rfl (by simp) rfl (fun v w h => h)) (fun ρ w _ h => ⟨.bool false, by simp [execOp, go_sem, h], rfl⟩)
                · exact q_move hp (free_of rfl) trivial (sq_in 2 rfl rfl (by simp) rfl (fun v w h => h))
                · exact q_move hp (free_of rfl) (gq_some rfl rfl (by simp) rfl (fun v w h => h)) (sq_out rfl rfl (fun _ _ => rfl))
                · exact q_one (F := fun v _ => v = .int .i64 0) hp (free_of rfl) (gq_some rfl rfl (by simp) rfl (fun v w h => h)) (sq_in 4 rfl rfl (by simp) rfl (fun v w h => h)) (fun ρ w hc h => ⟨.bool false, by simp [execOp, go_sem, h, hc], rfl⟩)
                · exact q_two (F := fun v _ => v = .bool false) (G := fun v _ => v = .bool false) hp (free_of rfl) trivial (sq_in 3 rfl rfl (by simp) rfl (fun v w h => h)) (sq_in 5 rfl rfl (by simp) rfl (fun v w h => h)) (fun ρ w hc h h' => ⟨_, by simp [execOp, go_sem, h, h'], rfl⟩)
                · exact q_move hp (free_of rfl) trivial (sq_in 6 rfl rfl (by simp) rfl (fun v w h => h))
                · exact q_move hp (free_of rfl) (gq_some rfl rfl (by simp) rfl (fun v w h => h)) (sq_out rfl rfl (fun _ _ => rfl))
                · exact q_move hp (free_of rfl) (gq_some rfl rfl (by simp) rfl (fun v w h => h)) (sq_out rfl rfl (fun _ _ => rfl))
                · exact q_two (F := fun v _ => v = .string (bytesOf (pairText (paV (bys sn)) (paV (bys sd))))) (G := fun v _ => v = .string s) hp (free_of rfl) (gq_some rfl rfl (by simp) rfl (fun v w h => h)) (sq_in 8 rfl rfl (by simp) rfl (fun v w h => h)) (sq_in 9 rfl rfl (by simp) rfl (fun v w h => h)) (fun ρ w hc h h' => ⟨.bool false, by simp [execOp, go_sem, h, h', hx.out], rfl⟩)
                · exact q_two (F := fun v _ => v = .bool false) (G := fun v _ => v = .bool false) hp (free_of rfl) trivial (sq_in 7 rfl rfl (by simp) rfl (fun v w h => h)) (sq_in 10 rfl rfl (by simp) rfl (fun v w h => h)) (fun ρ w hc h h' => ⟨_, by simp [execOp, go_sem, h, h'], rfl⟩)
                intro L vs w16 nb hL hC hn E16
                have e1 : vs 1 = .bool true := hC 1 (by simp)
                have e2 : vs 2 = .bool false := hC 2 (by simp)
                have e3 : vs 3 = .bool false := hC 3 (by simp)
                have e4 : vs 4 = .int .i64 0 := hC 4 (by simp)
                have e5 : vs 5 = .bool false := hC 5 (by simp)
                have e6 : vs 6 = .bool false := hC 6 (by simp)
                have e7 : vs 7 = .bool false := hC 7 (by simp)
                have e8 : vs 8 = .string (bytesOf (pairText (paV (bys sn)) (paV (bys sd)))) := hC 8 (by simp)
                have e9 : vs 9 = .string s := hC 9 (by simp)
                have e10 : vs 10 = .bool false := hC 10 (by simp)
                have e11 : vs 11 = .bool false := hC 11 (by simp)
                have E : Fr w [(b12_3, 4, Fq.pair (paV (bys sn)) (paV (bys sd))), (b8_1, 2, Fq.num (paV (bys sd))), (b6_7, 2, Fq.num (paV (bys sn))), (b1, 4, Fq.pair 0 0)] w16 := E16
                rw [lay_all hL]
                simp only [putAll, dstOf, List.length_cons, List.length_nil, Nat.zero_add, Nat.reduceAdd, List.getElem?_toArray, List.getElem?_cons_zero, List.getElem?_cons_succ, Option.bind_some, Act.put, List.setIfInBounds_toArray, List.set_cons_succ, List.set_cons_zero]
                rw [e1, e2, e3, e4, e5, e6, e7, e8, e9, e10, e11]
                generalize vs 0 = u16_0
                clear e1 e2 e3 e4 e5 e6 e7 e8 e9 e10 e11 hC hn E16 hL vs L nb
                clear e1 e2 hv2 hx
                go_upto_region 19 with (fail)
                refine region_fr (C := [Fq.pair (paV (bys sn)) (paV (bys sd)), Fq.any, Fq.is (.int .i64 0)]) (ks := [none, none, none, some (1, Fq.pair (paV (bys sn)) (paV (bys sd)))]) (new := []) E rfl (by kernel_rfl) rfl rfl (fun hp => ⟨?_, ?_, ?_, trivial⟩) ?_
                · exact q_loadRat hp (free_of rfl) trivial (List.mem_iff_getElem?.2 ⟨0, rfl⟩) (.inl rfl) rfl (sq_out rfl rfl (fun _ _ => rfl)) (fun us w hl h => h)
                · exact q_storeOldRat hp (List.mem_iff_getElem?.2 ⟨3, rfl⟩) rfl rfl (sq_out rfl rfl (fun _ _ => rfl)) (sq_in 0 rfl rfl (by simp) rfl (fun v w h => ratV_pair h)) (fun _ _ => trivial) (newik_ne rfl)
                · exact q_assign hp (free_of rfl) trivial (sq_const (fun _ => rfl))
                intro L vs w17 nb hL hC hn E17
                have e2 : vs 2 = .int .i64 0 := hC 2 (by simp)
                have E : Fr w [(b12_3, 4, Fq.pair (paV (bys sn)) (paV (bys sd))), (b8_1, 2, Fq.num (paV (bys sd))), (b6_7, 2, Fq.num (paV (bys sn))), (b1, 4, Fq.pair (paV (bys sn)) (paV (bys sd)))] w17 := E17
                rw [lay_all hL]
                simp only [putAll, dstOf, List.length_cons, List.length_nil, Nat.zero_add, Nat.reduceAdd, List.getElem?_toArray, List.getElem?_cons_zero, List.getElem?_cons_succ, Option.bind_some, Act.put, List.setIfInBounds_toArray, List.set_cons_succ, List.set_cons_zero]
                rw [e2]
                generalize vs 0 = u17_0
                clear e2 hC hn E17 hL vs L nb
                clear hS HL HK hpS hn hd
                obtain ⟨p0, p1, p2, p3, c0, c1, c2, c3, hP⟩ := box_pair (E.box 3 rfl)
                clear B7
                go_wp2
                refine bodyPost_ret (v := .tuple #[.agg #[p0, p1, p2, p3], .int .i64 0]) ?_ rfl ⟨_, rfl, E.below, by rw [er.out]; exact ⟨_, _, rfl, hP, rfl⟩⟩
                simp [results, Try.results27, go_sem, c0, c1, c2, c3]
            · have er : Hid (prsS (bys sn) (bys sd) = (0, 0, 3)) := if_neg (fun h => hg h.2.2.2.1)
              have hv2 := hidd hv
              have hg2 := hidd hg
              clear hv hg
              go_upto_region 17 with (fail)
              refine region_fr (C := [Fq.pair (paV (bys sn)) (paV (bys sd)), Fq.is (.bool false), Fq.is (.bool true), Fq.is (.bool true), Fq.is (undef), Fq.is (undef), Fq.is (.bool true), Fq.is (.bool true), Fq.is (undef), Fq.is (undef), Fq.is (undef), Fq.is (.bool true)]) (ks := [none, none, none, none]) (new := []) E rfl (by kernel_rfl) rfl rfl (fun hp => ⟨?_, ?_, ?_, ?_, ?_, ?_, ?_, ?_, ?_, ?_, ?_, ?_, trivial⟩) ?_
              · exact q_loadRat hp (free_of rfl) trivial (List.mem_iff_getElem?.2 ⟨0, rfl⟩) (.inl rfl) rfl (sq_out rfl rfl (fun _ _ => rfl)) (fun us w hl h => h)
              · exact q_call1 (F := (Fq.pair (paV (bys sn)) (paV (bys sd))).P) hp (free_of rfl) trivial (enq_S_Valid) (sq_in 0 rfl rfl (by simp) rfl (fun v w h => h)) (fun v w h => exSValidG h (Int.lt_of_lt_of_le (paV_ab _) (pw_le (by omega))) (Int.lt_of_lt_of_le (paV_ab _) (pw_le (by omega))) hv2.out hg2.out)
              · exact q_one (F := fun v _ => v = .bool false) hp (free_of rfl) trivial (sq_in 1 rfl rfl (by simp) rfl (fun v w h => h)) (fun ρ w _ h => ⟨.bool true, by simp [execOp, go_sem, h], rfl⟩)
              · exact q_move hp (free_of rfl) trivial (sq_in 2 rfl rfl (by simp) rfl (fun v w h => h))
              · exact q_skip hp (free_of rfl) rfl (gq_some rfl rfl (by simp) rfl (fun v w h => h)) (fun _ => rfl)
              · exact q_skip hp (free_of rfl) rfl (gq_some rfl rfl (by simp) rfl (fun v w h => h)) (fun _ => rfl)
              · exact q_two (F := fun v _ => v = .bool true) (G := fun v _ => v = .bool true) hp (free_of rfl) trivial (sq_in 3 rfl rfl (by simp) rfl (fun v w h => h)) (sq_const (fun _ => rfl)) (fun ρ w hc h h' => ⟨_, by simp [execOp, go_sem, h, h'], rfl⟩)
              · exact q_move hp (free_of rfl) trivial (sq_in 6 rfl rfl (by simp) rfl (fun v w h => h))
              · exact q_skip hp (free_of rfl) rfl (gq_some rfl rfl (by simp) rfl (fun v w h => h)) (fun _ => rfl)
              · exact q_skip hp (free_of rfl) rfl (gq_some rfl rfl (by simp) rfl (fun v w h => h)) (fun _ => rfl)
              · exact q_skip hp (free_of rfl) rfl (gq_some rfl rfl (by simp) rfl (fun v w h => h)) (fun _ => rfl)
              · exact q_two (F := fun v _ => v = .bool true) (G := fun v _ => v = .bool true) hp (free_of rfl) trivial (sq_in 7 rfl rfl (by simp) rfl (fun v w h => h)) (sq_const (fun _ => rfl)) (fun ρ w hc h h' => ⟨_, by simp [execOp, go_sem, h, h'], rfl⟩)
              intro L vs w18 nb hL hC hn E18
              have e1 : vs 1 = .bool false := hC 1 (by simp)
              have e2 : vs 2 = .bool true := hC 2 (by simp)
              have e3 : vs 3 = .bool true := hC 3 (by simp)
              have e4 : vs 4 = undef := hC 4 (by simp)
              have e5 : vs 5 = undef := hC 5 (by simp)
              have e6 : vs 6 = .bool true := hC 6 (by simp)
              have e7 : vs 7 = .bool true := hC 7 (by simp)
              have e8 : vs 8 = undef := hC 8 (by simp)
              have e9 : vs 9 = undef := hC 9 (by simp)
              have e10 : vs 10 = undef := hC 10 (by simp)
              have e11 : vs 11 = .bool true := hC 11 (by simp)
              have E : Fr w [(b12_3, 4, Fq.pair (paV (bys sn)) (paV (bys sd))), (b8_1, 2, Fq.num (paV (bys sd))), (b6_7, 2, Fq.num (paV (bys sn))), (b1, 4, Fq.pair 0 0)] w18 := E18
              rw [lay_all hL]
              simp only [putAll, dstOf, List.length_cons, List.length_nil, Nat.zero_add, Nat.reduceAdd, List.getElem?_toArray, List.getElem?_cons_zero, List.getElem?_cons_succ, Option.bind_some, Act.put, List.setIfInBounds_toArray, List.set_cons_succ, List.set_cons_zero]
              rw [e1, e2, e3, e4, e5, e6, e7, e8, e9, e10, e11]
              generalize vs 0 = u18_0
              clear e1 e2 e3 e4 e5 e6 e7 e8 e9 e10 e11 hC hn E18 hL vs L nb
              clear e1 e2 hv2 hg2
              go_upto_region 18 with (fail)
              refine region_fr (C := [Fq.pair 0 0, Fq.any, Fq.is (.int .i64 3)]) (ks := [none, none, none, some (1, Fq.pair 0 0)]) (new := []) E rfl (by kernel_rfl) rfl rfl (fun hp => ⟨?_, ?_, ?_, trivial⟩) ?_
              · exact q_zeroRat hp (free_of rfl) trivial (fun v w h => h)
              · exact q_storeOldRat hp (List.mem_iff_getElem?.2 ⟨3, rfl⟩) rfl rfl (sq_out rfl rfl (fun _ _ => rfl)) (sq_in 0 rfl rfl (by simp) rfl (fun v w h => ratV_pair h)) (fun _ _ => trivial) (newik_ne rfl)
              · exact q_assign hp (free_of rfl) trivial (sq_const (fun _ => rfl))
              intro L vs w19 nb hL hC hn E19
              have e2 : vs 2 = .int .i64 3 := hC 2 (by simp)
              have E : Fr w [(b12_3, 4, Fq.pair (paV (bys sn)) (paV (bys sd))), (b8_1, 2, Fq.num (paV (bys sd))), (b6_7, 2, Fq.num (paV (bys sn))), (b1, 4, Fq.pair 0 0)] w19 := E19
              rw [lay_all hL]
              simp only [putAll, dstOf, List.length_cons, List.length_nil, Nat.zero_add, Nat.reduceAdd, List.getElem?_toArray, List.getElem?_cons_zero, List.getElem?_cons_succ, Option.bind_some, Act.put, List.setIfInBounds_toArray, List.set_cons_succ, List.set_cons_zero]
              rw [e2]
              generalize vs 0 = u19_0
              clear e2 hC hn E19 hL vs L nb
              clear hS HL HK hpS hn hd
              obtain ⟨p0, p1, p2, p3, c0, c1, c2, c3, hP⟩ := box_pair (E.box 3 rfl)
              clear B7
              go_wp2
              refine bodyPost_ret (v := .tuple #[.agg #[p0, p1, p2, p3], .int .i64 3]) ?_ rfl ⟨_, rfl, E.below, by rw [er.out]; exact ⟨_, _, rfl, hP, rfl⟩⟩
              simp [results, Try.results27, go_sem, c0, c1, c2, c3]
          · have er : Hid (prsS (bys sn) (bys sd) = (0, 0, 3)) := if_neg (fun h => hv h.2.2.1)
            have hv2 : Hid (paV (bys sd) ≤ 0) := by show _ ≤ _; omega
            clear hv
            go_upto_region 17 with (fail)
            refine region_fr (C := [Fq.pair (paV (bys sn)) (paV (bys sd)), Fq.is (.bool false), Fq.is (.bool true), Fq.is (.bool true), Fq.is (undef), Fq.is (undef), Fq.is (.bool true), Fq.is (.bool true), Fq.is (undef), Fq.is (undef), Fq.is (undef), Fq.is (.bool true)]) (ks := [none, none, none, none]) (new := []) E rfl (by kernel_rfl) rfl rfl (fun hp => ⟨?_, ?_, ?_, ?_, ?_, ?_, ?_, ?_, ?_, ?_, ?_, ?_, trivial⟩) ?_
            · exact q_loadRat hp (free_of rfl) trivial (List.mem_iff_getElem?.2 ⟨0, rfl⟩) (.inl rfl) rfl (sq_out rfl rfl (fun _ _ => rfl)) (fun us w hl h => h)
            · exact q_call1 (F := (Fq.pair (paV (bys sn)) (paV (bys sd))).P) hp (free_of rfl) trivial (enq_S_Valid) (sq_in 0 rfl rfl (by simp) rfl (fun v w h => h)) (fun v w h => exSValidN h (by have := hv2.out; omega))
            · exact q_one (F := fun v _ => v = .bool false) hp (free_of rfl) trivial (sq_in 1 rfl rfl (by simp) rfl (fun v w h => h)) (fun ρ w _ h => ⟨.bool true, by simp [execOp, go_sem, h], rfl⟩)
            · exact q_move hp (free_of rfl) trivial (sq_in 2 rfl rfl (by simp) rfl (fun v w h => h))
            · exact q_skip hp (free_of rfl) rfl (gq_some rfl rfl (by simp) rfl (fun v w h => h)) (fun _ => rfl)
            · exact q_skip hp (free_of rfl) rfl (gq_some rfl rfl (by simp) rfl (fun v w h => h)) (fun _ => rfl)
            · exact q_two (F := fun v _ => v = .bool true) (G := fun v _ => v = .bool true) hp (free_of rfl) trivial (sq_in 3 rfl rfl (by simp) rfl (fun v w h => h)) (sq_const (fun _ => rfl)) (fun ρ w hc h h' => ⟨_, by simp [execOp, go_sem, h, h'], rfl⟩)
            · exact q_move hp (free_of rfl) trivial (sq_in 6 rfl rfl (by simp) rfl (fun v w h => h))
            · exact q_skip hp (free_of rfl) rfl (gq_some rfl rfl (by simp) rfl (fun v w h => h)) (fun _ => rfl)
            · exact q_skip hp (free_of rfl) rfl (gq_some rfl rfl (by simp) rfl (fun v w h => h)) (fun _ => rfl)
            · exact q_skip hp (free_of rfl) rfl (gq_some rfl rfl (by simp) rfl (fun v w h => h)) (fun _ => rfl)
            · exact q_two (F := fun v _ => v = .bool true) (G := fun v _ => v = .bool true) hp (free_of rfl) trivial (sq_in 7 rfl rfl (by simp) rfl (fun v w h => h)) (sq_const (fun _ => rfl)) (fun ρ w hc h h' => ⟨_, by simp [execOp, go_sem, h, h'], rfl⟩)
            intro L vs w20 nb hL hC hn E20
            have e1 : vs 1 = .bool false := hC 1 (by simp)
            have e2 : vs 2 = .bool true := hC 2 (by simp)
            have e3 : vs 3 = .bool true := hC 3 (by simp)
            have e4 : vs 4 = undef := hC 4 (by simp)
            have e5 : vs 5 = undef := hC 5 (by simp)
            have e6 : vs 6 = .bool true := hC 6 (by simp)
            have e7 : vs 7 = .bool true := hC 7 (by simp)
            have e8 : vs 8 = undef := hC 8 (by simp)
            have e9 : vs 9 = undef := hC 9 (by simp)
            have e10 : vs 10 = undef := hC 10 (by simp)
            have e11 : vs 11 = .bool true := hC 11 (by simp)
            have E : Fr w [(b12_3, 4, Fq.pair (paV (bys sn)) (paV (bys sd))), (b8_1, 2, Fq.num (paV (bys sd))), (b6_7, 2, Fq.num (paV (bys sn))), (b1, 4, Fq.pair 0 0)] w20 := E20
            rw [lay_all hL]
            simp only [putAll, dstOf, List.length_cons, List.length_nil, Nat.zero_add, Nat.reduceAdd, List.getElem?_toArray, List.getElem?_cons_zero, List.getElem?_cons_succ, Option.bind_some, Act.put, List.setIfInBounds_toArray, List.set_cons_succ, List.set_cons_zero]
            rw [e1, e2, e3, e4, e5, e6, e7, e8, e9, e10, e11]
            generalize vs 0 = u20_0
            clear e1 e2 e3 e4 e5 e6 e7 e8 e9 e10 e11 hC hn E20 hL vs L nb
            clear e1 e2 hv2
            go_upto_region 18 with (fail)
            refine region_fr (C := [Fq.pair 0 0, Fq.any, Fq.is (.int .i64 3)]) (ks := [none, none, none, some (1, Fq.pair 0 0)]) (new := []) E rfl (by kernel_rfl) rfl rfl (fun hp => ⟨?_, ?_, ?_, trivial⟩) ?_
            · exact q_zeroRat hp (free_of rfl) trivial (fun v w h => h)
            · exact q_storeOldRat hp (List.mem_iff_getElem?.2 ⟨3, rfl⟩) rfl rfl (sq_out rfl rfl (fun _ _ => rfl)) (sq_in 0 rfl rfl (by simp) rfl (fun v w h => ratV_pair h)) (fun _ _ => trivial) (newik_ne rfl)
            · exact q_assign hp (free_of rfl) trivial (sq_const (fun _ => rfl))
            intro L vs w21 nb hL hC hn E21
            have e2 : vs 2 = .int .i64 3 := hC 2 (by simp)
            have E : Fr w [(b12_3, 4, Fq.pair (paV (bys sn)) (paV (bys sd))), (b8_1, 2, Fq.num (paV (bys sd))), (b6_7, 2, Fq.num (paV (bys sn))), (b1, 4, Fq.pair 0 0)] w21 := E21
            rw [lay_all hL]
            simp only [putAll, dstOf, List.length_cons, List.length_nil, Nat.zero_add, Nat.reduceAdd, List.getElem?_toArray, List.getElem?_cons_zero, List.getElem?_cons_succ, Option.bind_some, Act.put, List.setIfInBounds_toArray, List.set_cons_succ, List.set_cons_zero]
            rw [e2]
            generalize vs 0 = u21_0
            clear e2 hC hn E21 hL vs L nb
            clear hS HL HK hpS hn hd
            obtain ⟨p0, p1, p2, p3, c0, c1, c2, c3, hP⟩ := box_pair (E.box 3 rfl)
            clear B7
            go_wp2
            refine bodyPost_ret (v := .tuple #[.agg #[p0, p1, p2, p3], .int .i64 3]) ?_ rfl ⟨_, rfl, E.below, by rw [er.out]; exact ⟨_, _, rfl, hP, rfl⟩⟩
            simp [results, Try.results27, go_sem, c0, c1, c2, c3]
        · have er : Hid (prsS (bys sn) (bys sd) = (0, 0, 3)) := if_neg (fun h => h2 h.2.1)
          have e1 := hidd h1
          have e2 := hidd h2
          clear h1 h2
          go_upto_region 13 with (fail)
          refine region_fr (C := [Fq.is (.int .i64 (paE (bys sn))), Fq.is (.bool false), Fq.is (.bool false), Fq.is (.int .i64 (paE (bys sd))), Fq.is (.bool true), Fq.is (.bool true)]) (ks := [none, none, none]) (new := []) E rfl (by kernel_rfl) rfl rfl (fun hp => ⟨?_, ?_, ?_, ?_, ?_, ?_, trivial⟩) ?_
          · exact q_move hp (free_of rfl) trivial (sq_out rfl rfl (fun _ _ => rfl))
          · exact q_one (F := fun v _ => v = .int .i64 (paE (bys sn))) hp (free_of rfl) trivial (sq_in 0 rfl rfl (by simp) rfl (fun v w h => h)) (fun ρ w hc h => ⟨.bool false, by simp [execOp, go_sem, h, hc, e1.out], rfl⟩)
          · exact q_move hp (free_of rfl) trivial (sq_in 1 rfl rfl (by simp) rfl (fun v w h => h))
          · exact q_move hp (free_of rfl) (gq_some rfl rfl (by simp) rfl (fun v w h => h)) (sq_out rfl rfl (fun _ _ => rfl))
          · exact q_one (F := fun v _ => v = .int .i64 (paE (bys sd))) hp (free_of rfl) (gq_some rfl rfl (by simp) rfl (fun v w h => h)) (sq_in 3 rfl rfl (by simp) rfl (fun v w h => h)) (fun ρ w hc h => ⟨.bool true, by simp [execOp, go_sem, h, hc, e2.out], rfl⟩)
          · exact q_two (F := fun v _ => v = .bool false) (G := fun v _ => v = .bool true) hp (free_of rfl) trivial (sq_in 2 rfl rfl (by simp) rfl (fun v w h => h)) (sq_in 4 rfl rfl (by simp) rfl (fun v w h => h)) (fun ρ w hc h h' => ⟨_, by simp [execOp, go_sem, h, h'], rfl⟩)
          intro L vs w22 nb hL hC hn E22
          have e0 : vs 0 = .int .i64 (paE (bys sn)) := hC 0 (by simp)
          have e1 : vs 1 = .bool false := hC 1 (by simp)
          have e2 : vs 2 = .bool false := hC 2 (by simp)
          have e3 : vs 3 = .int .i64 (paE (bys sd)) := hC 3 (by simp)
          have e4 : vs 4 = .bool true := hC 4 (by simp)
          have e5 : vs 5 = .bool true := hC 5 (by simp)
          have E : Fr w [(b8_1, 2, Fq.num (paV (bys sd))), (b6_7, 2, Fq.num (paV (bys sn))), (b1, 4, Fq.pair 0 0)] w22 := E22
          rw [lay_all hL]
          simp only [putAll, dstOf, List.length_cons, List.length_nil, Nat.zero_add, Nat.reduceAdd, List.getElem?_toArray, List.getElem?_cons_zero, List.getElem?_cons_succ, Option.bind_some, Act.put, List.setIfInBounds_toArray, List.set_cons_succ, List.set_cons_zero]
          rw [e0, e1, e2, e3, e4, e5]
          clear e0 e1 e2 e3 e4 e5 hC hn E22 hL vs L nb
          clear e1 e2
          go_upto_region 14 with (fail)
          refine region_fr (C := [Fq.pair 0 0, Fq.any, Fq.is (.int .i64 3)]) (ks := [none, none, some (1, Fq.pair 0 0)]) (new := []) E rfl (by kernel_rfl) rfl rfl (fun hp => ⟨?_, ?_, ?_, trivial⟩) ?_
          · exact q_zeroRat hp (free_of rfl) trivial (fun v w h => h)
          · exact q_storeOldRat hp (List.mem_iff_getElem?.2 ⟨2, rfl⟩) rfl rfl (sq_out rfl rfl (fun _ _ => rfl)) (sq_in 0 rfl rfl (by simp) rfl (fun v w h => ratV_pair h)) (fun _ _ => trivial) (newik_ne rfl)
          · exact q_assign hp (free_of rfl) trivial (sq_const (fun _ => rfl))
          intro L vs w23 nb hL hC hn E23
          have e2 : vs 2 = .int .i64 3 := hC 2 (by simp)
          have E : Fr w [(b8_1, 2, Fq.num (paV (bys sd))), (b6_7, 2, Fq.num (paV (bys sn))), (b1, 4, Fq.pair 0 0)] w23 := E23
          rw [lay_all hL]
          simp only [putAll, dstOf, List.length_cons, List.length_nil, Nat.zero_add, Nat.reduceAdd, List.getElem?_toArray, List.getElem?_cons_zero, List.getElem?_cons_succ, Option.bind_some, Act.put, List.setIfInBounds_toArray, List.set_cons_succ, List.set_cons_zero]
          rw [e2]
          generalize vs 0 = u23_0
          clear e2 hC hn E23 hL vs L nb
          clear hS HL HK hpS hn hd
          obtain ⟨p0, p1, p2, p3, c0, c1, c2, c3, hP⟩ := box_pair (E.box 2 rfl)
          clear B7
          go_wp2
          refine bodyPost_ret (v := .tuple #[.agg #[p0, p1, p2, p3], .int .i64 3]) ?_ rfl ⟨_, rfl, E.below, by rw [er.out]; exact ⟨_, _, rfl, hP, rfl⟩⟩
          simp [results, Try.results27, go_sem, c0, c1, c2, c3]
      · have er : Hid (prsS (bys sn) (bys sd) = (0, 0, 3)) := if_neg (fun h => h1 h.1)
        have e1 := hidd h1
        clear h1
        go_upto_region 13 with (fail)
        refine region_fr (C := [Fq.is (.int .i64 (paE (bys sn))), Fq.is (.bool true), Fq.is (.bool true), Fq.is (undef), Fq.is (undef), Fq.is (.bool true)]) (ks := [none, none, none]) (new := []) E rfl (by kernel_rfl) rfl rfl (fun hp => ⟨?_, ?_, ?_, ?_, ?_, ?_, trivial⟩) ?_
        · exact q_move hp (free_of rfl) trivial (sq_out rfl rfl (fun _ _ => rfl))
        · exact q_one (F := fun v _ => v = .int .i64 (paE (bys sn))) hp (free_of rfl) trivial (sq_in 0 rfl rfl (by simp) rfl (fun v w h => h)) (fun ρ w hc h => ⟨.bool true, by simp [execOp, go_sem, h, hc, e1.out], rfl⟩)
        · exact q_move hp (free_of rfl) trivial (sq_in 1 rfl rfl (by simp) rfl (fun v w h => h))
        · exact q_skip hp (free_of rfl) rfl (gq_some rfl rfl (by simp) rfl (fun v w h => h)) (fun _ => rfl)
        · exact q_skip hp (free_of rfl) rfl (gq_some rfl rfl (by simp) rfl (fun v w h => h)) (fun _ => rfl)
        · exact q_two (F := fun v _ => v = .bool true) (G := fun v _ => v = .bool true) hp (free_of rfl) trivial (sq_in 2 rfl rfl (by simp) rfl (fun v w h => h)) (sq_const (fun _ => rfl)) (fun ρ w hc h h' => ⟨_, by simp [execOp, go_sem, h, h'], rfl⟩)
        intro L vs w24 nb hL hC hn E24
        have e0 : vs 0 = .int .i64 (paE (bys sn)) := hC 0 (by simp)
        have e1 : vs 1 = .bool true := hC 1 (by simp)
        have e2 : vs 2 = .bool true := hC 2 (by simp)
        have e3 : vs 3 = undef := hC 3 (by simp)
        have e4 : vs 4 = undef := hC 4 (by simp)
        have e5 : vs 5 = .bool true := hC 5 (by simp)
        have E : Fr w [(b8_1, 2, Fq.num (paV (bys sd))), (b6_7, 2, Fq.num (paV (bys sn))), (b1, 4, Fq.pair 0 0)] w24 := E24
        rw [lay_all hL]
        simp only [putAll, dstOf, List.length_cons, List.length_nil, Nat.zero_add, Nat.reduceAdd, List.getElem?_toArray, List.getElem?_cons_zero, List.getElem?_cons_succ, Option.bind_some, Act.put, List.setIfInBounds_toArray, List.set_cons_succ, List.set_cons_zero]
        rw [e0, e1, e2, e3, e4, e5]
        clear e0 e1 e2 e3 e4 e5 hC hn E24 hL vs L nb
        clear e1
        go_upto_region 14 with (fail)
        refine region_fr (C := [Fq.pair 0 0, Fq.any, Fq.is (.int .i64 3)]) (ks := [none, none, some (1, Fq.pair 0 0)]) (new := []) E rfl (by kernel_rfl) rfl rfl (fun hp => ⟨?_, ?_, ?_, trivial⟩) ?_
        · exact q_zeroRat hp (free_of rfl) trivial (fun v w h => h)
        · exact q_storeOldRat hp (List.mem_iff_getElem?.2 ⟨2, rfl⟩) rfl rfl (sq_out rfl rfl (fun _ _ => rfl)) (sq_in 0 rfl rfl (by simp) rfl (fun v w h => ratV_pair h)) (fun _ _ => trivial) (newik_ne rfl)
        · exact q_assign hp (free_of rfl) trivial (sq_const (fun _ => rfl))
        intro L vs w25 nb hL hC hn E25
        have e2 : vs 2 = .int .i64 3 := hC 2 (by simp)
        have E : Fr w [(b8_1, 2, Fq.num (paV (bys sd))), (b6_7, 2, Fq.num (paV (bys sn))), (b1, 4, Fq.pair 0 0)] w25 := E25
        rw [lay_all hL]
        simp only [putAll, dstOf, List.length_cons, List.length_nil, Nat.zero_add, Nat.reduceAdd, List.getElem?_toArray, List.getElem?_cons_zero, List.getElem?_cons_succ, Option.bind_some, Act.put, List.setIfInBounds_toArray, List.set_cons_succ, List.set_cons_zero]
        rw [e2]
        generalize vs 0 = u25_0
        clear e2 hC hn E25 hL vs L nb
        clear hS HL HK hpS hn hd
        obtain ⟨p0, p1, p2, p3, c0, c1, c2, c3, hP⟩ := box_pair (E.box 2 rfl)
        clear B7
        go_wp2
        refine bodyPost_ret (v := .tuple #[.agg #[p0, p1, p2, p3], .int .i64 3]) ?_ rfl ⟨_, rfl, E.below, by rw [er.out]; exact ⟨_, _, rfl, hP, rfl⟩⟩
        simp [results, Try.results27, go_sem, c0, c1, c2, c3]

end Go.Proofs.Ytlehjhlihahjhaa

/- What is read from a string is the same in the code and in the reference; texts are read as what they are. -/
namespace Go.Proofs.Ytlehjhlihahjhaa
open Go Go.RowKit

theorem exQParse {w : World} {s : ByteArray} {K : Nat} (hS : Slash (bys s) K) : Calls Try.prog 26 #[.string s] w fun e w' => ∃ v', e = .returned v' ∧ Below w.heap.size w w' ∧ (Fq.tup2 (Fq.pair (prs (bys s) K).1 (prs (bys s) K).2.1) (Fq.is (.int .i64 (prs (bys s) K).2.2))).P v' w' := by
  have hl := bys_len s
  unfold prs
  by_cases h0 : 2601 < s.size
  · rw [if_pos (by omega)]
    exact qp_big w h0
  · rw [if_neg (by omega)]
    by_cases hK : K < s.size
    · rw [if_pos (by omega)]
      obtain ⟨sn, hn⟩ : ∃ sn, sn = s.extract 0 K := ⟨_, rfl⟩
      obtain ⟨sd, hd⟩ : ∃ sd, sd = s.extract (K + 1) s.size := ⟨_, rfl⟩
      have en : (bys s).take K = bys sn := by rw [hn, take_cut]
      have ed : (bys s).drop (K + 1) = bys sd := by rw [hd, drop_cut]
      rw [en, ed]
      by_cases e1 : paE (bys sn) = 0
      · by_cases e2 : paE (bys sd) = 0
        · by_cases hv : 0 < paV (bys sd)
          · by_cases hg : Int.gcd (paV (bys sn)) (paV (bys sd)) = 1
            · by_cases h1 : paV (bys sd) = 1
              · rw [if_neg (fun h => h.2.2.2.2 h1)]
                exact qp_1 w hS (by omega) hK hn hd e1 e2 ⟨hv, hg⟩ h1
              · rw [if_pos ⟨e1, e2, hv, hg, h1⟩]
                exact qp_ok w hS (by omega) hK hn hd e1 e2 ⟨hv, hg⟩ h1
            · rw [if_neg (fun h => hg h.2.2.2.1)]
              exact qp_g w hS (by omega) hK hn hd e1 e2 ⟨hv, hg⟩
          · rw [if_neg (fun h => hv h.2.2.1)]
            exact qp_n w hS (by omega) hK hn hd e1 e2 (show paV (bys sd) ≤ 0 by omega)
        · rw [if_neg (fun h => e2 h.2.1)]
          exact qp_b w hS (by omega) hK hn hd e1 e2
      · rw [if_neg (fun h => e1 h.1)]
        exact qp_a w hS (by omega) hK hn hd e1
    · rw [if_neg (by omega)]
      by_cases e1 : paE (bys s) = 0
      · rw [if_pos e1]
        have h := qp_nok w hS (by omega) hK e1 pa_1.1 (show _ ∧ _ by rw [pa_1.2]; exact ⟨by decide, by rw [Int.gcd_one]⟩)
        rw [pa_1.2] at h
        exact h
      · rw [if_neg e1]
        exact qp_na w hS (by omega) hK e1

theorem exSParse {w : World} {s : ByteArray} {K : Nat} (hS : Slash (bys s) K) : Calls Try.prog 27 #[.string s] w fun e w' => ∃ v', e = .returned v' ∧ Below w.heap.size w w' ∧ (Fq.tup2 (Fq.pair (prs (bys s) K).1 (prs (bys s) K).2.1) (Fq.is (.int .i64 (prs (bys s) K).2.2))).P v' w' := by
  have hl := bys_len s
  unfold prs
  by_cases h0 : 2601 < s.size
  · rw [if_pos (by omega)]
    exact sp_big w h0
  · rw [if_neg (by omega)]
    obtain ⟨sn, hn⟩ : ∃ sn, sn = s.extract 0 K := ⟨_, rfl⟩
    have en : (bys s).take K = bys sn := by rw [hn, take_cut]
    by_cases hK : K < s.size
    · rw [if_pos (by omega)]
      obtain ⟨sd, hd⟩ : ∃ sd, sd = s.extract (K + 1) s.size := ⟨_, rfl⟩
      have ed : (bys s).drop (K + 1) = bys sd := by rw [hd, drop_cut]
      rw [en, ed]
      by_cases hE : K + 1 = s.size
      · exact sp_end w hS (by omega) hn hd hE
      · exact sp_in w hS (by omega) hn hd (by omega)
    · rw [if_neg (by omega)]
      have hKs : K = s.size := by have := hS.1; omega
      have es : bys s = bys sn := by rw [← en, List.take_of_length_le (by omega)]
      rw [es]
      exact sp_none w hS (by omega) hn hKs

/-- What is read has this text. -/
theorem prs_good {T : List Int} {K : Nat} (hS : Slash T K) {n d : Int} (h : prs T K = (n, d, 0)) : (intText n).length ≤ 1300 ∧ (intText d).length ≤ 1300 ∧ pairText n d = T := by
  unfold prs at h
  split at h
  · simp at h
  · split at h
    · rename_i hK
      split at h
      · rename_i hc
        obtain ⟨e1, e2, _, _, h1⟩ := hc
        simp only [Prod.mk.injEq] at h
        obtain ⟨rfl, rfl, _⟩ := h
        have t1 := paE_0 e1
        have t2 := paE_0 e2
        refine ⟨by rw [t1.2.2]; exact t1.1, by rw [t2.2.2]; exact t2.1, ?_⟩
        unfold pairText
        rw [if_neg h1, t1.2.2, t2.2.2]
        exact slash_split hS hK
      · simp at h
    · split at h
      · rename_i e1
        simp only [Prod.mk.injEq] at h
        obtain ⟨rfl, rfl, _⟩ := h
        have t1 := paE_0 e1
        refine ⟨by rw [t1.2.2]; exact t1.1, by rw [text_1]; decide, ?_⟩
        unfold pairText
        rw [if_pos rfl, t1.2.2]
      · simp at h

theorem text_no47 (z : Int) : ∀ x ∈ intText z, x ≠ 47 := by
  intro x hx
  unfold intText at hx
  split at hx
  · rcases List.mem_cons.1 hx with h | h
    · omega
    · have := sizeText_dig _ x h; omega
  · have := sizeText_dig _ x hx; omega

theorem getD_mem {l : List Int} {j : Nat} (h : j < l.length) : l.getD j 0 ∈ l := by
  have e : l.getD j 0 = l[j] := by simp [List.getD, h]
  rw [e]
  exact List.getElem_mem _

theorem pair_range (n d : Int) : ∀ x ∈ pairText n d, 0 ≤ x ∧ x < 256 := by
  unfold pairText
  split
  · exact text_range n
  · intro x hx
    rcases List.mem_append.1 hx with h | h
    · exact text_range n x h
    · rcases List.mem_cons.1 h with h | h
      · omega
      · exact text_range d x h

/-- A fraction's text is read as it. -/
theorem prs_rat {a : Rat} {K : Nat} (ha : Rb a 6) (hS : Slash (pairText a.num a.den) K) : prs (pairText a.num a.den) K = (a.num, (a.den : Int), 0) := by
  have l1 := text_len ha.1
  have l2 := text_len ha.2
  have p1 := pa_text (z := a.num) (by omega)
  have p2 := pa_text (z := (a.den : Int)) (by omega)
  by_cases h1 : (a.den : Int) = 1
  · have hT : pairText a.num a.den = intText a.num := if_pos h1
    rw [hT] at hS ⊢
    have hK : K = (intText a.num).length := slash_uniq hS ⟨Nat.le_refl _, fun j hj => text_no47 _ _ (getD_mem hj), fun h => absurd h (by omega)⟩
    unfold prs
    rw [if_neg (by omega), if_neg (by omega), if_pos p1.1, p1.2, h1]
  · have hT : pairText a.num a.den = intText a.num ++ 47 :: intText (a.den : Int) := if_neg h1
    rw [hT] at hS ⊢
    have hK : K = (intText a.num).length := slash_uniq hS ⟨by simp, fun j hj => by
      have e : (intText a.num ++ 47 :: intText (a.den : Int)).getD j 0 = (intText a.num).getD j 0 := by simp [List.getD, List.getElem?_append_left hj]
      rw [e]
      exact text_no47 _ _ (getD_mem hj), fun _ => by simp⟩
    have e1 : (intText a.num ++ 47 :: intText (a.den : Int)).take K = intText a.num := by rw [hK, List.take_left]
    have e2 : (intText a.num ++ 47 :: intText (a.den : Int)).drop (K + 1) = intText (a.den : Int) := by
      rw [hK, List.drop_append]
      simp
    have hlen : (intText a.num ++ 47 :: intText (a.den : Int)).length = (intText a.num).length + ((intText (a.den : Int)).length + 1) := by simp
    unfold prs
    rw [e1, e2, if_neg (by omega), if_pos (by omega), if_pos ⟨p1.1, p2.1, by rw [p2.2]; exact den_pos a, by rw [p1.2, p2.2]; exact rat_cop a, by rw [p2.2]; exact h1⟩, p1.2, p2.2]

end Go.Proofs.Ytlehjhlihahjhaa

/- Walk of the law on texts of fractions. -/
namespace Go.Proofs.Ytlehjhlihahjhaa
open Go Go.RowKit

set_option maxRecDepth 100000 in
set_option maxHeartbeats 4000000 in
theorem RationalTexts_any (w : World) (n1 : Bool) (a1 : Option Addr) (k1 c1 : Nat) (xs1 : List Int) (m1 : Bool) (r1 : Option Addr) (l1 q1 : Nat) (ys1 : List Int) (h1 : Sl w a1 k1 c1 xs1) (g1 : Sl w r1 l1 q1 ys1) (hk1 : k1 ≤ 9223372036854775807) (hl1 : l1 ≤ 9223372036854775807) (s : ByteArray) :
    Calls Try.prog 6 #[.agg #[.bool n1, .slice a1 k1 c1, .bool m1, .slice r1 l1 q1], .string s] w fun e w' => e = .returned (.bool true) ∧ Below w.heap.size w w' := by
  obtain ⟨a, ha⟩ : ∃ a, a = madeQ n1 xs1 ys1 m1 6 := ⟨_, rfl⟩
  have Ba : Hid (Rb a 6) := by rw [ha]; exact made_rb h1.digs g1.digs (by omega)
  have Ha := hidd ha
  have K1 := hidd hk1
  have L1 := hidd hl1
  clear ha hk1 hl1
  obtain ⟨t, ht⟩ : ∃ t, t = bytesOf (pairText a.num (a.den : Int)) := ⟨_, rfl⟩
  have hbt : bys t = pairText a.num (a.den : Int) := by rw [ht, bys_bytesOf (pair_range _ _)]
  obtain ⟨J, hJ⟩ := slash_ex (bys t)
  have PT : Hid (prs (bys t) J = (a.num, (a.den : Int), 0)) := by show _ = _; rw [hbt] at hJ ⊢; exact prs_rat Ba.out hJ
  have HJ := hidd hJ
  have HT := hidd ht
  clear hbt hJ ht
  have la : Hid ((intText a.num).length ≤ 1300) := by have := text_len Ba.out.1; show _ ≤ _; omega
  have lb : Hid ((intText (a.den : Int)).length ≤ 1300) := by have := text_len Ba.out.2; show _ ≤ _; omega
  obtain ⟨K, hS⟩ := slash_ex (bys s)
  obtain ⟨pn, pd, er, hP⟩ : ∃ pn pd er, prs (bys s) K = (pn, pd, er) := ⟨_, _, _, rfl⟩
  have HS := hidd hS
  have HP := hidd hP
  clear hS hP
  obtain ⟨w1, b1, hw1, hb1, hs1, E⟩ := fr_start w (F := Fq.raw2 n1 a1 k1 c1 xs1 m1 r1 l1 q1 ys1) (us := [.bool n1, .slice a1 k1 c1, .bool m1, .slice r1 l1 q1]) 26 rfl (by simp) (tame_rat _ _ _ _ _ _ _ _) (show (Fq.raw2 n1 a1 k1 c1 xs1 m1 r1 l1 q1 ys1).P _ w from ⟨rfl, h1, g1⟩)
  go_enter Try.func6, Try.ntmps6
  go_upto_region 1 with (fail)
  rw [← hw1]
  rw [← hb1]
  clear hw1 hb1 hs1
  refine region_fr (C := [Fq.is (.bool true), Fq.is (.bool true)]) (ks := [none]) (new := []) E rfl (by kernel_rfl) rfl rfl (fun hp => ⟨?_, ?_, trivial⟩) ?_
  · exact q_call0 hp (free_of rfl) trivial (enq_K_examples) (fun w => exExamples w)
  · exact q_assign hp (free_of rfl) trivial (sq_in 0 rfl rfl (by simp) rfl (fun v w h => h))
  intro L vs w2 nb hL hC hn E2
  have e0 : vs 0 = .bool true := hC 0 (by simp)
  have e1 : vs 1 = .bool true := hC 1 (by simp)
  have E : Fr w [(b1, 4, Fq.raw2 n1 a1 k1 c1 xs1 m1 r1 l1 q1 ys1)] w2 := E2
  rw [lay_all hL]
  simp only [putAll, dstOf, List.length_cons, List.length_nil, Nat.zero_add, Nat.reduceAdd, List.getElem?_toArray, List.getElem?_cons_zero, List.getElem?_cons_succ, Option.bind_some, Act.put, List.setIfInBounds_toArray, List.set_cons_succ, List.set_cons_zero]
  rw [e0, e1]
  clear e0 e1 hC hn E2 hL vs L nb
  go_upto_region 2 with (fail)
  refine region_fr (C := [Fq.is (.bool true), Fq.is (.bool false)]) (ks := [none]) (new := []) E rfl (by kernel_rfl) rfl rfl (fun hp => ⟨?_, ?_, trivial⟩) ?_
  · exact q_move hp (free_of rfl) trivial (sq_out rfl rfl (fun _ _ => rfl))
  · exact q_one (F := fun v _ => v = .bool true) hp (free_of rfl) trivial (sq_in 0 rfl rfl (by simp) rfl (fun v w h => h)) (fun ρ w _ h => ⟨.bool false, by simp [execOp, go_sem, h], rfl⟩)
  intro L vs w3 nb hL hC hn E3
  have e0 : vs 0 = .bool true := hC 0 (by simp)
  have e1 : vs 1 = .bool false := hC 1 (by simp)
  have E : Fr w [(b1, 4, Fq.raw2 n1 a1 k1 c1 xs1 m1 r1 l1 q1 ys1)] w3 := E3
  rw [lay_all hL]
  simp only [putAll, dstOf, List.length_cons, List.length_nil, Nat.zero_add, Nat.reduceAdd, List.getElem?_toArray, List.getElem?_cons_zero, List.getElem?_cons_succ, Option.bind_some, Act.put, List.setIfInBounds_toArray, List.set_cons_succ, List.set_cons_zero]
  rw [e0, e1]
  clear e0 e1 hC hn E3 hL vs L nb
  by_cases hc : 3000 < s.size
  · have TC : Hid ((3000 : Int) < ((s.size : Nat) : Int)) := by show _ < _; omega
    clear hc
    go_upto_region 4 with (fail)
    refine region_fr (C := [Fq.is (.string s), Fq.is (.int .i64 ((s.size : Nat) : Int)), Fq.is (.bool true)]) (ks := [none]) (new := []) E rfl (by kernel_rfl) rfl rfl (fun hp => ⟨?_, ?_, ?_, trivial⟩) ?_
    · exact q_move hp (free_of rfl) trivial (sq_out rfl rfl (fun _ _ => rfl))
    · exact q_lenS hp (free_of rfl) trivial (sq_in 0 rfl rfl (by simp) rfl (fun v w h => h)) (fun _ => rfl)
    · exact q_one (F := fun v _ => v = .int .i64 ((s.size : Nat) : Int)) hp (free_of rfl) trivial (sq_in 1 rfl rfl (by simp) rfl (fun v w h => h)) (fun ρ w hc h => ⟨.bool true, by simp [execOp, go_sem, h, hc, TC.out], rfl⟩)
    intro L vs w4 nb hL hC hn E4
    have e0 : vs 0 = .string s := hC 0 (by simp)
    have e1 : vs 1 = .int .i64 ((s.size : Nat) : Int) := hC 1 (by simp)
    have e2 : vs 2 = .bool true := hC 2 (by simp)
    have E : Fr w [(b1, 4, Fq.raw2 n1 a1 k1 c1 xs1 m1 r1 l1 q1 ys1)] w4 := E4
    rw [lay_all hL]
    simp only [putAll, dstOf, List.length_cons, List.length_nil, Nat.zero_add, Nat.reduceAdd, List.getElem?_toArray, List.getElem?_cons_zero, List.getElem?_cons_succ, Option.bind_some, Act.put, List.setIfInBounds_toArray, List.set_cons_succ, List.set_cons_zero]
    rw [e0, e1, e2]
    clear e0 e1 e2 hC hn E4 hL vs L nb
    clear TC
    go_upto_region 5 with (fail)
    refine region_fr (C := [Fq.is (.bool true), Fq.is (.bool true)]) (ks := [none]) (new := []) E rfl (by kernel_rfl) rfl rfl (fun hp => ⟨?_, ?_, trivial⟩) ?_
    · exact q_move hp (free_of rfl) trivial (sq_out rfl rfl (fun _ _ => rfl))
    · exact q_assign hp (free_of rfl) trivial (sq_in 0 rfl rfl (by simp) rfl (fun v w h => h))
    intro L vs w5 nb hL hC hn E5
    have e0 : vs 0 = .bool true := hC 0 (by simp)
    have e1 : vs 1 = .bool true := hC 1 (by simp)
    have E : Fr w [(b1, 4, Fq.raw2 n1 a1 k1 c1 xs1 m1 r1 l1 q1 ys1)] w5 := E5
    rw [lay_all hL]
    simp only [putAll, dstOf, List.length_cons, List.length_nil, Nat.zero_add, Nat.reduceAdd, List.getElem?_toArray, List.getElem?_cons_zero, List.getElem?_cons_succ, Option.bind_some, Act.put, List.setIfInBounds_toArray, List.set_cons_succ, List.set_cons_zero]
    rw [e0, e1]
    clear e0 e1 hC hn E5 hL vs L nb
    clear Ba
    go_wp2
    refine bodyPost_ret (v := .bool true) ?_ rfl ⟨rfl, E.below⟩
    simp [results, Try.results6, go_sem]
  · have TC : Hid (¬ (3000 : Int) < ((s.size : Nat) : Int)) := by show ¬ _; omega
    clear hc
    go_upto_region 4 with (fail)
    refine region_fr (C := [Fq.is (.string s), Fq.is (.int .i64 ((s.size : Nat) : Int)), Fq.is (.bool false)]) (ks := [none]) (new := []) E rfl (by kernel_rfl) rfl rfl (fun hp => ⟨?_, ?_, ?_, trivial⟩) ?_
    · exact q_move hp (free_of rfl) trivial (sq_out rfl rfl (fun _ _ => rfl))
    · exact q_lenS hp (free_of rfl) trivial (sq_in 0 rfl rfl (by simp) rfl (fun v w h => h)) (fun _ => rfl)
    · exact q_one (F := fun v _ => v = .int .i64 ((s.size : Nat) : Int)) hp (free_of rfl) trivial (sq_in 1 rfl rfl (by simp) rfl (fun v w h => h)) (fun ρ w hc h => ⟨.bool false, by simp [execOp, go_sem, h, hc, TC.out], rfl⟩)
    intro L vs w6 nb hL hC hn E6
    have e0 : vs 0 = .string s := hC 0 (by simp)
    have e1 : vs 1 = .int .i64 ((s.size : Nat) : Int) := hC 1 (by simp)
    have e2 : vs 2 = .bool false := hC 2 (by simp)
    have E : Fr w [(b1, 4, Fq.raw2 n1 a1 k1 c1 xs1 m1 r1 l1 q1 ys1)] w6 := E6
    rw [lay_all hL]
    simp only [putAll, dstOf, List.length_cons, List.length_nil, Nat.zero_add, Nat.reduceAdd, List.getElem?_toArray, List.getElem?_cons_zero, List.getElem?_cons_succ, Option.bind_some, Act.put, List.setIfInBounds_toArray, List.set_cons_succ, List.set_cons_zero]
    rw [e0, e1, e2]
    clear e0 e1 e2 hC hn E6 hL vs L nb
    clear TC
    go_upto_region 6 with (fail)
    refine region_fr (C := [Fq.raw2 n1 a1 k1 c1 xs1 m1 r1 l1 q1 ys1, Fq.pair a.num (a.den : Int), Fq.any, Fq.any]) (ks := [none]) (new := [⟨2, 3, 4, Fq.pair 0 0, Fq.pair a.num (a.den : Int), none⟩]) E rfl (by kernel_rfl) rfl rfl (fun hp => ⟨?_, ?_, ?_, ?_, trivial⟩) ?_
    · exact q_loadRaw2 hp (free_of rfl) trivial (List.mem_iff_getElem?.2 ⟨0, rfl⟩) (.inl rfl) rfl (sq_out rfl rfl (fun _ _ => rfl)) (fun us w hl h => h)
    · exact q_call2 (F := (Fq.raw2 n1 a1 k1 c1 xs1 m1 r1 l1 q1 ys1).P) (G := (Fq.is (.int .i64 6)).P) hp (free_of rfl) trivial (enq_S_Made) (sq_in 0 rfl rfl (by simp) rfl (fun v w h => h)) (sq_const (fun _ => rfl)) (fun v v' w h h' => (by obtain ⟨rfl, s1, s2⟩ := h; subst h'; rw [Ha.out]; exact exSMade (j := 6) s1 s2 K1.out L1.out (by omega)))
    · exact q_allocRat hp (List.mem_iff_getElem?.2 ⟨0, rfl⟩) rfl rfl rfl rfl (Nat.ne_of_beq_eq_false rfl) (fun _ _ => trivial) (old_ne rfl) (newk_ne rfl) (fun w => Pair.zero w)
    · exact q_storeNewRat hp (List.mem_iff_getElem?.2 ⟨0, rfl⟩) rfl rfl rfl (own_ptr rfl rfl (by simp) rfl) (sq_in 1 rfl rfl (by simp) rfl (fun v w h => ratV_pair h)) (fun _ _ => trivial) (old_ne rfl) (newi_ne rfl)
    intro L vs w7 nb hL hC hn E7
    have e2 : vs 2 = .pointer (some ⟨nb 2, 0, none⟩) := hn _ (List.mem_iff_getElem?.2 ⟨0, rfl⟩)
    have E : Fr w [(nb 2, 4, Fq.pair a.num (a.den : Int)), (b1, 4, Fq.raw2 n1 a1 k1 c1 xs1 m1 r1 l1 q1 ys1)] w7 := E7
    rw [lay_all hL]
    simp only [putAll, dstOf, List.length_cons, List.length_nil, Nat.zero_add, Nat.reduceAdd, List.getElem?_toArray, List.getElem?_cons_zero, List.getElem?_cons_succ, Option.bind_some, Act.put, List.setIfInBounds_toArray, List.set_cons_succ, List.set_cons_zero]
    rw [e2]
    generalize nb 2 = b7_2 at E ⊢
    generalize vs 0 = u7_0
    generalize vs 1 = u7_1
    clear e2 hC hn E7 hL vs L nb
    go_upto_region 7 with (fail)
    refine region_fr (C := [Fq.pair a.num (a.den : Int), Fq.tup2 (Fq.is (.string t)) (Fq.is (.int .i64 0)), Fq.tup2 (Fq.is (.string t)) (Fq.is (.int .i64 0)), Fq.is (.string t), Fq.is (.int .i64 0), Fq.is (.string t), Fq.is (.int .i64 0)]) (ks := [none, none]) (new := []) E rfl (by kernel_rfl) rfl rfl (fun hp => ⟨?_, ?_, ?_, ?_, ?_, ?_, ?_, trivial⟩) ?_
    · exact q_loadRat hp (free_of rfl) trivial (List.mem_iff_getElem?.2 ⟨0, rfl⟩) (.inl rfl) rfl (sq_out rfl rfl (fun _ _ => rfl)) (fun us w hl h => h)
    · exact q_call1 (F := (Fq.pair a.num (a.den : Int)).P) hp (free_of rfl) trivial (enq_Q_Text) (sq_in 0 rfl rfl (by simp) rfl (fun v w h => h)) (fun v w h => (by rw [HT.out]; exact exTextP h la.out lb.out))
    · exact q_move hp (free_of rfl) trivial (sq_in 1 rfl rfl (by simp) rfl (fun v w h => h))
    · exact q_extract2 hp (free_of rfl) trivial (sq_in 2 rfl rfl (by simp) rfl (fun v w h => h)) (fun v1 v2 w h1 h2 => ⟨_, rfl, h1⟩)
    · exact q_extract2 hp (free_of rfl) trivial (sq_in 2 rfl rfl (by simp) rfl (fun v w h => h)) (fun v1 v2 w h1 h2 => ⟨_, rfl, h2⟩)
    · exact q_assign hp (free_of rfl) trivial (sq_in 3 rfl rfl (by simp) rfl (fun v w h => h))
    · exact q_assign hp (free_of rfl) trivial (sq_in 4 rfl rfl (by simp) rfl (fun v w h => h))
    intro L vs w8 nb hL hC hn E8
    have e3 : vs 3 = .string t := hC 3 (by simp)
    have e4 : vs 4 = .int .i64 0 := hC 4 (by simp)
    have e5 : vs 5 = .string t := hC 5 (by simp)
    have e6 : vs 6 = .int .i64 0 := hC 6 (by simp)
    have E : Fr w [(b7_2, 4, Fq.pair a.num (a.den : Int)), (b1, 4, Fq.raw2 n1 a1 k1 c1 xs1 m1 r1 l1 q1 ys1)] w8 := E8
    rw [lay_all hL]
    simp only [putAll, dstOf, List.length_cons, List.length_nil, Nat.zero_add, Nat.reduceAdd, List.getElem?_toArray, List.getElem?_cons_zero, List.getElem?_cons_succ, Option.bind_some, Act.put, List.setIfInBounds_toArray, List.set_cons_succ, List.set_cons_zero]
    rw [e3, e4, e5, e6]
    generalize vs 0 = u8_0
    generalize vs 1 = u8_1
    generalize vs 2 = u8_2
    clear e3 e4 e5 e6 hC hn E8 hL vs L nb
    go_upto_region 8 with (fail)
    refine region_fr (C := [Fq.pair a.num (a.den : Int), Fq.tup2 (Fq.is (.string t)) (Fq.is (.int .i64 0)), Fq.tup2 (Fq.is (.string t)) (Fq.is (.int .i64 0)), Fq.is (.string t), Fq.is (.int .i64 0), Fq.is (.string t), Fq.is (.int .i64 0)]) (ks := [none, none]) (new := []) E rfl (by kernel_rfl) rfl rfl (fun hp => ⟨?_, ?_, ?_, ?_, ?_, ?_, ?_, trivial⟩) ?_
    · exact q_loadRat hp (free_of rfl) trivial (List.mem_iff_getElem?.2 ⟨0, rfl⟩) (.inl rfl) rfl (sq_out rfl rfl (fun _ _ => rfl)) (fun us w hl h => h)
    · exact q_call1 (F := (Fq.pair a.num (a.den : Int)).P) hp (free_of rfl) trivial (enq_S_Text) (sq_in 0 rfl rfl (by simp) rfl (fun v w h => h)) (fun v w h => (by rw [HT.out]; exact exSTextP h la.out lb.out))
    · exact q_move hp (free_of rfl) trivial (sq_in 1 rfl rfl (by simp) rfl (fun v w h => h))
    · exact q_extract2 hp (free_of rfl) trivial (sq_in 2 rfl rfl (by simp) rfl (fun v w h => h)) (fun v1 v2 w h1 h2 => ⟨_, rfl, h1⟩)
    · exact q_extract2 hp (free_of rfl) trivial (sq_in 2 rfl rfl (by simp) rfl (fun v w h => h)) (fun v1 v2 w h1 h2 => ⟨_, rfl, h2⟩)
    · exact q_assign hp (free_of rfl) trivial (sq_in 3 rfl rfl (by simp) rfl (fun v w h => h))
    · exact q_assign hp (free_of rfl) trivial (sq_in 4 rfl rfl (by simp) rfl (fun v w h => h))
    intro L vs w9 nb hL hC hn E9
    have e3 : vs 3 = .string t := hC 3 (by simp)
    have e4 : vs 4 = .int .i64 0 := hC 4 (by simp)
    have e5 : vs 5 = .string t := hC 5 (by simp)
    have e6 : vs 6 = .int .i64 0 := hC 6 (by simp)
    have E : Fr w [(b7_2, 4, Fq.pair a.num (a.den : Int)), (b1, 4, Fq.raw2 n1 a1 k1 c1 xs1 m1 r1 l1 q1 ys1)] w9 := E9
    rw [lay_all hL]
    simp only [putAll, dstOf, List.length_cons, List.length_nil, Nat.zero_add, Nat.reduceAdd, List.getElem?_toArray, List.getElem?_cons_zero, List.getElem?_cons_succ, Option.bind_some, Act.put, List.setIfInBounds_toArray, List.set_cons_succ, List.set_cons_zero]
    rw [e3, e4, e5, e6]
    generalize vs 0 = u9_0
    generalize vs 1 = u9_1
    generalize vs 2 = u9_2
    clear e3 e4 e5 e6 hC hn E9 hL vs L nb
    go_upto_region 9 with (fail)
    refine region_fr (C := [Fq.is (.string t), Fq.tup2 (Fq.pair a.num (a.den : Int)) (Fq.is (.int .i64 0)), Fq.tup2 (Fq.pair a.num (a.den : Int)) (Fq.is (.int .i64 0)), Fq.pair a.num (a.den : Int), Fq.is (.int .i64 0), Fq.any, Fq.any, Fq.is (.int .i64 0)]) (ks := [none, none]) (new := [⟨5, 6, 4, Fq.pair 0 0, Fq.pair a.num (a.den : Int), none⟩]) E rfl (by kernel_rfl) rfl rfl (fun hp => ⟨?_, ?_, ?_, ?_, ?_, ?_, ?_, ?_, trivial⟩) ?_
    · exact q_move hp (free_of rfl) trivial (sq_out rfl rfl (fun _ _ => rfl))
    · exact q_call1 (F := (Fq.is (.string t)).P) hp (free_of rfl) trivial (enq_Q_Parse) (sq_in 0 rfl rfl (by simp) rfl (fun v w h => h)) (fun v w h => (by subst h; have hh := exQParse (w := w) HJ.out; rw [PT.out] at hh; exact hh))
    · exact q_move hp (free_of rfl) trivial (sq_in 1 rfl rfl (by simp) rfl (fun v w h => h))
    · exact q_extract2 hp (free_of rfl) trivial (sq_in 2 rfl rfl (by simp) rfl (fun v w h => h)) (fun v1 v2 w h1 h2 => ⟨_, rfl, h1⟩)
    · exact q_extract2 hp (free_of rfl) trivial (sq_in 2 rfl rfl (by simp) rfl (fun v w h => h)) (fun v1 v2 w h1 h2 => ⟨_, rfl, h2⟩)
    · exact q_allocRat hp (List.mem_iff_getElem?.2 ⟨0, rfl⟩) rfl rfl rfl rfl (Nat.ne_of_beq_eq_false rfl) (fun _ _ => trivial) (old_ne rfl) (newk_ne rfl) (fun w => Pair.zero w)
    · exact q_storeNewRat hp (List.mem_iff_getElem?.2 ⟨0, rfl⟩) rfl rfl rfl (own_ptr rfl rfl (by simp) rfl) (sq_in 3 rfl rfl (by simp) rfl (fun v w h => ratV_pair h)) (fun _ _ => trivial) (old_ne rfl) (newi_ne rfl)
    · exact q_assign hp (free_of rfl) trivial (sq_in 4 rfl rfl (by simp) rfl (fun v w h => h))
    intro L vs w10 nb hL hC hn E10
    have e0 : vs 0 = .string t := hC 0 (by simp)
    have e4 : vs 4 = .int .i64 0 := hC 4 (by simp)
    have e7 : vs 7 = .int .i64 0 := hC 7 (by simp)
    have e5 : vs 5 = .pointer (some ⟨nb 5, 0, none⟩) := hn _ (List.mem_iff_getElem?.2 ⟨0, rfl⟩)
    have E : Fr w [(nb 5, 4, Fq.pair a.num (a.den : Int)), (b7_2, 4, Fq.pair a.num (a.den : Int)), (b1, 4, Fq.raw2 n1 a1 k1 c1 xs1 m1 r1 l1 q1 ys1)] w10 := E10
    rw [lay_all hL]
    simp only [putAll, dstOf, List.length_cons, List.length_nil, Nat.zero_add, Nat.reduceAdd, List.getElem?_toArray, List.getElem?_cons_zero, List.getElem?_cons_succ, Option.bind_some, Act.put, List.setIfInBounds_toArray, List.set_cons_succ, List.set_cons_zero]
    rw [e0, e4, e7, e5]
    generalize nb 5 = b10_5 at E ⊢
    generalize vs 1 = u10_1
    generalize vs 2 = u10_2
    generalize vs 3 = u10_3
    clear e0 e4 e7 e5 hC hn E10 hL vs L nb
    go_upto_region 10 with (fail)
    refine region_fr (C := [Fq.is (.string s), Fq.tup2 (Fq.pair pn pd) (Fq.is (.int .i64 er)), Fq.tup2 (Fq.pair pn pd) (Fq.is (.int .i64 er)), Fq.pair pn pd, Fq.is (.int .i64 er), Fq.any, Fq.any, Fq.is (.int .i64 er)]) (ks := [none, none, none]) (new := [⟨5, 6, 4, Fq.pair 0 0, Fq.pair pn pd, none⟩]) E rfl (by kernel_rfl) rfl rfl (fun hp => ⟨?_, ?_, ?_, ?_, ?_, ?_, ?_, ?_, trivial⟩) ?_
    · exact q_move hp (free_of rfl) trivial (sq_out rfl rfl (fun _ _ => rfl))
    · exact q_call1 (F := (Fq.is (.string s)).P) hp (free_of rfl) trivial (enq_Q_Parse) (sq_in 0 rfl rfl (by simp) rfl (fun v w h => h)) (fun v w h => (by subst h; have hh := exQParse (w := w) HS.out; rw [HP.out] at hh; exact hh))
    · exact q_move hp (free_of rfl) trivial (sq_in 1 rfl rfl (by simp) rfl (fun v w h => h))
    · exact q_extract2 hp (free_of rfl) trivial (sq_in 2 rfl rfl (by simp) rfl (fun v w h => h)) (fun v1 v2 w h1 h2 => ⟨_, rfl, h1⟩)
    · exact q_extract2 hp (free_of rfl) trivial (sq_in 2 rfl rfl (by simp) rfl (fun v w h => h)) (fun v1 v2 w h1 h2 => ⟨_, rfl, h2⟩)
    · exact q_allocRat hp (List.mem_iff_getElem?.2 ⟨0, rfl⟩) rfl rfl rfl rfl (Nat.ne_of_beq_eq_false rfl) (fun _ _ => trivial) (old_ne rfl) (newk_ne rfl) (fun w => Pair.zero w)
    · exact q_storeNewRat hp (List.mem_iff_getElem?.2 ⟨0, rfl⟩) rfl rfl rfl (own_ptr rfl rfl (by simp) rfl) (sq_in 3 rfl rfl (by simp) rfl (fun v w h => ratV_pair h)) (fun _ _ => trivial) (old_ne rfl) (newi_ne rfl)
    · exact q_assign hp (free_of rfl) trivial (sq_in 4 rfl rfl (by simp) rfl (fun v w h => h))
    intro L vs w11 nb hL hC hn E11
    have e0 : vs 0 = .string s := hC 0 (by simp)
    have e4 : vs 4 = .int .i64 er := hC 4 (by simp)
    have e7 : vs 7 = .int .i64 er := hC 7 (by simp)
    have e5 : vs 5 = .pointer (some ⟨nb 5, 0, none⟩) := hn _ (List.mem_iff_getElem?.2 ⟨0, rfl⟩)
    have E : Fr w [(nb 5, 4, Fq.pair pn pd), (b10_5, 4, Fq.pair a.num (a.den : Int)), (b7_2, 4, Fq.pair a.num (a.den : Int)), (b1, 4, Fq.raw2 n1 a1 k1 c1 xs1 m1 r1 l1 q1 ys1)] w11 := E11
    rw [lay_all hL]
    simp only [putAll, dstOf, List.length_cons, List.length_nil, Nat.zero_add, Nat.reduceAdd, List.getElem?_toArray, List.getElem?_cons_zero, List.getElem?_cons_succ, Option.bind_some, Act.put, List.setIfInBounds_toArray, List.set_cons_succ, List.set_cons_zero]
    rw [e0, e4, e7, e5]
    generalize nb 5 = b11_5 at E ⊢
    generalize vs 1 = u11_1
    generalize vs 2 = u11_2
    generalize vs 3 = u11_3
    clear e0 e4 e7 e5 hC hn E11 hL vs L nb
    go_upto_region 11 with (fail)
    refine region_fr (C := [Fq.is (.string s), Fq.tup2 (Fq.pair pn pd) (Fq.is (.int .i64 er)), Fq.tup2 (Fq.pair pn pd) (Fq.is (.int .i64 er)), Fq.pair pn pd, Fq.is (.int .i64 er), Fq.any, Fq.any, Fq.is (.int .i64 er)]) (ks := [none, none, none, none]) (new := [⟨5, 6, 4, Fq.pair 0 0, Fq.pair pn pd, none⟩]) E rfl (by kernel_rfl) rfl rfl (fun hp => ⟨?_, ?_, ?_, ?_, ?_, ?_, ?_, ?_, trivial⟩) ?_
    · exact q_move hp (free_of rfl) trivial (sq_out rfl rfl (fun _ _ => rfl))
    · exact q_call1 (F := (Fq.is (.string s)).P) hp (free_of rfl) trivial (enq_S_Parse) (sq_in 0 rfl rfl (by simp) rfl (fun v w h => h)) (fun v w h => (by subst h; have hh := exSParse (w := w) HS.out; rw [HP.out] at hh; exact hh))
    · exact q_move hp (free_of rfl) trivial (sq_in 1 rfl rfl (by simp) rfl (fun v w h => h))
    · exact q_extract2 hp (free_of rfl) trivial (sq_in 2 rfl rfl (by simp) rfl (fun v w h => h)) (fun v1 v2 w h1 h2 => ⟨_, rfl, h1⟩)
    · exact q_extract2 hp (free_of rfl) trivial (sq_in 2 rfl rfl (by simp) rfl (fun v w h => h)) (fun v1 v2 w h1 h2 => ⟨_, rfl, h2⟩)
    · exact q_allocRat hp (List.mem_iff_getElem?.2 ⟨0, rfl⟩) rfl rfl rfl rfl (Nat.ne_of_beq_eq_false rfl) (fun _ _ => trivial) (old_ne rfl) (newk_ne rfl) (fun w => Pair.zero w)
    · exact q_storeNewRat hp (List.mem_iff_getElem?.2 ⟨0, rfl⟩) rfl rfl rfl (own_ptr rfl rfl (by simp) rfl) (sq_in 3 rfl rfl (by simp) rfl (fun v w h => ratV_pair h)) (fun _ _ => trivial) (old_ne rfl) (newi_ne rfl)
    · exact q_assign hp (free_of rfl) trivial (sq_in 4 rfl rfl (by simp) rfl (fun v w h => h))
    intro L vs w12 nb hL hC hn E12
    have e0 : vs 0 = .string s := hC 0 (by simp)
    have e4 : vs 4 = .int .i64 er := hC 4 (by simp)
    have e7 : vs 7 = .int .i64 er := hC 7 (by simp)
    have e5 : vs 5 = .pointer (some ⟨nb 5, 0, none⟩) := hn _ (List.mem_iff_getElem?.2 ⟨0, rfl⟩)
    have E : Fr w [(nb 5, 4, Fq.pair pn pd), (b11_5, 4, Fq.pair pn pd), (b10_5, 4, Fq.pair a.num (a.den : Int)), (b7_2, 4, Fq.pair a.num (a.den : Int)), (b1, 4, Fq.raw2 n1 a1 k1 c1 xs1 m1 r1 l1 q1 ys1)] w12 := E12
    rw [lay_all hL]
    simp only [putAll, dstOf, List.length_cons, List.length_nil, Nat.zero_add, Nat.reduceAdd, List.getElem?_toArray, List.getElem?_cons_zero, List.getElem?_cons_succ, Option.bind_some, Act.put, List.setIfInBounds_toArray, List.set_cons_succ, List.set_cons_zero]
    rw [e0, e4, e7, e5]
    generalize nb 5 = b12_5 at E ⊢
    generalize vs 1 = u12_1
    generalize vs 2 = u12_2
    generalize vs 3 = u12_3
    clear e0 e4 e7 e5 hC hn E12 hL vs L nb
    go_upto_region 12 with (fail)
    refine region_fr (C := [Fq.is (.int .i64 0), Fq.is (.int .i64 0), Fq.is (.bool false), Fq.is (.bool false), Fq.is (.int .i64 0), Fq.is (.bool false), Fq.is (.bool false), Fq.is (.bool false), Fq.is (.string t), Fq.is (.string t), Fq.is (.bool false), Fq.is (.bool false), Fq.is (.bool false), Fq.is (.int .i64 0), Fq.is (.bool false), Fq.is (.bool false), Fq.is (.bool false), Fq.pair a.num (a.den : Int), Fq.pair a.num (a.den : Int), Fq.is (.bool true), Fq.is (.bool false), Fq.is (.bool false), Fq.is (.bool false), Fq.is (.int .i64 er), Fq.is (.int .i64 er), Fq.is (.bool false), Fq.is (.bool false), Fq.is (.bool false), Fq.pair pn pd, Fq.pair pn pd, Fq.is (.bool true), Fq.is (.bool false), Fq.is (.bool false)]) (ks := [none, none, none, none, none]) (new := []) E rfl (by kernel_rfl) rfl rfl (fun hp => ⟨?_, ?_, ?_, ?_, ?_, ?_, ?_, ?_, ?_, ?_, ?_, ?_, ?_, ?_, ?_, ?_, ?_, ?_, ?_, ?_, ?_, ?_, ?_, ?_, ?_, ?_, ?_, ?_, ?_, ?_, ?_, ?_, ?_, trivial⟩) ?_
    · exact q_move hp (free_of rfl) trivial (sq_out rfl rfl (fun _ _ => rfl))
    · exact q_move hp (free_of rfl) trivial (sq_out rfl rfl (fun _ _ => rfl))
    · exact q_two (F := fun v _ => v = .int .i64 0) (G := fun v _ => v = .int .i64 0) hp (free_of rfl) trivial (sq_in 0 rfl rfl (by simp) rfl (fun v w h => h)) (sq_in 1 rfl rfl (by simp) rfl (fun v w h => h)) (fun ρ w hc h h' => ⟨.bool false, by simp [execOp, go_sem, h, h'], rfl⟩)
    · exact q_move hp (free_of rfl) trivial (sq_in 2 rfl rfl (by simp) rfl (fun v w h => h))
    · exact q_move hp (free_of rfl) (gq_some rfl rfl (by simp) rfl (fun v w h => h)) (sq_out rfl rfl (fun _ _ => rfl))
    · exact q_one (F := fun v _ => v = .int .i64 0) hp (free_of rfl) (gq_some rfl rfl (by simp) rfl (fun v w h => h)) (sq_in 4 rfl rfl (by simp) rfl (fun v w h => h)) (fun ρ w hc h => ⟨.bool false, by simp [execOp, go_sem, h, hc], rfl⟩)
    · exact q_two (F := fun v _ => v = .bool false) (G := fun v _ => v = .bool false) hp (free_of rfl) trivial (sq_in 3 rfl rfl (by simp) rfl (fun v w h => h)) (sq_in 5 rfl rfl (by simp) rfl (fun v w h => h)) (fun ρ w hc h h' => ⟨_, by simp [execOp, go_sem, h, h'], rfl⟩)
    · exact q_move hp (free_of rfl) trivial (sq_in 6 rfl rfl (by simp) rfl (fun v w h => h))
    · exact q_move hp (free_of rfl) (gq_some rfl rfl (by simp) rfl (fun v w h => h)) (sq_out rfl rfl (fun _ _ => rfl))
    · exact q_move hp (free_of rfl) (gq_some rfl rfl (by simp) rfl (fun v w h => h)) (sq_out rfl rfl (fun _ _ => rfl))
    · exact q_two (F := fun v _ => v = .string t) (G := fun v _ => v = .string t) hp (free_of rfl) (gq_some rfl rfl (by simp) rfl (fun v w h => h)) (sq_in 8 rfl rfl (by simp) rfl (fun v w h => h)) (sq_in 9 rfl rfl (by simp) rfl (fun v w h => h)) (fun ρ w hc h h' => ⟨.bool false, by simp [execOp, go_sem, h, h'], rfl⟩)
    · exact q_two (F := fun v _ => v = .bool false) (G := fun v _ => v = .bool false) hp (free_of rfl) trivial (sq_in 7 rfl rfl (by simp) rfl (fun v w h => h)) (sq_in 10 rfl rfl (by simp) rfl (fun v w h => h)) (fun ρ w hc h h' => ⟨_, by simp [execOp, go_sem, h, h'], rfl⟩)
    · exact q_move hp (free_of rfl) trivial (sq_in 11 rfl rfl (by simp) rfl (fun v w h => h))
    · exact q_move hp (free_of rfl) (gq_some rfl rfl (by simp) rfl (fun v w h => h)) (sq_out rfl rfl (fun _ _ => rfl))
    · exact q_one (F := fun v _ => v = .int .i64 0) hp (free_of rfl) (gq_some rfl rfl (by simp) rfl (fun v w h => h)) (sq_in 13 rfl rfl (by simp) rfl (fun v w h => h)) (fun ρ w hc h => ⟨.bool false, by simp [execOp, go_sem, h, hc], rfl⟩)
    · exact q_two (F := fun v _ => v = .bool false) (G := fun v _ => v = .bool false) hp (free_of rfl) trivial (sq_in 12 rfl rfl (by simp) rfl (fun v w h => h)) (sq_in 14 rfl rfl (by simp) rfl (fun v w h => h)) (fun ρ w hc h h' => ⟨_, by simp [execOp, go_sem, h, h'], rfl⟩)
    · exact q_move hp (free_of rfl) trivial (sq_in 15 rfl rfl (by simp) rfl (fun v w h => h))
    · exact q_loadRat hp (free_of rfl) (gq_some rfl rfl (by simp) rfl (fun v w h => h)) (List.mem_iff_getElem?.2 ⟨2, rfl⟩) (.inl rfl) rfl (sq_out rfl rfl (fun _ _ => rfl)) (fun us w hl h => h)
    · exact q_loadRat hp (free_of rfl) (gq_some rfl rfl (by simp) rfl (fun v w h => h)) (List.mem_iff_getElem?.2 ⟨3, rfl⟩) (.inl rfl) rfl (sq_out rfl rfl (fun _ _ => rfl)) (fun us w hl h => h)
    · exact q_call2 (F := (Fq.pair a.num (a.den : Int)).P) (G := (Fq.pair a.num (a.den : Int)).P) hp (free_of rfl) (gq_some rfl rfl (by simp) rfl (fun v w h => h)) (enq_S_Same) (sq_in 17 rfl rfl (by simp) rfl (fun v w h => h)) (sq_in 18 rfl rfl (by simp) rfl (fun v w h => h)) (fun v v' w h h' => exSSameT h h' rfl rfl)
    · exact q_one (F := fun v _ => v = .bool true) hp (free_of rfl) (gq_some rfl rfl (by simp) rfl (fun v w h => h)) (sq_in 19 rfl rfl (by simp) rfl (fun v w h => h)) (fun ρ w _ h => ⟨.bool false, by simp [execOp, go_sem, h], rfl⟩)
    · exact q_two (F := fun v _ => v = .bool false) (G := fun v _ => v = .bool false) hp (free_of rfl) trivial (sq_in 16 rfl rfl (by simp) rfl (fun v w h => h)) (sq_in 20 rfl rfl (by simp) rfl (fun v w h => h)) (fun ρ w hc h h' => ⟨_, by simp [execOp, go_sem, h, h'], rfl⟩)
    · exact q_move hp (free_of rfl) trivial (sq_in 21 rfl rfl (by simp) rfl (fun v w h => h))
    · exact q_move hp (free_of rfl) (gq_some rfl rfl (by simp) rfl (fun v w h => h)) (sq_out rfl rfl (fun _ _ => rfl))
    · exact q_move hp (free_of rfl) (gq_some rfl rfl (by simp) rfl (fun v w h => h)) (sq_out rfl rfl (fun _ _ => rfl))
    · exact q_two (F := fun v _ => v = .int .i64 er) (G := fun v _ => v = .int .i64 er) hp (free_of rfl) (gq_some rfl rfl (by simp) rfl (fun v w h => h)) (sq_in 23 rfl rfl (by simp) rfl (fun v w h => h)) (sq_in 24 rfl rfl (by simp) rfl (fun v w h => h)) (fun ρ w hc h h' => ⟨.bool false, by simp [execOp, go_sem, h, h'], rfl⟩)
    · exact q_two (F := fun v _ => v = .bool false) (G := fun v _ => v = .bool false) hp (free_of rfl) trivial (sq_in 22 rfl rfl (by simp) rfl (fun v w h => h)) (sq_in 25 rfl rfl (by simp) rfl (fun v w h => h)) (fun ρ w hc h h' => ⟨_, by simp [execOp, go_sem, h, h'], rfl⟩)
    · exact q_move hp (free_of rfl) trivial (sq_in 26 rfl rfl (by simp) rfl (fun v w h => h))
    · exact q_loadRat hp (free_of rfl) (gq_some rfl rfl (by simp) rfl (fun v w h => h)) (List.mem_iff_getElem?.2 ⟨1, rfl⟩) (.inl rfl) rfl (sq_out rfl rfl (fun _ _ => rfl)) (fun us w hl h => h)
    · exact q_loadRat hp (free_of rfl) (gq_some rfl rfl (by simp) rfl (fun v w h => h)) (List.mem_iff_getElem?.2 ⟨0, rfl⟩) (.inl rfl) rfl (sq_out rfl rfl (fun _ _ => rfl)) (fun us w hl h => h)
    · exact q_call2 (F := (Fq.pair pn pd).P) (G := (Fq.pair pn pd).P) hp (free_of rfl) (gq_some rfl rfl (by simp) rfl (fun v w h => h)) (enq_S_Same) (sq_in 28 rfl rfl (by simp) rfl (fun v w h => h)) (sq_in 29 rfl rfl (by simp) rfl (fun v w h => h)) (fun v v' w h h' => exSSameT h h' rfl rfl)
    · exact q_one (F := fun v _ => v = .bool true) hp (free_of rfl) (gq_some rfl rfl (by simp) rfl (fun v w h => h)) (sq_in 30 rfl rfl (by simp) rfl (fun v w h => h)) (fun ρ w _ h => ⟨.bool false, by simp [execOp, go_sem, h], rfl⟩)
    · exact q_two (F := fun v _ => v = .bool false) (G := fun v _ => v = .bool false) hp (free_of rfl) trivial (sq_in 27 rfl rfl (by simp) rfl (fun v w h => h)) (sq_in 31 rfl rfl (by simp) rfl (fun v w h => h)) (fun ρ w hc h h' => ⟨_, by simp [execOp, go_sem, h, h'], rfl⟩)
    intro L vs w13 nb hL hC hn E13
    have e0 : vs 0 = .int .i64 0 := hC 0 (by simp)
    have e1 : vs 1 = .int .i64 0 := hC 1 (by simp)
    have e2 : vs 2 = .bool false := hC 2 (by simp)
    have e3 : vs 3 = .bool false := hC 3 (by simp)
    have e4 : vs 4 = .int .i64 0 := hC 4 (by simp)
    have e5 : vs 5 = .bool false := hC 5 (by simp)
    have e6 : vs 6 = .bool false := hC 6 (by simp)
    have e7 : vs 7 = .bool false := hC 7 (by simp)
    have e8 : vs 8 = .string t := hC 8 (by simp)
    have e9 : vs 9 = .string t := hC 9 (by simp)
    have e10 : vs 10 = .bool false := hC 10 (by simp)
    have e11 : vs 11 = .bool false := hC 11 (by simp)
    have e12 : vs 12 = .bool false := hC 12 (by simp)
    have e13 : vs 13 = .int .i64 0 := hC 13 (by simp)
    have e14 : vs 14 = .bool false := hC 14 (by simp)
    have e15 : vs 15 = .bool false := hC 15 (by simp)
    have e16 : vs 16 = .bool false := hC 16 (by simp)
    have e19 : vs 19 = .bool true := hC 19 (by simp)
    have e20 : vs 20 = .bool false := hC 20 (by simp)
    have e21 : vs 21 = .bool false := hC 21 (by simp)
    have e22 : vs 22 = .bool false := hC 22 (by simp)
    have e23 : vs 23 = .int .i64 er := hC 23 (by simp)
    have e24 : vs 24 = .int .i64 er := hC 24 (by simp)
    have e25 : vs 25 = .bool false := hC 25 (by simp)
    have e26 : vs 26 = .bool false := hC 26 (by simp)
    have e27 : vs 27 = .bool false := hC 27 (by simp)
    have e30 : vs 30 = .bool true := hC 30 (by simp)
    have e31 : vs 31 = .bool false := hC 31 (by simp)
    have e32 : vs 32 = .bool false := hC 32 (by simp)
    have E : Fr w [(b12_5, 4, Fq.pair pn pd), (b11_5, 4, Fq.pair pn pd), (b10_5, 4, Fq.pair a.num (a.den : Int)), (b7_2, 4, Fq.pair a.num (a.den : Int)), (b1, 4, Fq.raw2 n1 a1 k1 c1 xs1 m1 r1 l1 q1 ys1)] w13 := E13
    rw [lay_all hL]
    simp only [putAll, dstOf, List.length_cons, List.length_nil, Nat.zero_add, Nat.reduceAdd, List.getElem?_toArray, List.getElem?_cons_zero, List.getElem?_cons_succ, Option.bind_some, Act.put, List.setIfInBounds_toArray, List.set_cons_succ, List.set_cons_zero]
    rw [e0, e1, e2, e3, e4, e5, e6, e7, e8, e9, e10, e11, e12, e13, e14, e15, e16, e19, e20, e21, e22, e23, e24, e25, e26, e27, e30, e31, e32]
    generalize vs 17 = u13_17
    generalize vs 18 = u13_18
    generalize vs 28 = u13_28
    generalize vs 29 = u13_29
    clear e0 e1 e2 e3 e4 e5 e6 e7 e8 e9 e10 e11 e12 e13 e14 e15 e16 e19 e20 e21 e22 e23 e24 e25 e26 e27 e30 e31 e32 hC hn E13 hL vs L nb
    by_cases he : ¬ er = 0
    · have TE := hidd he
      clear he
      go_upto_region 14 with (fail)
      refine region_fr (C := [Fq.is (.int .i64 er), Fq.is (.bool true)]) (ks := [none, none, none, none, none]) (new := []) E rfl (by kernel_rfl) rfl rfl (fun hp => ⟨?_, ?_, trivial⟩) ?_
      · exact q_move hp (free_of rfl) trivial (sq_out rfl rfl (fun _ _ => rfl))
      · exact q_one (F := fun v _ => v = .int .i64 er) hp (free_of rfl) trivial (sq_in 0 rfl rfl (by simp) rfl (fun v w h => h)) (fun ρ w hc h => ⟨.bool true, by simp [execOp, go_sem, h, hc, TE.out], rfl⟩)
      intro L vs w14 nb hL hC hn E14
      have e0 : vs 0 = .int .i64 er := hC 0 (by simp)
      have e1 : vs 1 = .bool true := hC 1 (by simp)
      have E : Fr w [(b12_5, 4, Fq.pair pn pd), (b11_5, 4, Fq.pair pn pd), (b10_5, 4, Fq.pair a.num (a.den : Int)), (b7_2, 4, Fq.pair a.num (a.den : Int)), (b1, 4, Fq.raw2 n1 a1 k1 c1 xs1 m1 r1 l1 q1 ys1)] w14 := E14
      rw [lay_all hL]
      simp only [putAll, dstOf, List.length_cons, List.length_nil, Nat.zero_add, Nat.reduceAdd, List.getElem?_toArray, List.getElem?_cons_zero, List.getElem?_cons_succ, Option.bind_some, Act.put, List.setIfInBounds_toArray, List.set_cons_succ, List.set_cons_zero]
      rw [e0, e1]
      clear e0 e1 hC hn E14 hL vs L nb
      clear TE
      go_upto_region 15 with (fail)
      refine region_fr (C := [Fq.is (.bool true), Fq.is (.bool true)]) (ks := [none, none, none, none, none]) (new := []) E rfl (by kernel_rfl) rfl rfl (fun hp => ⟨?_, ?_, trivial⟩) ?_
      · exact q_move hp (free_of rfl) trivial (sq_out rfl rfl (fun _ _ => rfl))
      · exact q_assign hp (free_of rfl) trivial (sq_in 0 rfl rfl (by simp) rfl (fun v w h => h))
      intro L vs w15 nb hL hC hn E15
      have e0 : vs 0 = .bool true := hC 0 (by simp)
      have e1 : vs 1 = .bool true := hC 1 (by simp)
      have E : Fr w [(b12_5, 4, Fq.pair pn pd), (b11_5, 4, Fq.pair pn pd), (b10_5, 4, Fq.pair a.num (a.den : Int)), (b7_2, 4, Fq.pair a.num (a.den : Int)), (b1, 4, Fq.raw2 n1 a1 k1 c1 xs1 m1 r1 l1 q1 ys1)] w15 := E15
      rw [lay_all hL]
      simp only [putAll, dstOf, List.length_cons, List.length_nil, Nat.zero_add, Nat.reduceAdd, List.getElem?_toArray, List.getElem?_cons_zero, List.getElem?_cons_succ, Option.bind_some, Act.put, List.setIfInBounds_toArray, List.set_cons_succ, List.set_cons_zero]
      rw [e0, e1]
      clear e0 e1 hC hn E15 hL vs L nb
      clear Ba
      go_wp2
      refine bodyPost_ret (v := .bool true) ?_ rfl ⟨rfl, E.below⟩
      simp [results, Try.results6, go_sem]
    · have he : er = 0 := by omega
      have HX : Hid ((intText pn).length ≤ 1300 ∧ (intText pd).length ≤ 1300 ∧ pairText pn pd = bys s) := prs_good HS.out (by rw [HP.out, he])
      have TE := hidd he
      clear he
      go_upto_region 14 with (fail)
      refine region_fr (C := [Fq.is (.int .i64 er), Fq.is (.bool false)]) (ks := [none, none, none, none, none]) (new := []) E rfl (by kernel_rfl) rfl rfl (fun hp => ⟨?_, ?_, trivial⟩) ?_
      · exact q_move hp (free_of rfl) trivial (sq_out rfl rfl (fun _ _ => rfl))
      · exact q_one (F := fun v _ => v = .int .i64 er) hp (free_of rfl) trivial (sq_in 0 rfl rfl (by simp) rfl (fun v w h => h)) (fun ρ w hc h => ⟨.bool false, by simp [execOp, go_sem, h, hc, TE.out], rfl⟩)
      intro L vs w16 nb hL hC hn E16
      have e0 : vs 0 = .int .i64 er := hC 0 (by simp)
      have e1 : vs 1 = .bool false := hC 1 (by simp)
      have E : Fr w [(b12_5, 4, Fq.pair pn pd), (b11_5, 4, Fq.pair pn pd), (b10_5, 4, Fq.pair a.num (a.den : Int)), (b7_2, 4, Fq.pair a.num (a.den : Int)), (b1, 4, Fq.raw2 n1 a1 k1 c1 xs1 m1 r1 l1 q1 ys1)] w16 := E16
      rw [lay_all hL]
      simp only [putAll, dstOf, List.length_cons, List.length_nil, Nat.zero_add, Nat.reduceAdd, List.getElem?_toArray, List.getElem?_cons_zero, List.getElem?_cons_succ, Option.bind_some, Act.put, List.setIfInBounds_toArray, List.set_cons_succ, List.set_cons_zero]
      rw [e0, e1]
      clear e0 e1 hC hn E16 hL vs L nb
      clear TE
      go_upto_region 16 with (fail)
      refine region_fr (C := [Fq.pair pn pd, Fq.tup2 (Fq.is (.string s)) (Fq.is (.int .i64 0)), Fq.tup2 (Fq.is (.string s)) (Fq.is (.int .i64 0)), Fq.is (.string s), Fq.is (.int .i64 0), Fq.is (.string s), Fq.is (.int .i64 0)]) (ks := [none, none, none, none, none]) (new := []) E rfl (by kernel_rfl) rfl rfl (fun hp => ⟨?_, ?_, ?_, ?_, ?_, ?_, ?_, trivial⟩) ?_
      · exact q_loadRat hp (free_of rfl) trivial (List.mem_iff_getElem?.2 ⟨1, rfl⟩) (.inl rfl) rfl (sq_out rfl rfl (fun _ _ => rfl)) (fun us w hl h => h)
      · exact q_call1 (F := (Fq.pair pn pd).P) hp (free_of rfl) trivial (enq_Q_Text) (sq_in 0 rfl rfl (by simp) rfl (fun v w h => h)) (fun v w h => (by have hh := exTextP h HX.out.1 HX.out.2.1; rw [HX.out.2.2, bytesOf_bys] at hh; exact hh))
      · exact q_move hp (free_of rfl) trivial (sq_in 1 rfl rfl (by simp) rfl (fun v w h => h))
      · exact q_extract2 hp (free_of rfl) trivial (sq_in 2 rfl rfl (by simp) rfl (fun v w h => h)) (fun v1 v2 w h1 h2 => ⟨_, rfl, h1⟩)
      · exact q_extract2 hp (free_of rfl) trivial (sq_in 2 rfl rfl (by simp) rfl (fun v w h => h)) (fun v1 v2 w h1 h2 => ⟨_, rfl, h2⟩)
      · exact q_assign hp (free_of rfl) trivial (sq_in 3 rfl rfl (by simp) rfl (fun v w h => h))
      · exact q_assign hp (free_of rfl) trivial (sq_in 4 rfl rfl (by simp) rfl (fun v w h => h))
      intro L vs w17 nb hL hC hn E17
      have e3 : vs 3 = .string s := hC 3 (by simp)
      have e4 : vs 4 = .int .i64 0 := hC 4 (by simp)
      have e5 : vs 5 = .string s := hC 5 (by simp)
      have e6 : vs 6 = .int .i64 0 := hC 6 (by simp)
      have E : Fr w [(b12_5, 4, Fq.pair pn pd), (b11_5, 4, Fq.pair pn pd), (b10_5, 4, Fq.pair a.num (a.den : Int)), (b7_2, 4, Fq.pair a.num (a.den : Int)), (b1, 4, Fq.raw2 n1 a1 k1 c1 xs1 m1 r1 l1 q1 ys1)] w17 := E17
      rw [lay_all hL]
      simp only [putAll, dstOf, List.length_cons, List.length_nil, Nat.zero_add, Nat.reduceAdd, List.getElem?_toArray, List.getElem?_cons_zero, List.getElem?_cons_succ, Option.bind_some, Act.put, List.setIfInBounds_toArray, List.set_cons_succ, List.set_cons_zero]
      rw [e3, e4, e5, e6]
      generalize vs 0 = u17_0
      generalize vs 1 = u17_1
      generalize vs 2 = u17_2
      clear e3 e4 e5 e6 hC hn E17 hL vs L nb
      clear HX
      go_upto_region 17 with (fail)
      refine region_fr (C := [Fq.is (.int .i64 0), Fq.is (.bool true), Fq.is (.bool true), Fq.is (.string s), Fq.is (.string s), Fq.is (.bool true), Fq.is (.bool true), Fq.is (.bool true), Fq.is (.bool true), Fq.is (.bool true), Fq.is (.bool true)]) (ks := [none, none, none, none, none]) (new := []) E rfl (by kernel_rfl) rfl rfl (fun hp => ⟨?_, ?_, ?_, ?_, ?_, ?_, ?_, ?_, ?_, ?_, ?_, trivial⟩) ?_
      · exact q_move hp (free_of rfl) trivial (sq_out rfl rfl (fun _ _ => rfl))
      · exact q_one (F := fun v _ => v = .int .i64 0) hp (free_of rfl) trivial (sq_in 0 rfl rfl (by simp) rfl (fun v w h => h)) (fun ρ w hc h => ⟨.bool true, by simp [execOp, go_sem, h, hc], rfl⟩)
      · exact q_move hp (free_of rfl) trivial (sq_in 1 rfl rfl (by simp) rfl (fun v w h => h))
      · exact q_move hp (free_of rfl) (gq_some rfl rfl (by simp) rfl (fun v w h => h)) (sq_out rfl rfl (fun _ _ => rfl))
      · exact q_move hp (free_of rfl) (gq_some rfl rfl (by simp) rfl (fun v w h => h)) (sq_out rfl rfl (fun _ _ => rfl))
      · exact q_two (F := fun v _ => v = .string s) (G := fun v _ => v = .string s) hp (free_of rfl) (gq_some rfl rfl (by simp) rfl (fun v w h => h)) (sq_in 3 rfl rfl (by simp) rfl (fun v w h => h)) (sq_in 4 rfl rfl (by simp) rfl (fun v w h => h)) (fun ρ w hc h h' => ⟨.bool true, by simp [execOp, go_sem, h, h'], rfl⟩)
      · exact q_two (F := fun v _ => v = .bool true) (G := fun v _ => v = .bool true) hp (free_of rfl) trivial (sq_in 2 rfl rfl (by simp) rfl (fun v w h => h)) (sq_in 5 rfl rfl (by simp) rfl (fun v w h => h)) (fun ρ w hc h h' => ⟨_, by simp [execOp, go_sem, h, h'], rfl⟩)
      · exact q_move hp (free_of rfl) trivial (sq_in 6 rfl rfl (by simp) rfl (fun v w h => h))
      · exact q_move hp (free_of rfl) (gq_some rfl rfl (by simp) rfl (fun v w h => h)) (sq_out rfl rfl (fun _ _ => rfl))
      · exact q_two (F := fun v _ => v = .bool true) (G := fun v _ => v = .bool true) hp (free_of rfl) trivial (sq_in 7 rfl rfl (by simp) rfl (fun v w h => h)) (sq_in 8 rfl rfl (by simp) rfl (fun v w h => h)) (fun ρ w hc h h' => ⟨_, by simp [execOp, go_sem, h, h'], rfl⟩)
      · exact q_assign hp (free_of rfl) trivial (sq_in 9 rfl rfl (by simp) rfl (fun v w h => h))
      intro L vs w18 nb hL hC hn E18
      have e0 : vs 0 = .int .i64 0 := hC 0 (by simp)
      have e1 : vs 1 = .bool true := hC 1 (by simp)
      have e2 : vs 2 = .bool true := hC 2 (by simp)
      have e3 : vs 3 = .string s := hC 3 (by simp)
      have e4 : vs 4 = .string s := hC 4 (by simp)
      have e5 : vs 5 = .bool true := hC 5 (by simp)
      have e6 : vs 6 = .bool true := hC 6 (by simp)
      have e7 : vs 7 = .bool true := hC 7 (by simp)
      have e8 : vs 8 = .bool true := hC 8 (by simp)
      have e9 : vs 9 = .bool true := hC 9 (by simp)
      have e10 : vs 10 = .bool true := hC 10 (by simp)
      have E : Fr w [(b12_5, 4, Fq.pair pn pd), (b11_5, 4, Fq.pair pn pd), (b10_5, 4, Fq.pair a.num (a.den : Int)), (b7_2, 4, Fq.pair a.num (a.den : Int)), (b1, 4, Fq.raw2 n1 a1 k1 c1 xs1 m1 r1 l1 q1 ys1)] w18 := E18
      rw [lay_all hL]
      simp only [putAll, dstOf, List.length_cons, List.length_nil, Nat.zero_add, Nat.reduceAdd, List.getElem?_toArray, List.getElem?_cons_zero, List.getElem?_cons_succ, Option.bind_some, Act.put, List.setIfInBounds_toArray, List.set_cons_succ, List.set_cons_zero]
      rw [e0, e1, e2, e3, e4, e5, e6, e7, e8, e9, e10]
      clear e0 e1 e2 e3 e4 e5 e6 e7 e8 e9 e10 hC hn E18 hL vs L nb
      clear Ba
      go_wp2
      refine bodyPost_ret (v := .bool true) ?_ rfl ⟨rfl, E.below⟩
      simp [results, Try.results6, go_sem]

end Go.Proofs.Ytlehjhlihahjhaa
