/- Oh, Oi. -/
import Derived.Test.YtieobgadihcgeaaGreatDoorCw6
import Derived.Deep.CutRange
namespace Go.Proofs.YtieobgadihcgeaaGreatDoor
open Go Go.RowKit

theorem two_tri0 (a : Int) : two a = 0 ∨ two a = 1 ∨ two a = -1 := by have h := two_tri a; unfold Tri at h; omega
theorem two_odd {y : Int} (h : y % 2 = 1) : two y = 1 ∨ two y = -1 := by
  unfold two
  rw [if_neg (by omega)]
  split <;> simp
theorem kro_step {a y : Int} (hy : 0 < y) (h2 : y % 2 = 0) : kro a y.natAbs = two a * kro a (y / 2).natAbs := by
  rw [show y.natAbs = 2 * (y / 2).natAbs by omega]
  exact kro_even (by omega)
theorem kro_stop {a y : Int} (hy : 0 < y) (ho : ¬ y % 2 = 0) : kro a y.natAbs = J (a % y) y.toNat := by
  rw [kro_odd (by omega), show y.natAbs = y.toNat by omega, ← J_mod a y.toNat, show ((y.toNat : Nat) : Int) = y by omega]
theorem J_half2 {x y : Int} (hy : 0 < y) (ho : y % 2 = 1) (hx : x % 2 = 0) : J x y.toNat = two y * J (x / 2) y.toNat := by
  have hm : y.toNat % 2 = 1 := by omega
  have e : x = 2 * (x / 2) := by omega
  have h := J_mul hm 2 (x / 2)
  rw [← e, J_two hm] at h
  have e2 : two y = if y % 8 = 3 ∨ y % 8 = 5 then -1 else 1 := by unfold two; rw [if_neg (by omega)]
  rw [h, e2]
  have e1 : (y.toNat % 8 = 3 ∨ y.toNat % 8 = 5) ↔ (y % 8 = 3 ∨ y % 8 = 5) := by omega
  by_cases h8 : y % 8 = 3 ∨ y % 8 = 5
  · rw [if_pos h8, if_pos (e1.2 h8)]
  · rw [if_neg h8, if_neg (fun h => h8 (e1.1 h))]
theorem J_flip2 {x y : Int} (hx0 : 0 < x) (hx : ¬ x % 2 = 0) (hy0 : 0 < y) (hy : y % 2 = 1) : J x y.toNat = (if x % 4 = 3 ∧ y % 4 = 3 then -1 else 1) * J (y % x) x.toNat := by
  have h := J_rec (m := x.toNat) (n := y.toNat) (by omega) (by omega)
  rw [show ((x.toNat : Nat) : Int) = x by omega, show ((y.toNat : Nat) : Int) = y by omega] at h
  rw [h, ← J_mod y x.toNat, show ((x.toNat : Nat) : Int) = x by omega]
  congr 1
  have e1 : (x.toNat % 4 = 3 ∧ y.toNat % 4 = 3) ↔ (x % 4 = 3 ∧ y % 4 = 3) := by omega
  by_cases h8 : x % 4 = 3 ∧ y % 4 = 3
  · rw [if_pos h8, if_pos (e1.2 h8)]
  · rw [if_neg h8, if_neg (fun h => h8 (e1.1 h))]
structure Bd20 (x : Int) : Prop where
  out : ab x < pw 20
theorem ab_half {y P : Int} (h : ab y < P) (h0 : 0 < y / (2)) : ab (y / (2)) < P := by unfold ab at *; omega
theorem meas_half {y : Int} (h : 0 < y / (2)) : (y / (2)).natAbs < y.natAbs := by omega
theorem meas_mod {z x m : Int} (h : 0 < z ∧ z ≤ x) (h2 : x < m) : z.natAbs < m.natAbs := by omega
theorem sgn_neg {s : Int} (hs : s = 1 ∨ s = -1) : IntKind.i64.wrap (-s) = -s := by rcases hs with rfl | rfl <;> decide
theorem sgn_mulJ {s t : Int} (hs : s = 1 ∨ s = -1) (ht : t = 0 ∨ t = 1 ∨ t = -1) (h0 : t ≠ 0) : s * t = 1 ∨ s * t = -1 := by
  rcases hs with rfl | rfl <;> rcases ht with rfl | rfl | rfl <;> simp at h0 ⊢
theorem kron_sg {a n : Int} (h : n ≠ 0) : (if a < 0 ∧ n < 0 then (-1 : Int) else 1) * kro a (Int.natAbs n : Int).natAbs = kron a n := by
  unfold kron
  rw [if_neg h, Int.natAbs_natCast]
set_option maxRecDepth 100000 in
set_option maxHeartbeats 4000000 in
theorem exUTwo {w : World} {v : Value} {a : Int} (h : Num w v a) (ha : ab a < pw 20) :
    Calls Tryz.prog 42 #[v] w fun e w' => ∃ v', e = .returned v' ∧ Below w.heap.size w w' ∧ v' = .int .i64 (two a) := by
  replace ha := hidd ha
  obtain ⟨n0, ao0, k0, c0, rfl⟩ := h.parts
  obtain ⟨w1, b1, hw1, hb1, hs1, E⟩ := fr_start w (F := Fq.num a) (us := [.bool n0, .slice ao0 k0 c0]) 29 rfl (by simp) (tame_int _ _ _ _) h
  go_enter Tryz.func42, Tryz.ntmps42
  go_upto_region 1 with (fail)
  rw [← hw1]
  rw [← hb1]
  clear hw1 hb1 hs1
  refine region_fr (C := [Fq.num a, Fq.is (.int .i64 (a % 8)), Fq.is (.int .i64 (a % 8))]) (ks := [none]) (new := []) E rfl (by kernel_rfl) rfl rfl (fun hp => ⟨?_, ?_, ?_, trivial⟩) ?_
  · exact q_loadInt (off := 0) hp (free_of rfl) trivial (List.mem_iff_getElem?.2 ⟨0, rfl⟩) (.inl rfl) (Nat.le_of_ble_eq_true rfl) (sq_out (s := 1) rfl rfl (fun _ _ => rfl)) (fun us w hl h => ld_num hl h)
  · exact q_call2 (F := (Fq.num a).P) (G := (Fq.is (.int .i64 8)).P) hp (free_of rfl) trivial (enq_U_small) (sqi 0) (sq_const (fun _ => rfl)) (fun v v' w h h' => (by subst h'; exact exUSmall h (Int.lt_of_lt_of_le ha.out (pw_le (by omega))) (by omega)))
  · exact q_assign hp (free_of rfl) trivial (sqi 1)
  intro L vs w2 nb hL hC hn E2
  have e1 : vs 1 = .int .i64 (a % 8) := hC 1 (by simp)
  have e2 : vs 2 = .int .i64 (a % 8) := hC 2 (by simp)
  have E : Fr w [(b1, 2, Fq.num a)] w2 := E2
  rw [lay_all hL]
  simp only [putAll, dstOf, List.length_cons, List.length_nil, Nat.zero_add, Nat.reduceAdd, List.getElem?_toArray, List.getElem?_cons_zero, List.getElem?_cons_succ, Option.bind_some, Act.put, List.setIfInBounds_toArray, List.set_cons_succ, List.set_cons_zero]
  rw [e1, e2]
  generalize vs 0 = u2_0
  clear e1 e2 hC hn E2 hL vs L nb
  have hr0 : 0 ≤ a % 8 := Int.emod_nonneg _ (by decide)
  have hr1 : a % 8 < 8 := Int.emod_lt_of_pos _ (by decide)
  have ht : two a = if (a % 8) % 2 = 0 then 0 else if a % 8 = 3 ∨ a % 8 = 5 then -1 else 1 := by unfold two; rw [Int.emod_emod_of_dvd a (by decide : (2 : Int) ∣ 8)]
  generalize a % 8 = r at hr0 hr1 ht ⊢
  clear ha
  rcases (by omega : r = 0 ∨ r = 1 ∨ r = 2 ∨ r = 3 ∨ r = 4 ∨ r = 5 ∨ r = 6 ∨ r = 7) with rfl | rfl | rfl | rfl | rfl | rfl | rfl | rfl
  · have HT : Hid (two a = 0) := by show _ = _; rw [ht]; decide
    clear ht hr0 hr1
    go_wp2
    refine bodyPost_ret (v := .int .i64 (0)) ?_ rfl ⟨_, rfl, E.below, by rw [HT.out]⟩
    simp [results, Tryz.results42, go_sem]
  · have HT : Hid (two a = 1) := by show _ = _; rw [ht]; decide
    clear ht hr0 hr1
    go_wp2
    refine bodyPost_ret (v := .int .i64 (1)) ?_ rfl ⟨_, rfl, E.below, by rw [HT.out]⟩
    simp [results, Tryz.results42, go_sem]
  · have HT : Hid (two a = 0) := by show _ = _; rw [ht]; decide
    clear ht hr0 hr1
    go_wp2
    refine bodyPost_ret (v := .int .i64 (0)) ?_ rfl ⟨_, rfl, E.below, by rw [HT.out]⟩
    simp [results, Tryz.results42, go_sem]
  · have HT : Hid (two a = -1) := by show _ = _; rw [ht]; decide
    clear ht hr0 hr1
    go_wp2
    refine bodyPost_ret (v := .int .i64 (-1)) ?_ rfl ⟨_, rfl, E.below, by rw [HT.out]⟩
    simp [results, Tryz.results42, go_sem]
  · have HT : Hid (two a = 0) := by show _ = _; rw [ht]; decide
    clear ht hr0 hr1
    go_wp2
    refine bodyPost_ret (v := .int .i64 (0)) ?_ rfl ⟨_, rfl, E.below, by rw [HT.out]⟩
    simp [results, Tryz.results42, go_sem]
  · have HT : Hid (two a = -1) := by show _ = _; rw [ht]; decide
    clear ht hr0 hr1
    go_wp2
    refine bodyPost_ret (v := .int .i64 (-1)) ?_ rfl ⟨_, rfl, E.below, by rw [HT.out]⟩
    simp [results, Tryz.results42, go_sem]
  · have HT : Hid (two a = 0) := by show _ = _; rw [ht]; decide
    clear ht hr0 hr1
    go_wp2
    refine bodyPost_ret (v := .int .i64 (0)) ?_ rfl ⟨_, rfl, E.below, by rw [HT.out]⟩
    simp [results, Tryz.results42, go_sem]
  · have HT : Hid (two a = 1) := by show _ = _; rw [ht]; decide
    clear ht hr0 hr1
    go_wp2
    refine bodyPost_ret (v := .int .i64 (1)) ?_ rfl ⟨_, rfl, E.below, by rw [HT.out]⟩
    simp [results, Tryz.results42, go_sem]

set_option maxRecDepth 100000 in
set_option maxHeartbeats 4000000 in
theorem exUKron {w : World} {v v' : Value} {a n : Int} (h : Num w v a) (h' : Num w v' n) (ha : ab a < pw 20) (hn : ab n < pw 20) :
    Calls Tryz.prog 15 #[v, v'] w fun e w' => ∃ v', e = .returned v' ∧ Below w.heap.size w w' ∧ v' = .int .i64 (kron a n) := by
  replace ha := hidd ha
  replace hn := hidd hn
  obtain ⟨n0, ao0, k0, c0, rfl⟩ := h.parts
  obtain ⟨n1, ao1, k1, c1, rfl⟩ := h'.parts
  obtain ⟨w1, b1, hw1, hb1, hs1, E⟩ := fr_start w (F := Fq.num a) (us := [.bool n0, .slice ao0 k0 c0]) 29 rfl (by simp) (tame_int _ _ _ _) h
  obtain ⟨w2, b2, hw2, hb2, hs2, E⟩ := fr_more E hs1 (F := Fq.num n) (us := [.bool n1, .slice ao1 k1 c1]) 29 rfl (by simp) (tame_int _ _ _ _) (h'.mono E.below)
  go_enter Tryz.func15, Tryz.ntmps15
  go_upto_region 1 with (fail)
  rw [← hw1]
  rw [← hw2]
  rw [← hb2]
  rw [← hb1]
  clear hw1 hw2 hb1 hb2 hs2 hs1
  by_cases h0 : n = 0
  · subst h0
    have T0 : Hid (cmpI (0 : Int) 0 = 0) := cmpIq0.2 rfl
    refine region_fr (C := [Fq.num 0, Fq.is (.int .i64 (cmpI 0 0)), Fq.is (.bool true)]) (ks := [none, none]) (new := []) E rfl (by kernel_rfl) rfl rfl (fun hp => ⟨?_, ?_, ?_, trivial⟩) ?_
    · exact q_loadInt (off := 0) hp (free_of rfl) trivial (List.mem_iff_getElem?.2 ⟨0, rfl⟩) (.inl rfl) (Nat.le_of_ble_eq_true rfl) (sq_out (s := 3) rfl rfl (fun _ _ => rfl)) (fun us w hl h => ld_num hl h)
    · exact q_call1 (F := (Fq.num 0).P) hp (free_of rfl) trivial (enq_R_Sign) (sqi 0) (fun v w h => exRSign h)
    · exact q_one (F := fun v _ => v = .int .i64 (cmpI 0 0)) hp (free_of rfl) trivial (sqi 1) (fun ρ w hc h => ⟨.bool true, by simp [execOp, go_sem, h, hc, T0.out], rfl⟩)
    intro L vs w3 nb hL hC hn E3
    have e1 : vs 1 = .int .i64 (cmpI 0 0) := hC 1 (by simp)
    have e2 : vs 2 = .bool true := hC 2 (by simp)
    have E : Fr w [(b2, 2, Fq.num 0), (b1, 2, Fq.num a)] w3 := E3
    rw [lay_all hL]
    simp only [putAll, dstOf, List.length_cons, List.length_nil, Nat.zero_add, Nat.reduceAdd, List.getElem?_toArray, List.getElem?_cons_zero, List.getElem?_cons_succ, Option.bind_some, Act.put, List.setIfInBounds_toArray, List.set_cons_succ, List.set_cons_zero]
    rw [e1, e2]
    generalize vs 0 = u3_0
    clear e1 e2 hC hn E3 hL vs L nb
    clear T0
    by_cases h1 : a.natAbs = 1
    · have T2 : Hid (decide ((Int.natAbs a : Int) = 1) = true) := decide_eq_true (by omega)
      have HK : Hid (kron a 0 = 1) := by show _ = _; unfold kron; rw [if_pos rfl, if_pos h1]
      clear h1
      go_upto_region 2 with (fail)
      have B4 : Hid (ab ((Int.natAbs a : Int)) < pw 20) := ab_absB ha.out
      have B5 : Hid (ab ((1)) < pw 3) := ab_lit (by decide)
      refine region_fr (C := [Fq.num a, Fq.num (Int.natAbs a : Int), Fq.num (1), Fq.is (.bool true)]) (ks := [none, none]) (new := []) E rfl (by kernel_rfl) rfl rfl (fun hp => ⟨?_, ?_, ?_, ?_, trivial⟩) ?_
      · exact q_loadInt (off := 0) hp (free_of rfl) trivial (List.mem_iff_getElem?.2 ⟨1, rfl⟩) (.inl rfl) (Nat.le_of_ble_eq_true rfl) (sq_out (s := 2) rfl rfl (fun _ _ => rfl)) (fun us w hl h => ld_num hl h)
      · exact q_call1 (F := (Fq.num a).P) hp (free_of rfl) trivial (enq_R_Abs) (sqi 0) (fun v w h => exK (RAbsV h) B4.out (by omega))
      · exact q_call1 (F := (Fq.is (.int .i64 1)).P) hp (free_of rfl) trivial (enq_R_Of) (sq_const (fun _ => rfl)) (fun v w h => (by subst h; exact rOfK w (1) (by omega) (by omega)))
      · exact q_call2 (F := (Fq.num (Int.natAbs a : Int)).P) (G := (Fq.num (1)).P) hp (free_of rfl) trivial (enq_R_Same) (sqi 1) (sqi 2) (fun v v' w h h' => exRSameB h h' T2.out)
      intro L vs w6 nb hL hC hn E6
      have e3 : vs 3 = .bool true := hC 3 (by simp)
      have E : Fr w [(b2, 2, Fq.num 0), (b1, 2, Fq.num a)] w6 := E6
      rw [lay_all hL]
      simp only [putAll, dstOf, List.length_cons, List.length_nil, Nat.zero_add, Nat.reduceAdd, List.getElem?_toArray, List.getElem?_cons_zero, List.getElem?_cons_succ, Option.bind_some, Act.put, List.setIfInBounds_toArray, List.set_cons_succ, List.set_cons_zero]
      rw [e3]
      generalize vs 0 = u6_0
      generalize vs 1 = u6_1
      generalize vs 2 = u6_2
      clear e3 hC hn E6 hL vs L nb
      clear T2
      go_upto_region 3 with (fail)
      refine region_fr (C := [Fq.is (.int .i64 1)]) (ks := [none, none]) (new := []) E rfl (by kernel_rfl) rfl rfl (fun hp => ⟨?_, trivial⟩) ?_
      · exact q_assign hp (free_of rfl) trivial (sq_const (fun _ => rfl))
      intro L vs w7 nb hL hC hn E7
      have e0 : vs 0 = .int .i64 1 := hC 0 (by simp)
      have E : Fr w [(b2, 2, Fq.num 0), (b1, 2, Fq.num a)] w7 := E7
      rw [lay_all hL]
      simp only [putAll, dstOf, List.length_cons, List.length_nil, Nat.zero_add, List.getElem?_toArray, List.getElem?_cons_zero, Option.bind_some, Act.put, List.setIfInBounds_toArray, List.set_cons_succ, List.set_cons_zero]
      rw [e0]
      clear e0 hC hn E7 hL vs L nb
      clear B4 B5 ha hn
      go_wp2
      refine bodyPost_ret (v := .int .i64 1) ?_ rfl (by first | exact ⟨_, rfl, E.below, by rw [HK.out]⟩ | exact ⟨_, rfl, E.below⟩ | exact ⟨rfl, E.below⟩)
      simp [results, Tryz.results15, go_sem]
    · have T2 : Hid (decide ((Int.natAbs a : Int) = 1) = false) := decide_eq_false (by omega)
      have HK : Hid (kron a 0 = 0) := by show _ = _; unfold kron; rw [if_pos rfl, if_neg h1]
      clear h1
      go_upto_region 2 with (fail)
      have B8 : Hid (ab ((Int.natAbs a : Int)) < pw 20) := ab_absB ha.out
      have B9 : Hid (ab ((1)) < pw 3) := ab_lit (by decide)
      refine region_fr (C := [Fq.num a, Fq.num (Int.natAbs a : Int), Fq.num (1), Fq.is (.bool false)]) (ks := [none, none]) (new := []) E rfl (by kernel_rfl) rfl rfl (fun hp => ⟨?_, ?_, ?_, ?_, trivial⟩) ?_
      · exact q_loadInt (off := 0) hp (free_of rfl) trivial (List.mem_iff_getElem?.2 ⟨1, rfl⟩) (.inl rfl) (Nat.le_of_ble_eq_true rfl) (sq_out (s := 2) rfl rfl (fun _ _ => rfl)) (fun us w hl h => ld_num hl h)
      · exact q_call1 (F := (Fq.num a).P) hp (free_of rfl) trivial (enq_R_Abs) (sqi 0) (fun v w h => exK (RAbsV h) B8.out (by omega))
      · exact q_call1 (F := (Fq.is (.int .i64 1)).P) hp (free_of rfl) trivial (enq_R_Of) (sq_const (fun _ => rfl)) (fun v w h => (by subst h; exact rOfK w (1) (by omega) (by omega)))
      · exact q_call2 (F := (Fq.num (Int.natAbs a : Int)).P) (G := (Fq.num (1)).P) hp (free_of rfl) trivial (enq_R_Same) (sqi 1) (sqi 2) (fun v v' w h h' => exRSameB h h' T2.out)
      intro L vs w10 nb hL hC hn E10
      have e3 : vs 3 = .bool false := hC 3 (by simp)
      have E : Fr w [(b2, 2, Fq.num 0), (b1, 2, Fq.num a)] w10 := E10
      rw [lay_all hL]
      simp only [putAll, dstOf, List.length_cons, List.length_nil, Nat.zero_add, Nat.reduceAdd, List.getElem?_toArray, List.getElem?_cons_zero, List.getElem?_cons_succ, Option.bind_some, Act.put, List.setIfInBounds_toArray, List.set_cons_succ, List.set_cons_zero]
      rw [e3]
      generalize vs 0 = u10_0
      generalize vs 1 = u10_1
      generalize vs 2 = u10_2
      clear e3 hC hn E10 hL vs L nb
      clear T2
      go_upto_region 4 with (fail)
      refine region_fr (C := [Fq.is (.int .i64 0)]) (ks := [none, none]) (new := []) E rfl (by kernel_rfl) rfl rfl (fun hp => ⟨?_, trivial⟩) ?_
      · exact q_assign hp (free_of rfl) trivial (sq_const (fun _ => rfl))
      intro L vs w11 nb hL hC hn E11
      have e0 : vs 0 = .int .i64 0 := hC 0 (by simp)
      have E : Fr w [(b2, 2, Fq.num 0), (b1, 2, Fq.num a)] w11 := E11
      rw [lay_all hL]
      simp only [putAll, dstOf, List.length_cons, List.length_nil, Nat.zero_add, List.getElem?_toArray, List.getElem?_cons_zero, Option.bind_some, Act.put, List.setIfInBounds_toArray, List.set_cons_succ, List.set_cons_zero]
      rw [e0]
      clear e0 hC hn E11 hL vs L nb
      clear B8 B9 ha hn
      go_wp2
      refine bodyPost_ret (v := .int .i64 0) ?_ rfl (by first | exact ⟨_, rfl, E.below, by rw [HK.out]⟩ | exact ⟨_, rfl, E.below⟩ | exact ⟨rfl, E.below⟩)
      simp [results, Tryz.results15, go_sem]
  · have HNZ : Hid (n ≠ 0) := h0
    have T0 : Hid (¬ cmpI n 0 = 0) := fun e => h0 (cmpIq0.1 e)
    obtain ⟨sb, hsb⟩ : ∃ sb, sb = decide (a < 0 ∧ n < 0) := ⟨_, rfl⟩
    have HSB := hidd hsb
    clear h0 hsb
    refine region_fr (C := [Fq.num n, Fq.is (.int .i64 (cmpI n 0)), Fq.is (.bool false)]) (ks := [none, none]) (new := []) E rfl (by kernel_rfl) rfl rfl (fun hp => ⟨?_, ?_, ?_, trivial⟩) ?_
    · exact q_loadInt (off := 0) hp (free_of rfl) trivial (List.mem_iff_getElem?.2 ⟨0, rfl⟩) (.inl rfl) (Nat.le_of_ble_eq_true rfl) (sq_out (s := 3) rfl rfl (fun _ _ => rfl)) (fun us w hl h => ld_num hl h)
    · exact q_call1 (F := (Fq.num n).P) hp (free_of rfl) trivial (enq_R_Sign) (sqi 0) (fun v w h => exRSign h)
    · exact q_one (F := fun v _ => v = .int .i64 (cmpI n 0)) hp (free_of rfl) trivial (sqi 1) (fun ρ w hc h => ⟨.bool false, by simp [execOp, go_sem, h, hc, T0.out], rfl⟩)
    intro L vs w12 nb hL hC hn E12
    have e1 : vs 1 = .int .i64 (cmpI n 0) := hC 1 (by simp)
    have e2 : vs 2 = .bool false := hC 2 (by simp)
    have E : Fr w [(b2, 2, Fq.num n), (b1, 2, Fq.num a)] w12 := E12
    rw [lay_all hL]
    simp only [putAll, dstOf, List.length_cons, List.length_nil, Nat.zero_add, Nat.reduceAdd, List.getElem?_toArray, List.getElem?_cons_zero, List.getElem?_cons_succ, Option.bind_some, Act.put, List.setIfInBounds_toArray, List.set_cons_succ, List.set_cons_zero]
    rw [e1, e2]
    generalize vs 0 = u12_0
    clear e1 e2 hC hn E12 hL vs L nb
    clear T0
    go_upto_region 5 with (fail)
    refine region_fr (C := [Fq.is (.int .i64 1)]) (ks := [none, none]) (new := []) E rfl (by kernel_rfl) rfl rfl (fun hp => ⟨?_, trivial⟩) ?_
    · exact q_assign hp (free_of rfl) trivial (sq_const (fun _ => rfl))
    intro L vs w13 nb hL hC hn E13
    have e0 : vs 0 = .int .i64 1 := hC 0 (by simp)
    have E : Fr w [(b2, 2, Fq.num n), (b1, 2, Fq.num a)] w13 := E13
    rw [lay_all hL]
    simp only [putAll, dstOf, List.length_cons, List.length_nil, Nat.zero_add, List.getElem?_toArray, List.getElem?_cons_zero, Option.bind_some, Act.put, List.setIfInBounds_toArray, List.set_cons_succ, List.set_cons_zero]
    rw [e0]
    clear e0 hC hn E13 hL vs L nb
    go_upto_region 6 with (fail)
    go_cut [21] from 14 (fun s W => s = .bool sb ∧ Fr w [(b2, 2, Fq.num n), (b1, 2, Fq.num a)] W)
    case first =>
      by_cases h1 : n < 0
      · by_cases h2 : a < 0
        · have P1 : Hid (cmpI n 0 < 0) := cmpIqlt.2 h1
          have P2 : Hid (cmpI a 0 < 0) := cmpIqlt.2 h2
          have PB : Hid (true = sb) := by show _ = _; rw [HSB.out, decide_eq_true ⟨h2, h1⟩]
          clear h1 h2
          refine region_fr (C := [Fq.num n, Fq.is (.int .i64 (cmpI n 0)), Fq.is (.bool true), Fq.is (.bool true), Fq.num a, Fq.is (.int .i64 (cmpI a 0)), Fq.is (.bool true), Fq.is (.bool true)]) (ks := [none, none]) (new := []) E rfl (by kernel_rfl) rfl rfl (fun hp => ⟨?_, ?_, ?_, ?_, ?_, ?_, ?_, ?_, trivial⟩) ?_
          · exact q_loadInt (off := 0) hp (free_of rfl) trivial (List.mem_iff_getElem?.2 ⟨0, rfl⟩) (.inl rfl) (Nat.le_of_ble_eq_true rfl) (sq_out (s := 3) rfl rfl (fun _ _ => rfl)) (fun us w hl h => ld_num hl h)
          · exact q_call1 (F := (Fq.num n).P) hp (free_of rfl) trivial (enq_R_Sign) (sqi 0) (fun v w h => exRSign h)
          · exact q_one (F := fun v _ => v = .int .i64 (cmpI n 0)) hp (free_of rfl) trivial (sqi 1) (fun ρ w hc h => ⟨.bool true, by simp [execOp, go_sem, h, hc, P1.out], rfl⟩)
          · exact q_move hp (free_of rfl) trivial (sqi 2)
          · exact q_loadInt (off := 0) hp (free_of rfl) (gq_some rfl rfl (by simp) rfl (fun v w h => h)) (List.mem_iff_getElem?.2 ⟨1, rfl⟩) (.inl rfl) (Nat.le_of_ble_eq_true rfl) (sq_out (s := 2) rfl rfl (fun _ _ => rfl)) (fun us w hl h => ld_num hl h)
          · exact q_call1 (F := (Fq.num a).P) hp (free_of rfl) (gq_some rfl rfl (by simp) rfl (fun v w h => h)) (enq_R_Sign) (sqi 4) (fun v w h => exRSign h)
          · exact q_one (F := fun v _ => v = .int .i64 (cmpI a 0)) hp (free_of rfl) (gq_some rfl rfl (by simp) rfl (fun v w h => h)) (sqi 5) (fun ρ w hc h => ⟨.bool true, by simp [execOp, go_sem, h, hc, P2.out], rfl⟩)
          · exact q_two (F := fun v _ => v = .bool true) (G := fun v _ => v = .bool true) hp (free_of rfl) trivial (sqi 3) (sqi 6) (fun ρ w hc h h' => ⟨_, by simp [execOp, go_sem, h, h'], rfl⟩)
          intro L vs w14 nb hL hC hn E14
          have e1 : vs 1 = .int .i64 (cmpI n 0) := hC 1 (by simp)
          have e2 : vs 2 = .bool true := hC 2 (by simp)
          have e3 : vs 3 = .bool true := hC 3 (by simp)
          have e5 : vs 5 = .int .i64 (cmpI a 0) := hC 5 (by simp)
          have e6 : vs 6 = .bool true := hC 6 (by simp)
          have e7 : vs 7 = .bool true := hC 7 (by simp)
          have E : Fr w [(b2, 2, Fq.num n), (b1, 2, Fq.num a)] w14 := E14
          rw [lay_all hL]
          simp only [putAll, dstOf, List.length_cons, List.length_nil, Nat.zero_add, Nat.reduceAdd, List.getElem?_toArray, List.getElem?_cons_zero, List.getElem?_cons_succ, Option.bind_some, Act.put, List.setIfInBounds_toArray, List.set_cons_succ, List.set_cons_zero]
          rw [e1, e2, e3, e5, e6, e7]
          generalize vs 0 = u14_0
          generalize vs 4 = u14_4
          clear e1 e2 e3 e5 e6 e7 hC hn E14 hL vs L nb
          go_wp2_with (fail)
          go_meet
          case rel => exact ⟨congrArg Value.bool PB.out, E⟩
        · have P1 : Hid (cmpI n 0 < 0) := cmpIqlt.2 h1
          have P2 : Hid (¬ cmpI a 0 < 0) := mt cmpIqlt.1 h2
          have PB : Hid (false = sb) := by show _ = _; rw [HSB.out, decide_eq_false (fun h => h2 h.1)]
          clear h1 h2
          refine region_fr (C := [Fq.num n, Fq.is (.int .i64 (cmpI n 0)), Fq.is (.bool true), Fq.is (.bool true), Fq.num a, Fq.is (.int .i64 (cmpI a 0)), Fq.is (.bool false), Fq.is (.bool false)]) (ks := [none, none]) (new := []) E rfl (by kernel_rfl) rfl rfl (fun hp => ⟨?_, ?_, ?_, ?_, ?_, ?_, ?_, ?_, trivial⟩) ?_
          · exact q_loadInt (off := 0) hp (free_of rfl) trivial (List.mem_iff_getElem?.2 ⟨0, rfl⟩) (.inl rfl) (Nat.le_of_ble_eq_true rfl) (sq_out (s := 3) rfl rfl (fun _ _ => rfl)) (fun us w hl h => ld_num hl h)
          · exact q_call1 (F := (Fq.num n).P) hp (free_of rfl) trivial (enq_R_Sign) (sqi 0) (fun v w h => exRSign h)
          · exact q_one (F := fun v _ => v = .int .i64 (cmpI n 0)) hp (free_of rfl) trivial (sqi 1) (fun ρ w hc h => ⟨.bool true, by simp [execOp, go_sem, h, hc, P1.out], rfl⟩)
          · exact q_move hp (free_of rfl) trivial (sqi 2)
          · exact q_loadInt (off := 0) hp (free_of rfl) (gq_some rfl rfl (by simp) rfl (fun v w h => h)) (List.mem_iff_getElem?.2 ⟨1, rfl⟩) (.inl rfl) (Nat.le_of_ble_eq_true rfl) (sq_out (s := 2) rfl rfl (fun _ _ => rfl)) (fun us w hl h => ld_num hl h)
          · exact q_call1 (F := (Fq.num a).P) hp (free_of rfl) (gq_some rfl rfl (by simp) rfl (fun v w h => h)) (enq_R_Sign) (sqi 4) (fun v w h => exRSign h)
          · exact q_one (F := fun v _ => v = .int .i64 (cmpI a 0)) hp (free_of rfl) (gq_some rfl rfl (by simp) rfl (fun v w h => h)) (sqi 5) (fun ρ w hc h => ⟨.bool false, by simp [execOp, go_sem, h, hc, P2.out], rfl⟩)
          · exact q_two (F := fun v _ => v = .bool true) (G := fun v _ => v = .bool false) hp (free_of rfl) trivial (sqi 3) (sqi 6) (fun ρ w hc h h' => ⟨_, by simp [execOp, go_sem, h, h'], rfl⟩)
          intro L vs w15 nb hL hC hn E15
          have e1 : vs 1 = .int .i64 (cmpI n 0) := hC 1 (by simp)
          have e2 : vs 2 = .bool true := hC 2 (by simp)
          have e3 : vs 3 = .bool true := hC 3 (by simp)
          have e5 : vs 5 = .int .i64 (cmpI a 0) := hC 5 (by simp)
          have e6 : vs 6 = .bool false := hC 6 (by simp)
          have e7 : vs 7 = .bool false := hC 7 (by simp)
          have E : Fr w [(b2, 2, Fq.num n), (b1, 2, Fq.num a)] w15 := E15
          rw [lay_all hL]
          simp only [putAll, dstOf, List.length_cons, List.length_nil, Nat.zero_add, Nat.reduceAdd, List.getElem?_toArray, List.getElem?_cons_zero, List.getElem?_cons_succ, Option.bind_some, Act.put, List.setIfInBounds_toArray, List.set_cons_succ, List.set_cons_zero]
          rw [e1, e2, e3, e5, e6, e7]
          generalize vs 0 = u15_0
          generalize vs 4 = u15_4
          clear e1 e2 e3 e5 e6 e7 hC hn E15 hL vs L nb
          go_wp2_with (fail)
          go_meet
          case rel => exact ⟨congrArg Value.bool PB.out, E⟩
      · have P1 : Hid (¬ cmpI n 0 < 0) := mt cmpIqlt.1 h1
        have PB : Hid (false = sb) := by show _ = _; rw [HSB.out, decide_eq_false (fun h => h1 h.2)]
        clear h1
        refine region_fr (C := [Fq.num n, Fq.is (.int .i64 (cmpI n 0)), Fq.is (.bool false), Fq.is (.bool false), Fq.is (undef), Fq.is (undef), Fq.is (undef), Fq.is (.bool false)]) (ks := [none, none]) (new := []) E rfl (by kernel_rfl) rfl rfl (fun hp => ⟨?_, ?_, ?_, ?_, ?_, ?_, ?_, ?_, trivial⟩) ?_
        · exact q_loadInt (off := 0) hp (free_of rfl) trivial (List.mem_iff_getElem?.2 ⟨0, rfl⟩) (.inl rfl) (Nat.le_of_ble_eq_true rfl) (sq_out (s := 3) rfl rfl (fun _ _ => rfl)) (fun us w hl h => ld_num hl h)
        · exact q_call1 (F := (Fq.num n).P) hp (free_of rfl) trivial (enq_R_Sign) (sqi 0) (fun v w h => exRSign h)
        · exact q_one (F := fun v _ => v = .int .i64 (cmpI n 0)) hp (free_of rfl) trivial (sqi 1) (fun ρ w hc h => ⟨.bool false, by simp [execOp, go_sem, h, hc, P1.out], rfl⟩)
        · exact q_move hp (free_of rfl) trivial (sqi 2)
        · exact q_skip hp (free_of rfl) rfl (gq_some rfl rfl (by simp) rfl (fun v w h => h)) (fun _ => rfl)
        · exact q_skip hp (free_of rfl) rfl (gq_some rfl rfl (by simp) rfl (fun v w h => h)) (fun _ => rfl)
        · exact q_skip hp (free_of rfl) rfl (gq_some rfl rfl (by simp) rfl (fun v w h => h)) (fun _ => rfl)
        · exact q_two (F := fun v _ => v = .bool false) (G := fun v _ => v = .bool false) hp (free_of rfl) trivial (sqi 3) (sq_const (fun _ => rfl)) (fun ρ w hc h h' => ⟨_, by simp [execOp, go_sem, h, h'], rfl⟩)
        intro L vs w16 nb hL hC hn E16
        have e1 : vs 1 = .int .i64 (cmpI n 0) := hC 1 (by simp)
        have e2 : vs 2 = .bool false := hC 2 (by simp)
        have e3 : vs 3 = .bool false := hC 3 (by simp)
        have e4 : vs 4 = undef := hC 4 (by simp)
        have e5 : vs 5 = undef := hC 5 (by simp)
        have e6 : vs 6 = undef := hC 6 (by simp)
        have e7 : vs 7 = .bool false := hC 7 (by simp)
        have E : Fr w [(b2, 2, Fq.num n), (b1, 2, Fq.num a)] w16 := E16
        rw [lay_all hL]
        simp only [putAll, dstOf, List.length_cons, List.length_nil, Nat.zero_add, Nat.reduceAdd, List.getElem?_toArray, List.getElem?_cons_zero, List.getElem?_cons_succ, Option.bind_some, Act.put, List.setIfInBounds_toArray, List.set_cons_succ, List.set_cons_zero]
        rw [e1, e2, e3, e4, e5, e6, e7]
        generalize vs 0 = u16_0
        clear e1 e2 e3 e4 e5 e6 e7 hC hn E16 hL vs L nb
        go_wp2_with (fail)
        go_meet
        case rel => exact ⟨congrArg Value.bool PB.out, E⟩
    case rest =>
      clear E
      obtain ⟨rfl, E⟩ := hcut
      obtain ⟨o, ho⟩ : ∃ o : Int, o = if sb then -1 else 1 := ⟨_, rfl⟩
      have HO := hidd ho
      clear ho
      go_upto_if 21 with (fail)
      go_cut [5] from 7 (fun s W => s = .int .i64 o ∧ Fr w [(b2, 2, Fq.num n), (b1, 2, Fq.num a)] W)
      case first =>
        cases sb
        · go_wp2_with (fail)
          go_meet
          case rel => exact ⟨by rw [HO.out]; rfl, E⟩
        · go_wp2_with (fail)
          go_meet
          case rel => exact ⟨by rw [HO.out]; rfl, E⟩
      case rest =>
        clear E
        obtain ⟨rfl, E⟩ := hcut
        have HSO : Hid ((o = 1 ∨ o = -1) ∧ o * kro a (Int.natAbs n : Int).natAbs = kron a n) := by
          have h := kron_sg (a := a) HNZ.out
          show _ ∧ _
          rw [HO.out, HSB.out]
          by_cases hs : a < 0 ∧ n < 0
          · rw [if_pos hs] at h; rw [decide_eq_true hs]; exact ⟨.inr rfl, h⟩
          · rw [if_neg hs] at h; rw [decide_eq_false hs]; exact ⟨.inl rfl, h⟩
        clear HO HSB
        go_upto_region 8 with (fail)
        have B17 : Hid (ab ((Int.natAbs n : Int)) < pw 20) := ab_absB hn.out
        refine region_fr (C := [Fq.num n, Fq.num (Int.natAbs n : Int), Fq.any]) (ks := [some (2, Fq.num (Int.natAbs n : Int)), none]) (new := []) E rfl (by kernel_rfl) rfl rfl (fun hp => ⟨?_, ?_, ?_, trivial⟩) ?_
        · exact q_loadInt (off := 0) hp (free_of rfl) trivial (List.mem_iff_getElem?.2 ⟨0, rfl⟩) (.inr rfl) (Nat.le_of_ble_eq_true rfl) (sq_out (s := 3) rfl rfl (fun _ _ => rfl)) (fun us w hl h => ld_num hl h)
        · exact q_call1 (F := (Fq.num n).P) hp (free_of rfl) trivial (enq_R_Abs) (sqi 0) (fun v w h => exK (RAbsV h) B17.out (by omega))
        · exact q_storeOldInt hp (List.mem_iff_getElem?.2 ⟨0, rfl⟩) rfl rfl (sq_out (s := 3) rfl rfl (fun _ _ => rfl)) (sq_in 1 rfl rfl (by simp) rfl (fun v w h => intV_num h)) (fun _ _ => trivial) (newik_ne rfl)
        intro L vs w18 nb hL hC hn E18
        have E : Fr w [(b2, 2, Fq.num (Int.natAbs n : Int)), (b1, 2, Fq.num a)] w18 := E18
        rw [lay_all hL]
        simp only [putAll, dstOf, List.length_cons, List.length_nil, Nat.zero_add, Nat.reduceAdd, List.getElem?_toArray, List.getElem?_cons_zero, List.getElem?_cons_succ, Option.bind_some, Act.put, List.setIfInBounds_toArray, List.set_cons_succ, List.set_cons_zero]
        generalize vs 0 = u18_0
        generalize vs 1 = u18_1
        clear  hC hn E18 hL vs L nb
        have HS := hidd E
        go_upto_region 9 with (fail)
        go_loopw [5] (fun vs W => ∃ y s : Int, vs = .int .i64 s ∧ Bd20 y ∧ Hid (0 < y ∧ (s = 1 ∨ s = -1) ∧ s * kro a y.natAbs = kron a n) ∧ Fr w [(b2, 2, Fq.num y), (b1, 2, Fq.num a)] W) (fun _ W => boxVal W b2)
        case atStart => exact ⟨(Int.natAbs n : Int), o, rfl, ⟨B17.out⟩, ⟨by have := HNZ.out; omega, HSO.out.1, HSO.out.2⟩, HS.out⟩
        case round =>
          obtain ⟨V0, rfl⟩ : ∃ V0, V0 = wr := ⟨_, rfl⟩
          obtain ⟨y, s, rfl, HB, HI, E⟩ := hrel
          clear HS HSO hn B17
          have HBV := hidd (boxVal_eq (bq_box (E.box 0 rfl)))
          by_cases hy : y % 2 = 0
          · have HYP : Hid (0 < y / (2)) := by have := HI.out.1; show _ < _; omega
            have P1 := hidd hy
            have HSP := hidd (kro_step (a := a) HI.out.1 hy)
            obtain ⟨t, ht⟩ : ∃ t, t = two a := ⟨_, rfl⟩
            have HT := hidd ht
            have HTT : Hid (t = 0 ∨ t = 1 ∨ t = -1) := by rw [ht]; exact two_tri0 a
            have HW := hidd (sgn_wrapJ HI.out.2.1 HTT.out)
            clear hy ht
            go_upto_region 9 with (fail)
            refine region_fr (C := [Fq.num y, Fq.is (.int .i64 (y % 2)), Fq.is (.bool true)]) (ks := [none, none]) (new := []) E rfl (by kernel_rfl) rfl rfl (fun hp => ⟨?_, ?_, ?_, trivial⟩) ?_
            · exact q_loadInt (off := 0) hp (free_of rfl) trivial (List.mem_iff_getElem?.2 ⟨0, rfl⟩) (.inl rfl) (Nat.le_of_ble_eq_true rfl) (sq_out (s := 3) rfl rfl (fun _ _ => rfl)) (fun us w hl h => ld_num hl h)
            · exact q_call2 (F := (Fq.num y).P) (G := (Fq.is (.int .i64 2)).P) hp (free_of rfl) trivial (enq_U_small) (sqi 0) (sq_const (fun _ => rfl)) (fun v v' w h h' => (by subst h'; exact exUSmall h (Int.lt_of_lt_of_le HB.out (pw_le (by omega))) (by omega)))
            · exact q_one (F := fun v _ => v = .int .i64 (y % 2)) hp (free_of rfl) trivial (sqi 1) (fun ρ w hc h => ⟨.bool true, by simp [execOp, go_sem, h, hc, P1.out], rfl⟩)
            intro L vs w19 nb hL hC hn E19
            have e1 : vs 1 = .int .i64 (y % 2) := hC 1 (by simp)
            have e2 : vs 2 = .bool true := hC 2 (by simp)
            have E : Fr w [(b2, 2, Fq.num y), (b1, 2, Fq.num a)] w19 := E19
            rw [lay_all hL]
            simp only [putAll, dstOf, List.length_cons, List.length_nil, Nat.zero_add, Nat.reduceAdd, List.getElem?_toArray, List.getElem?_cons_zero, List.getElem?_cons_succ, Option.bind_some, Act.put, List.setIfInBounds_toArray, List.set_cons_succ, List.set_cons_zero]
            rw [e1, e2]
            generalize vs 0 = u19_0
            clear e1 e2 hC hn E19 hL vs L nb
            clear P1
            go_upto_region 10 with (fail)
            refine region_fr (C := [Fq.is (.int .i64 s), Fq.num a, Fq.is (.int .i64 t), Fq.is (.int .i64 (s * t)), Fq.is (.int .i64 (s * t))]) (ks := [none, none]) (new := []) E rfl (by kernel_rfl) rfl rfl (fun hp => ⟨?_, ?_, ?_, ?_, ?_, trivial⟩) ?_
            · exact q_moveB 4 3 hp (free_of rfl) trivial rfl rfl rfl rfl (fun _ => rfl)
            · exact q_loadInt (off := 0) hp (free_of rfl) trivial (List.mem_iff_getElem?.2 ⟨1, rfl⟩) (.inl rfl) (Nat.le_of_ble_eq_true rfl) (sq_out (s := 2) rfl rfl (fun _ _ => rfl)) (fun us w hl h => ld_num hl h)
            · exact q_call1 (F := (Fq.num a).P) hp (free_of rfl) trivial (enq_U_two) (sqi 1) (fun v w h => (by rw [HT.out]; exact exUTwo h ha.out))
            · exact q_two (F := fun v _ => v = .int .i64 s) (G := fun v _ => v = .int .i64 t) hp (free_of rfl) trivial (sqi 0) (sqi 2) (fun ρ w hc h h' => ⟨.int .i64 (s * t), by simp [execOp, go_sem, h, h', HW.out], rfl⟩)
            · exact q_assign hp (free_of rfl) trivial (sqi 3)
            intro L vs w20 nb hL hC hn E20
            have e0 : vs 0 = .int .i64 s := hC 0 (by simp)
            have e2 : vs 2 = .int .i64 t := hC 2 (by simp)
            have e3 : vs 3 = .int .i64 (s * t) := hC 3 (by simp)
            have e4 : vs 4 = .int .i64 (s * t) := hC 4 (by simp)
            have E : Fr w [(b2, 2, Fq.num y), (b1, 2, Fq.num a)] w20 := E20
            rw [lay_all hL]
            simp only [putAll, dstOf, List.length_cons, List.length_nil, Nat.zero_add, Nat.reduceAdd, List.getElem?_toArray, List.getElem?_cons_zero, List.getElem?_cons_succ, Option.bind_some, Act.put, List.setIfInBounds_toArray, List.set_cons_succ, List.set_cons_zero]
            rw [e0, e2, e3, e4]
            generalize vs 1 = u20_1
            clear e0 e2 e3 e4 hC hn E20 hL vs L nb
            clear HW
            have H2Z : Hid ((2 : Int) ≠ 0) := by show _ ≠ _; decide
            go_upto_region 11 with (fail)
            have B21 : Hid (ab ((2)) < pw 3) := ab_lit (by decide)
            have B22 : Hid (ab ((y / (2))) < pw 21) := ab_divB HB.out (by omega)
            refine region_fr (C := [Fq.num y, Fq.num (2), Fq.num (y / (2)), Fq.any]) (ks := [some (3, Fq.num (y / (2))), none]) (new := []) E rfl (by kernel_rfl) rfl rfl (fun hp => ⟨?_, ?_, ?_, ?_, trivial⟩) ?_
            · exact q_loadInt (off := 0) hp (free_of rfl) trivial (List.mem_iff_getElem?.2 ⟨0, rfl⟩) (.inr rfl) (Nat.le_of_ble_eq_true rfl) (sq_out (s := 3) rfl rfl (fun _ _ => rfl)) (fun us w hl h => ld_num hl h)
            · exact q_call1 (F := (Fq.is (.int .i64 2)).P) hp (free_of rfl) trivial (enq_R_Of) (sq_const (fun _ => rfl)) (fun v w h => (by subst h; exact rOfK w (2) (by omega) (by omega)))
            · exact q_call2 (F := (Fq.num y).P) (G := (Fq.num (2)).P) hp (free_of rfl) trivial (enq_R_Div) (sqi 0) (sqi 1) (fun v v' w h h' => exRDiv h h' H2Z.out (Int.lt_of_lt_of_le HB.out (pw_le (by omega))) (Int.lt_of_lt_of_le B21.out (pw_le (by omega))))
            · exact q_storeOldInt hp (List.mem_iff_getElem?.2 ⟨0, rfl⟩) rfl rfl (sq_out (s := 3) rfl rfl (fun _ _ => rfl)) (sq_in 2 rfl rfl (by simp) rfl (fun v w h => intV_num h)) (fun _ _ => trivial) (newik_ne rfl)
            intro L vs w23 nb hL hC hn E23
            have E : Fr w [(b2, 2, Fq.num (y / (2))), (b1, 2, Fq.num a)] w23 := E23
            rw [lay_all hL]
            simp only [putAll, dstOf, List.length_cons, List.length_nil, Nat.zero_add, Nat.reduceAdd, List.getElem?_toArray, List.getElem?_cons_zero, List.getElem?_cons_succ, Option.bind_some, Act.put, List.setIfInBounds_toArray, List.set_cons_succ, List.set_cons_zero]
            generalize vs 0 = u23_0
            generalize vs 1 = u23_1
            generalize vs 2 = u23_2
            clear  hC hn E23 hL vs L nb
            by_cases htz : t = 0
            · have PZ : Hid (s * t = 0) := by show _ = _; rw [htz, Int.mul_zero]
              have HK : Hid (kron a n = 0) := by show _ = _; rw [← HI.out.2.2, HSP.out, ← HT.out, htz, Int.zero_mul, Int.mul_zero]
              clear htz
              go_upto_region 12 with (fail)
              refine region_fr (C := [Fq.is (.int .i64 (s * t)), Fq.is (.bool true)]) (ks := [none, none]) (new := []) E rfl (by kernel_rfl) rfl rfl (fun hp => ⟨?_, ?_, trivial⟩) ?_
              · exact q_move hp (free_of rfl) trivial (sq_out (s := 5) rfl rfl (fun _ _ => rfl))
              · exact q_one (F := fun v _ => v = .int .i64 (s * t)) hp (free_of rfl) trivial (sqi 0) (fun ρ w hc h => ⟨.bool true, by simp [execOp, go_sem, h, hc, PZ.out], rfl⟩)
              intro L vs w24 nb hL hC hn E24
              have e0 : vs 0 = .int .i64 (s * t) := hC 0 (by simp)
              have e1 : vs 1 = .bool true := hC 1 (by simp)
              have E : Fr w [(b2, 2, Fq.num (y / (2))), (b1, 2, Fq.num a)] w24 := E24
              rw [lay_all hL]
              simp only [putAll, dstOf, List.length_cons, List.length_nil, Nat.zero_add, Nat.reduceAdd, List.getElem?_toArray, List.getElem?_cons_zero, List.getElem?_cons_succ, Option.bind_some, Act.put, List.setIfInBounds_toArray, List.set_cons_succ, List.set_cons_zero]
              rw [e0, e1]
              clear e0 e1 hC hn E24 hL vs L nb
              clear PZ HSP HT HTT H2Z HBV HI HB HNZ
              go_upto_region 13 with (fail)
              refine region_fr (C := [Fq.is (.int .i64 0)]) (ks := [none, none]) (new := []) E rfl (by kernel_rfl) rfl rfl (fun hp => ⟨?_, trivial⟩) ?_
              · exact q_assign hp (free_of rfl) trivial (sq_const (fun _ => rfl))
              intro L vs w25 nb hL hC hn E25
              have e0 : vs 0 = .int .i64 0 := hC 0 (by simp)
              have E : Fr w [(b2, 2, Fq.num (y / (2))), (b1, 2, Fq.num a)] w25 := E25
              rw [lay_all hL]
              simp only [putAll, dstOf, List.length_cons, List.length_nil, Nat.zero_add, List.getElem?_toArray, List.getElem?_cons_zero, Option.bind_some, Act.put, List.setIfInBounds_toArray, List.set_cons_succ, List.set_cons_zero]
              rw [e0]
              clear e0 hC hn E25 hL vs L nb
              clear B21 B22 ha
              go_wp2
              refine bodyPost_ret (v := .int .i64 0) ?_ rfl (by first | exact ⟨_, rfl, E.below, by rw [HK.out]⟩ | exact ⟨_, rfl, E.below⟩ | exact ⟨rfl, E.below⟩)
              simp [results, Tryz.results15, go_sem]
            · have HS1 := hidd (sgn_mulJ HI.out.2.1 HTT.out htz)
              have PZ : Hid (¬ s * t = 0) := by show ¬ _; rcases HS1.out with h | h <;> rw [h] <;> decide
              have HE : Hid (s * t * kro a (y / 2).natAbs = kron a n) := by show _ = _; rw [Int.mul_assoc, HT.out, ← HSP.out]; exact HI.out.2.2
              have HY2 : Hid (0 < y / (2)) := HYP.out
              clear htz
              go_upto_region 12 with (fail)
              refine region_fr (C := [Fq.is (.int .i64 (s * t)), Fq.is (.bool false)]) (ks := [none, none]) (new := []) E rfl (by kernel_rfl) rfl rfl (fun hp => ⟨?_, ?_, trivial⟩) ?_
              · exact q_move hp (free_of rfl) trivial (sq_out (s := 5) rfl rfl (fun _ _ => rfl))
              · exact q_one (F := fun v _ => v = .int .i64 (s * t)) hp (free_of rfl) trivial (sqi 0) (fun ρ w hc h => ⟨.bool false, by simp [execOp, go_sem, h, hc, PZ.out], rfl⟩)
              intro L vs w26 nb hL hC hn E26
              have e0 : vs 0 = .int .i64 (s * t) := hC 0 (by simp)
              have e1 : vs 1 = .bool false := hC 1 (by simp)
              have E : Fr w [(b2, 2, Fq.num (y / (2))), (b1, 2, Fq.num a)] w26 := E26
              rw [lay_all hL]
              simp only [putAll, dstOf, List.length_cons, List.length_nil, Nat.zero_add, Nat.reduceAdd, List.getElem?_toArray, List.getElem?_cons_zero, List.getElem?_cons_succ, Option.bind_some, Act.put, List.setIfInBounds_toArray, List.set_cons_succ, List.set_cons_zero]
              rw [e0, e1]
              clear e0 e1 hC hn E26 hL vs L nb
              clear PZ
              go_wp2
              go_roundw
              case rel => exact ⟨y / (2), s * t, rfl, ⟨ab_half HB.out HY2.out⟩, ⟨HY2.out, HS1.out, HE.out⟩, E⟩
              case measure => rw [boxVal_eq (bq_box (E.box 0 rfl)), HBV.out]; exact meas_half HY2.out
          · have P1 := hidd hy
            have HJ : Hid (s * J (a % y) y.toNat = kron a n) := by show _ = _; rw [← kro_stop HI.out.1 hy]; exact HI.out.2.2
            have HY1 : Hid (0 < y ∧ y % 2 = 1 ∧ (s = 1 ∨ s = -1)) := ⟨HI.out.1, by omega, HI.out.2.1⟩
            have HYN : Hid (y ≠ 0) := by have := HI.out.1; show _ ≠ _; omega
            clear hy
            go_upto_region 9 with (fail)
            refine region_fr (C := [Fq.num y, Fq.is (.int .i64 (y % 2)), Fq.is (.bool false)]) (ks := [none, none]) (new := []) E rfl (by kernel_rfl) rfl rfl (fun hp => ⟨?_, ?_, ?_, trivial⟩) ?_
            · exact q_loadInt (off := 0) hp (free_of rfl) trivial (List.mem_iff_getElem?.2 ⟨0, rfl⟩) (.inl rfl) (Nat.le_of_ble_eq_true rfl) (sq_out (s := 3) rfl rfl (fun _ _ => rfl)) (fun us w hl h => ld_num hl h)
            · exact q_call2 (F := (Fq.num y).P) (G := (Fq.is (.int .i64 2)).P) hp (free_of rfl) trivial (enq_U_small) (sqi 0) (sq_const (fun _ => rfl)) (fun v v' w h h' => (by subst h'; exact exUSmall h (Int.lt_of_lt_of_le HB.out (pw_le (by omega))) (by omega)))
            · exact q_one (F := fun v _ => v = .int .i64 (y % 2)) hp (free_of rfl) trivial (sqi 1) (fun ρ w hc h => ⟨.bool false, by simp [execOp, go_sem, h, hc, P1.out], rfl⟩)
            intro L vs w27 nb hL hC hn E27
            have e1 : vs 1 = .int .i64 (y % 2) := hC 1 (by simp)
            have e2 : vs 2 = .bool false := hC 2 (by simp)
            have E : Fr w [(b2, 2, Fq.num y), (b1, 2, Fq.num a)] w27 := E27
            rw [lay_all hL]
            simp only [putAll, dstOf, List.length_cons, List.length_nil, Nat.zero_add, Nat.reduceAdd, List.getElem?_toArray, List.getElem?_cons_zero, List.getElem?_cons_succ, Option.bind_some, Act.put, List.setIfInBounds_toArray, List.set_cons_succ, List.set_cons_zero]
            rw [e1, e2]
            generalize vs 0 = u27_0
            clear e1 e2 hC hn E27 hL vs L nb
            clear P1 HI HBV HNZ
            go_upto_region 14 with (fail)
            have B28 : Hid (ab ((a % y)) < pw 20) := ab_modB HYN.out HB.out
            refine region_fr (C := [Fq.num a, Fq.num y, Fq.num (a % y), Fq.any]) (ks := [none, some (3, Fq.num (a % y))]) (new := []) E rfl (by kernel_rfl) rfl rfl (fun hp => ⟨?_, ?_, ?_, ?_, trivial⟩) ?_
            · exact q_loadInt (off := 0) hp (free_of rfl) trivial (List.mem_iff_getElem?.2 ⟨1, rfl⟩) (.inr rfl) (Nat.le_of_ble_eq_true rfl) (sq_out (s := 2) rfl rfl (fun _ _ => rfl)) (fun us w hl h => ld_num hl h)
            · exact q_loadInt (off := 0) hp (free_of rfl) trivial (List.mem_iff_getElem?.2 ⟨0, rfl⟩) (.inl rfl) (Nat.le_of_ble_eq_true rfl) (sq_out (s := 3) rfl rfl (fun _ _ => rfl)) (fun us w hl h => ld_num hl h)
            · exact q_call2 (F := (Fq.num a).P) (G := (Fq.num y).P) hp (free_of rfl) trivial (enq_R_Mod) (sqi 0) (sqi 1) (fun v v' w h h' => exK (RModV h h' (Int.lt_of_lt_of_le ha.out (pw_le (by omega))) (Int.lt_of_lt_of_le HB.out (pw_le (by omega))) HYN.out) B28.out (by omega))
            · exact q_storeOldInt hp (List.mem_iff_getElem?.2 ⟨1, rfl⟩) rfl rfl (sq_out (s := 2) rfl rfl (fun _ _ => rfl)) (sq_in 2 rfl rfl (by simp) rfl (fun v w h => intV_num h)) (fun _ _ => trivial) (newik_ne rfl)
            intro L vs w29 nb hL hC hn E29
            have E : Fr w [(b2, 2, Fq.num y), (b1, 2, Fq.num (a % y))] w29 := E29
            rw [lay_all hL]
            simp only [putAll, dstOf, List.length_cons, List.length_nil, Nat.zero_add, Nat.reduceAdd, List.getElem?_toArray, List.getElem?_cons_zero, List.getElem?_cons_succ, Option.bind_some, Act.put, List.setIfInBounds_toArray, List.set_cons_succ, List.set_cons_zero]
            generalize vs 0 = u29_0
            generalize vs 1 = u29_1
            generalize vs 2 = u29_2
            clear  hC hn E29 hL vs L nb
            have HS := hidd E
            go_upto_region 15 with (fail)
            go_loopw [5, 6] (fun vs _ W => ∃ x m s : Int, vs = .int .i64 s ∧ (Bd20 x ∧ Bd20 m) ∧ Hid (0 ≤ x ∧ x < m ∧ m % 2 = 1 ∧ (s = 1 ∨ s = -1) ∧ s * J x m.toNat = kron a n) ∧ Fr w [(b2, 2, Fq.num m), (b1, 2, Fq.num x)] W) (fun _ _ W => boxVal W b2)
            case atStart => exact ⟨a % y, y, s, rfl, ⟨⟨B28.out⟩, HB⟩, ⟨Int.emod_nonneg _ HYN.out, Int.emod_lt_of_pos _ HY1.out.1, HY1.out.2.1, HY1.out.2.2, HJ.out⟩, HS.out⟩
            case round =>
              obtain ⟨V1, rfl⟩ : ∃ V1, V1 = wr := ⟨_, rfl⟩
              obtain ⟨x, m, s1, rfl, HB2, HI2, E⟩ := hrel
              clear HS HJ HY1 HYN HB ha B28
              have HBV1 := hidd (boxVal_eq (bq_box (E.box 0 rfl)))
              by_cases hx : x = 0
              · subst hx
                have P1 : Hid (cmpI (0 : Int) 0 = 0) := cmpIq0.2 rfl
                go_upto_region 15 with (fail)
                refine region_fr (C := [Fq.num 0, Fq.is (.int .i64 (cmpI 0 0)), Fq.is (.bool false)]) (ks := [none, none]) (new := []) E rfl (by kernel_rfl) rfl rfl (fun hp => ⟨?_, ?_, ?_, trivial⟩) ?_
                · exact q_loadInt (off := 0) hp (free_of rfl) trivial (List.mem_iff_getElem?.2 ⟨1, rfl⟩) (.inl rfl) (Nat.le_of_ble_eq_true rfl) (sq_out (s := 2) rfl rfl (fun _ _ => rfl)) (fun us w hl h => ld_num hl h)
                · exact q_call1 (F := (Fq.num 0).P) hp (free_of rfl) trivial (enq_R_Sign) (sqi 0) (fun v w h => exRSign h)
                · exact q_one (F := fun v _ => v = .int .i64 (cmpI 0 0)) hp (free_of rfl) trivial (sqi 1) (fun ρ w hc h => ⟨.bool false, by simp [execOp, go_sem, h, hc, P1.out], rfl⟩)
                intro L vs w30 nb hL hC hn E30
                have e1 : vs 1 = .int .i64 (cmpI 0 0) := hC 1 (by simp)
                have e2 : vs 2 = .bool false := hC 2 (by simp)
                have E : Fr w [(b2, 2, Fq.num m), (b1, 2, Fq.num 0)] w30 := E30
                rw [lay_all hL]
                simp only [putAll, dstOf, List.length_cons, List.length_nil, Nat.zero_add, Nat.reduceAdd, List.getElem?_toArray, List.getElem?_cons_zero, List.getElem?_cons_succ, Option.bind_some, Act.put, List.setIfInBounds_toArray, List.set_cons_succ, List.set_cons_zero]
                rw [e1, e2]
                generalize vs 0 = u30_0
                clear e1 e2 hC hn E30 hL vs L nb
                clear P1
                by_cases hm1 : m = 1
                · have T2 : Hid (decide (m = 1) = true) := decide_eq_true hm1
                  have HK : Hid (kron a n = s1) := by have := HI2.out; show _ = _; rw [← this.2.2.2.2, J_zero, if_pos (by omega), Int.mul_one]
                  clear hm1
                  go_upto_region 24 with (fail)
                  have B31 : Hid (ab ((1)) < pw 3) := ab_lit (by decide)
                  refine region_fr (C := [Fq.num m, Fq.num (1), Fq.is (.bool true), Fq.is (.bool false)]) (ks := [none, none]) (new := []) E rfl (by kernel_rfl) rfl rfl (fun hp => ⟨?_, ?_, ?_, ?_, trivial⟩) ?_
                  · exact q_loadInt (off := 0) hp (free_of rfl) trivial (List.mem_iff_getElem?.2 ⟨0, rfl⟩) (.inl rfl) (Nat.le_of_ble_eq_true rfl) (sq_out (s := 3) rfl rfl (fun _ _ => rfl)) (fun us w hl h => ld_num hl h)
                  · exact q_call1 (F := (Fq.is (.int .i64 1)).P) hp (free_of rfl) trivial (enq_R_Of) (sq_const (fun _ => rfl)) (fun v w h => (by subst h; exact rOfK w (1) (by omega) (by omega)))
                  · exact q_call2 (F := (Fq.num m).P) (G := (Fq.num (1)).P) hp (free_of rfl) trivial (enq_R_Same) (sqi 0) (sqi 1) (fun v v' w h h' => exRSameB h h' T2.out)
                  · exact q_one (F := fun v _ => v = .bool true) hp (free_of rfl) trivial (sqi 2) (fun ρ w _ h => ⟨.bool false, by simp [execOp, go_sem, h], rfl⟩)
                  intro L vs w32 nb hL hC hn E32
                  have e2 : vs 2 = .bool true := hC 2 (by simp)
                  have e3 : vs 3 = .bool false := hC 3 (by simp)
                  have E : Fr w [(b2, 2, Fq.num m), (b1, 2, Fq.num 0)] w32 := E32
                  rw [lay_all hL]
                  simp only [putAll, dstOf, List.length_cons, List.length_nil, Nat.zero_add, Nat.reduceAdd, List.getElem?_toArray, List.getElem?_cons_zero, List.getElem?_cons_succ, Option.bind_some, Act.put, List.setIfInBounds_toArray, List.set_cons_succ, List.set_cons_zero]
                  rw [e2, e3]
                  generalize vs 0 = u32_0
                  generalize vs 1 = u32_1
                  clear e2 e3 hC hn E32 hL vs L nb
                  clear T2 HI2 HB2 HBV1
                  go_upto_region 26 with (fail)
                  refine region_fr (C := [Fq.is (.int .i64 s1), Fq.is (.int .i64 s1)]) (ks := [none, none]) (new := []) E rfl (by kernel_rfl) rfl rfl (fun hp => ⟨?_, ?_, trivial⟩) ?_
                  · exact q_move hp (free_of rfl) trivial (sq_out (s := 5) rfl rfl (fun _ _ => rfl))
                  · exact q_assign hp (free_of rfl) trivial (sqi 0)
                  intro L vs w33 nb hL hC hn E33
                  have e0 : vs 0 = .int .i64 s1 := hC 0 (by simp)
                  have e1 : vs 1 = .int .i64 s1 := hC 1 (by simp)
                  have E : Fr w [(b2, 2, Fq.num m), (b1, 2, Fq.num 0)] w33 := E33
                  rw [lay_all hL]
                  simp only [putAll, dstOf, List.length_cons, List.length_nil, Nat.zero_add, Nat.reduceAdd, List.getElem?_toArray, List.getElem?_cons_zero, List.getElem?_cons_succ, Option.bind_some, Act.put, List.setIfInBounds_toArray, List.set_cons_succ, List.set_cons_zero]
                  rw [e0, e1]
                  clear e0 e1 hC hn E33 hL vs L nb
                  clear B31
                  go_wp2
                  refine bodyPost_ret (v := .int .i64 s1) ?_ rfl (by first | exact ⟨_, rfl, E.below, by rw [HK.out]⟩ | exact ⟨_, rfl, E.below⟩ | exact ⟨rfl, E.below⟩)
                  simp [results, Tryz.results15, go_sem]
                · have T2 : Hid (decide (m = 1) = false) := decide_eq_false hm1
                  have HK : Hid (kron a n = 0) := by have := HI2.out; show _ = _; rw [← this.2.2.2.2, J_zero, if_neg (by omega), Int.mul_zero]
                  clear hm1
                  go_upto_region 24 with (fail)
                  have B34 : Hid (ab ((1)) < pw 3) := ab_lit (by decide)
                  refine region_fr (C := [Fq.num m, Fq.num (1), Fq.is (.bool false), Fq.is (.bool true)]) (ks := [none, none]) (new := []) E rfl (by kernel_rfl) rfl rfl (fun hp => ⟨?_, ?_, ?_, ?_, trivial⟩) ?_
                  · exact q_loadInt (off := 0) hp (free_of rfl) trivial (List.mem_iff_getElem?.2 ⟨0, rfl⟩) (.inl rfl) (Nat.le_of_ble_eq_true rfl) (sq_out (s := 3) rfl rfl (fun _ _ => rfl)) (fun us w hl h => ld_num hl h)
                  · exact q_call1 (F := (Fq.is (.int .i64 1)).P) hp (free_of rfl) trivial (enq_R_Of) (sq_const (fun _ => rfl)) (fun v w h => (by subst h; exact rOfK w (1) (by omega) (by omega)))
                  · exact q_call2 (F := (Fq.num m).P) (G := (Fq.num (1)).P) hp (free_of rfl) trivial (enq_R_Same) (sqi 0) (sqi 1) (fun v v' w h h' => exRSameB h h' T2.out)
                  · exact q_one (F := fun v _ => v = .bool false) hp (free_of rfl) trivial (sqi 2) (fun ρ w _ h => ⟨.bool true, by simp [execOp, go_sem, h], rfl⟩)
                  intro L vs w35 nb hL hC hn E35
                  have e2 : vs 2 = .bool false := hC 2 (by simp)
                  have e3 : vs 3 = .bool true := hC 3 (by simp)
                  have E : Fr w [(b2, 2, Fq.num m), (b1, 2, Fq.num 0)] w35 := E35
                  rw [lay_all hL]
                  simp only [putAll, dstOf, List.length_cons, List.length_nil, Nat.zero_add, Nat.reduceAdd, List.getElem?_toArray, List.getElem?_cons_zero, List.getElem?_cons_succ, Option.bind_some, Act.put, List.setIfInBounds_toArray, List.set_cons_succ, List.set_cons_zero]
                  rw [e2, e3]
                  generalize vs 0 = u35_0
                  generalize vs 1 = u35_1
                  clear e2 e3 hC hn E35 hL vs L nb
                  clear T2 HI2 HB2 HBV1
                  go_upto_region 25 with (fail)
                  refine region_fr (C := [Fq.is (.int .i64 0)]) (ks := [none, none]) (new := []) E rfl (by kernel_rfl) rfl rfl (fun hp => ⟨?_, trivial⟩) ?_
                  · exact q_assign hp (free_of rfl) trivial (sq_const (fun _ => rfl))
                  intro L vs w36 nb hL hC hn E36
                  have e0 : vs 0 = .int .i64 0 := hC 0 (by simp)
                  have E : Fr w [(b2, 2, Fq.num m), (b1, 2, Fq.num 0)] w36 := E36
                  rw [lay_all hL]
                  simp only [putAll, dstOf, List.length_cons, List.length_nil, Nat.zero_add, List.getElem?_toArray, List.getElem?_cons_zero, Option.bind_some, Act.put, List.setIfInBounds_toArray, List.set_cons_succ, List.set_cons_zero]
                  rw [e0]
                  clear e0 hC hn E36 hL vs L nb
                  clear B34
                  go_wp2
                  refine bodyPost_ret (v := .int .i64 0) ?_ rfl (by first | exact ⟨_, rfl, E.below, by rw [HK.out]⟩ | exact ⟨_, rfl, E.below⟩ | exact ⟨rfl, E.below⟩)
                  simp [results, Tryz.results15, go_sem]
              · have P1 : Hid (¬ cmpI x 0 = 0) := fun e => hx (cmpIq0.1 e)
                have HX0 : Hid (0 < x) := by have := HI2.out.1; show _ < _; omega
                clear hx
                go_upto_region 15 with (fail)
                refine region_fr (C := [Fq.num x, Fq.is (.int .i64 (cmpI x 0)), Fq.is (.bool true)]) (ks := [none, none]) (new := []) E rfl (by kernel_rfl) rfl rfl (fun hp => ⟨?_, ?_, ?_, trivial⟩) ?_
                · exact q_loadInt (off := 0) hp (free_of rfl) trivial (List.mem_iff_getElem?.2 ⟨1, rfl⟩) (.inl rfl) (Nat.le_of_ble_eq_true rfl) (sq_out (s := 2) rfl rfl (fun _ _ => rfl)) (fun us w hl h => ld_num hl h)
                · exact q_call1 (F := (Fq.num x).P) hp (free_of rfl) trivial (enq_R_Sign) (sqi 0) (fun v w h => exRSign h)
                · exact q_one (F := fun v _ => v = .int .i64 (cmpI x 0)) hp (free_of rfl) trivial (sqi 1) (fun ρ w hc h => ⟨.bool true, by simp [execOp, go_sem, h, hc, P1.out], rfl⟩)
                intro L vs w37 nb hL hC hn E37
                have e1 : vs 1 = .int .i64 (cmpI x 0) := hC 1 (by simp)
                have e2 : vs 2 = .bool true := hC 2 (by simp)
                have E : Fr w [(b2, 2, Fq.num m), (b1, 2, Fq.num x)] w37 := E37
                rw [lay_all hL]
                simp only [putAll, dstOf, List.length_cons, List.length_nil, Nat.zero_add, Nat.reduceAdd, List.getElem?_toArray, List.getElem?_cons_zero, List.getElem?_cons_succ, Option.bind_some, Act.put, List.setIfInBounds_toArray, List.set_cons_succ, List.set_cons_zero]
                rw [e1, e2]
                generalize vs 0 = u37_0
                clear e1 e2 hC hn E37 hL vs L nb
                clear P1
                have HS := hidd E
                go_upto_region 16 with (fail)
                go_loopw [5] (fun vs W => ∃ z s : Int, vs = .int .i64 s ∧ Bd20 z ∧ Hid (0 < z ∧ z ≤ x ∧ (s = 1 ∨ s = -1) ∧ s * J z m.toNat = kron a n) ∧ Fr w [(b2, 2, Fq.num m), (b1, 2, Fq.num z)] W) (fun _ W => boxVal W b1)
                case atStart => exact ⟨x, s1, rfl, HB2.1, ⟨HX0.out, Int.le_refl _, HI2.out.2.2.2.1, HI2.out.2.2.2.2⟩, HS.out⟩
                case round =>
                  obtain ⟨V2, rfl⟩ : ∃ V2, V2 = wr := ⟨_, rfl⟩
                  obtain ⟨z, s2, rfl, HB3, HI3, E⟩ := hrel
                  clear HS HX0
                  by_cases hz : z % 2 = 0
                  · have P1 := hidd hz
                    have HBV := hidd (boxVal_eq (bq_box (E.box 1 rfl)))
                    obtain ⟨t, ht⟩ : ∃ t, t = two m := ⟨_, rfl⟩
                    have HT := hidd ht
                    have HTT : Hid (t = 1 ∨ t = -1) := by rw [ht]; exact two_odd HI2.out.2.2.1
                    have HW := hidd (sgn_wrap HI3.out.2.2.1 HTT.out)
                    have HJ : Hid (s2 * t * J (z / (2)) m.toNat = kron a n) := by have h1 := HI2.out; show _ = _; rw [Int.mul_assoc, ht, ← J_half2 (by omega) h1.2.2.1 hz]; exact HI3.out.2.2.2
                    have HZ2 : Hid (0 < z / (2) ∧ z / (2) ≤ x ∧ z / (2) < z) := by have := HI3.out; show _ ∧ _ ∧ _; omega
                    have HS2 := hidd (sgnp_mul HI3.out.2.2.1 HTT.out)
                    have H2Z : Hid ((2 : Int) ≠ 0) := by show _ ≠ _; decide
                    clear hz ht
                    go_upto_region 16 with (fail)
                    refine region_fr (C := [Fq.num z, Fq.is (.int .i64 (z % 2)), Fq.is (.bool true)]) (ks := [none, none]) (new := []) E rfl (by kernel_rfl) rfl rfl (fun hp => ⟨?_, ?_, ?_, trivial⟩) ?_
                    · exact q_loadInt (off := 0) hp (free_of rfl) trivial (List.mem_iff_getElem?.2 ⟨1, rfl⟩) (.inl rfl) (Nat.le_of_ble_eq_true rfl) (sq_out (s := 2) rfl rfl (fun _ _ => rfl)) (fun us w hl h => ld_num hl h)
                    · exact q_call2 (F := (Fq.num z).P) (G := (Fq.is (.int .i64 2)).P) hp (free_of rfl) trivial (enq_U_small) (sqi 0) (sq_const (fun _ => rfl)) (fun v v' w h h' => (by subst h'; exact exUSmall h (Int.lt_of_lt_of_le HB3.out (pw_le (by omega))) (by omega)))
                    · exact q_one (F := fun v _ => v = .int .i64 (z % 2)) hp (free_of rfl) trivial (sqi 1) (fun ρ w hc h => ⟨.bool true, by simp [execOp, go_sem, h, hc, P1.out], rfl⟩)
                    intro L vs w38 nb hL hC hn E38
                    have e1 : vs 1 = .int .i64 (z % 2) := hC 1 (by simp)
                    have e2 : vs 2 = .bool true := hC 2 (by simp)
                    have E : Fr w [(b2, 2, Fq.num m), (b1, 2, Fq.num z)] w38 := E38
                    rw [lay_all hL]
                    simp only [putAll, dstOf, List.length_cons, List.length_nil, Nat.zero_add, Nat.reduceAdd, List.getElem?_toArray, List.getElem?_cons_zero, List.getElem?_cons_succ, Option.bind_some, Act.put, List.setIfInBounds_toArray, List.set_cons_succ, List.set_cons_zero]
                    rw [e1, e2]
                    generalize vs 0 = u38_0
                    clear e1 e2 hC hn E38 hL vs L nb
                    clear P1
                    go_upto_region 17 with (fail)
                    have B39 : Hid (ab ((2)) < pw 3) := ab_lit (by decide)
                    have B40 : Hid (ab ((z / (2))) < pw 21) := ab_divB HB3.out (by omega)
                    refine region_fr (C := [Fq.num z, Fq.num (2), Fq.num (z / (2)), Fq.any]) (ks := [none, some (3, Fq.num (z / (2)))]) (new := []) E rfl (by kernel_rfl) rfl rfl (fun hp => ⟨?_, ?_, ?_, ?_, trivial⟩) ?_
                    · exact q_loadInt (off := 0) hp (free_of rfl) trivial (List.mem_iff_getElem?.2 ⟨1, rfl⟩) (.inr rfl) (Nat.le_of_ble_eq_true rfl) (sq_out (s := 2) rfl rfl (fun _ _ => rfl)) (fun us w hl h => ld_num hl h)
                    · exact q_call1 (F := (Fq.is (.int .i64 2)).P) hp (free_of rfl) trivial (enq_R_Of) (sq_const (fun _ => rfl)) (fun v w h => (by subst h; exact rOfK w (2) (by omega) (by omega)))
                    · exact q_call2 (F := (Fq.num z).P) (G := (Fq.num (2)).P) hp (free_of rfl) trivial (enq_R_Div) (sqi 0) (sqi 1) (fun v v' w h h' => exRDiv h h' H2Z.out (Int.lt_of_lt_of_le HB3.out (pw_le (by omega))) (Int.lt_of_lt_of_le B39.out (pw_le (by omega))))
                    · exact q_storeOldInt hp (List.mem_iff_getElem?.2 ⟨1, rfl⟩) rfl rfl (sq_out (s := 2) rfl rfl (fun _ _ => rfl)) (sq_in 2 rfl rfl (by simp) rfl (fun v w h => intV_num h)) (fun _ _ => trivial) (newik_ne rfl)
                    intro L vs w41 nb hL hC hn E41
                    have E : Fr w [(b2, 2, Fq.num m), (b1, 2, Fq.num (z / (2)))] w41 := E41
                    rw [lay_all hL]
                    simp only [putAll, dstOf, List.length_cons, List.length_nil, Nat.zero_add, Nat.reduceAdd, List.getElem?_toArray, List.getElem?_cons_zero, List.getElem?_cons_succ, Option.bind_some, Act.put, List.setIfInBounds_toArray, List.set_cons_succ, List.set_cons_zero]
                    generalize vs 0 = u41_0
                    generalize vs 1 = u41_1
                    generalize vs 2 = u41_2
                    clear  hC hn E41 hL vs L nb
                    go_upto_region 18 with (fail)
                    refine region_fr (C := [Fq.is (.int .i64 s2), Fq.num m, Fq.is (.int .i64 t), Fq.is (.int .i64 (s2 * t)), Fq.is (.int .i64 (s2 * t))]) (ks := [none, none]) (new := []) E rfl (by kernel_rfl) rfl rfl (fun hp => ⟨?_, ?_, ?_, ?_, ?_, trivial⟩) ?_
                    · exact q_moveB 4 3 hp (free_of rfl) trivial rfl rfl rfl rfl (fun _ => rfl)
                    · exact q_loadInt (off := 0) hp (free_of rfl) trivial (List.mem_iff_getElem?.2 ⟨0, rfl⟩) (.inl rfl) (Nat.le_of_ble_eq_true rfl) (sq_out (s := 3) rfl rfl (fun _ _ => rfl)) (fun us w hl h => ld_num hl h)
                    · exact q_call1 (F := (Fq.num m).P) hp (free_of rfl) trivial (enq_U_two) (sqi 1) (fun v w h => (by rw [HT.out]; exact exUTwo h HB2.2.out))
                    · exact q_two (F := fun v _ => v = .int .i64 s2) (G := fun v _ => v = .int .i64 t) hp (free_of rfl) trivial (sqi 0) (sqi 2) (fun ρ w hc h h' => ⟨.int .i64 (s2 * t), by simp [execOp, go_sem, h, h', HW.out], rfl⟩)
                    · exact q_assign hp (free_of rfl) trivial (sqi 3)
                    intro L vs w42 nb hL hC hn E42
                    have e0 : vs 0 = .int .i64 s2 := hC 0 (by simp)
                    have e2 : vs 2 = .int .i64 t := hC 2 (by simp)
                    have e3 : vs 3 = .int .i64 (s2 * t) := hC 3 (by simp)
                    have e4 : vs 4 = .int .i64 (s2 * t) := hC 4 (by simp)
                    have E : Fr w [(b2, 2, Fq.num m), (b1, 2, Fq.num (z / (2)))] w42 := E42
                    rw [lay_all hL]
                    simp only [putAll, dstOf, List.length_cons, List.length_nil, Nat.zero_add, Nat.reduceAdd, List.getElem?_toArray, List.getElem?_cons_zero, List.getElem?_cons_succ, Option.bind_some, Act.put, List.setIfInBounds_toArray, List.set_cons_succ, List.set_cons_zero]
                    rw [e0, e2, e3, e4]
                    generalize vs 1 = u42_1
                    clear e0 e2 e3 e4 hC hn E42 hL vs L nb
                    go_wp2
                    go_roundw
                    case rel => exact ⟨z / (2), s2 * t, rfl, ⟨ab_half HB3.out HZ2.out.1⟩, ⟨HZ2.out.1, HZ2.out.2.1, HS2.out, HJ.out⟩, E⟩
                    case measure => rw [boxVal_eq (bq_box (E.box 1 rfl)), HBV.out]; exact meas_half HZ2.out.1
                  · have P1 := hidd hz
                    have HFL : Hid (J z m.toNat = (if z % 4 = 3 ∧ m % 4 = 3 then -1 else 1) * J (m % z) z.toNat) := by have h1 := HI2.out; exact J_flip2 HI3.out.1 hz (by omega) h1.2.2.1
                    have HZO : Hid (z % 2 = 1) := by show _ = _; omega
                    obtain ⟨fb, hfb⟩ : ∃ fb, fb = decide (z % 4 = 3 ∧ m % 4 = 3) := ⟨_, rfl⟩
                    have HFB := hidd hfb
                    clear hz hfb
                    go_upto_region 16 with (fail)
                    refine region_fr (C := [Fq.num z, Fq.is (.int .i64 (z % 2)), Fq.is (.bool false)]) (ks := [none, none]) (new := []) E rfl (by kernel_rfl) rfl rfl (fun hp => ⟨?_, ?_, ?_, trivial⟩) ?_
                    · exact q_loadInt (off := 0) hp (free_of rfl) trivial (List.mem_iff_getElem?.2 ⟨1, rfl⟩) (.inl rfl) (Nat.le_of_ble_eq_true rfl) (sq_out (s := 2) rfl rfl (fun _ _ => rfl)) (fun us w hl h => ld_num hl h)
                    · exact q_call2 (F := (Fq.num z).P) (G := (Fq.is (.int .i64 2)).P) hp (free_of rfl) trivial (enq_U_small) (sqi 0) (sq_const (fun _ => rfl)) (fun v v' w h h' => (by subst h'; exact exUSmall h (Int.lt_of_lt_of_le HB3.out (pw_le (by omega))) (by omega)))
                    · exact q_one (F := fun v _ => v = .int .i64 (z % 2)) hp (free_of rfl) trivial (sqi 1) (fun ρ w hc h => ⟨.bool false, by simp [execOp, go_sem, h, hc, P1.out], rfl⟩)
                    intro L vs w43 nb hL hC hn E43
                    have e1 : vs 1 = .int .i64 (z % 2) := hC 1 (by simp)
                    have e2 : vs 2 = .bool false := hC 2 (by simp)
                    have E : Fr w [(b2, 2, Fq.num m), (b1, 2, Fq.num z)] w43 := E43
                    rw [lay_all hL]
                    simp only [putAll, dstOf, List.length_cons, List.length_nil, Nat.zero_add, Nat.reduceAdd, List.getElem?_toArray, List.getElem?_cons_zero, List.getElem?_cons_succ, Option.bind_some, Act.put, List.setIfInBounds_toArray, List.set_cons_succ, List.set_cons_zero]
                    rw [e1, e2]
                    generalize vs 0 = u43_0
                    clear e1 e2 hC hn E43 hL vs L nb
                    clear P1
                    go_upto_region 19 with (fail)
                    go_cut [59] from 52 to 59 (fun s W => s = .bool fb ∧ Fr w [(b2, 2, Fq.num m), (b1, 2, Fq.num z)] W)
                    case first =>
                      by_cases k1 : z % 4 = 3
                      · by_cases k2 : m % 4 = 3
                        · have Q1 := hidd k1
                          have Q2 := hidd k2
                          have PB : Hid (true = fb) := by show _ = _; rw [HFB.out, decide_eq_true ⟨k1, k2⟩]
                          clear k1 k2
                          refine region_fr (C := [Fq.num z, Fq.is (.int .i64 (z % 4)), Fq.is (.bool true), Fq.is (.bool true), Fq.num m, Fq.is (.int .i64 (m % 4)), Fq.is (.bool true), Fq.is (.bool true)]) (ks := [none, none]) (new := []) E rfl (by kernel_rfl) rfl rfl (fun hp => ⟨?_, ?_, ?_, ?_, ?_, ?_, ?_, ?_, trivial⟩) ?_
                          · exact q_loadInt (off := 0) hp (free_of rfl) trivial (List.mem_iff_getElem?.2 ⟨1, rfl⟩) (.inl rfl) (Nat.le_of_ble_eq_true rfl) (sq_out (s := 2) rfl rfl (fun _ _ => rfl)) (fun us w hl h => ld_num hl h)
                          · exact q_call2 (F := (Fq.num z).P) (G := (Fq.is (.int .i64 4)).P) hp (free_of rfl) trivial (enq_U_small) (sqi 0) (sq_const (fun _ => rfl)) (fun v v' w h h' => (by subst h'; exact exUSmall h (Int.lt_of_lt_of_le HB3.out (pw_le (by omega))) (by omega)))
                          · exact q_one (F := fun v _ => v = .int .i64 (z % 4)) hp (free_of rfl) trivial (sqi 1) (fun ρ w hc h => ⟨.bool true, by simp [execOp, go_sem, h, hc, Q1.out], rfl⟩)
                          · exact q_move hp (free_of rfl) trivial (sqi 2)
                          · exact q_loadInt (off := 0) hp (free_of rfl) (gq_some rfl rfl (by simp) rfl (fun v w h => h)) (List.mem_iff_getElem?.2 ⟨0, rfl⟩) (.inl rfl) (Nat.le_of_ble_eq_true rfl) (sq_out (s := 3) rfl rfl (fun _ _ => rfl)) (fun us w hl h => ld_num hl h)
                          · exact q_call2 (F := (Fq.num m).P) (G := (Fq.is (.int .i64 4)).P) hp (free_of rfl) (gq_some rfl rfl (by simp) rfl (fun v w h => h)) (enq_U_small) (sqi 4) (sq_const (fun _ => rfl)) (fun v v' w h h' => (by subst h'; exact exUSmall h (Int.lt_of_lt_of_le HB2.2.out (pw_le (by omega))) (by omega)))
                          · exact q_one (F := fun v _ => v = .int .i64 (m % 4)) hp (free_of rfl) (gq_some rfl rfl (by simp) rfl (fun v w h => h)) (sqi 5) (fun ρ w hc h => ⟨.bool true, by simp [execOp, go_sem, h, hc, Q2.out], rfl⟩)
                          · exact q_two (F := fun v _ => v = .bool true) (G := fun v _ => v = .bool true) hp (free_of rfl) trivial (sqi 3) (sqi 6) (fun ρ w hc h h' => ⟨_, by simp [execOp, go_sem, h, h'], rfl⟩)
                          intro L vs w44 nb hL hC hn E44
                          have e1 : vs 1 = .int .i64 (z % 4) := hC 1 (by simp)
                          have e2 : vs 2 = .bool true := hC 2 (by simp)
                          have e3 : vs 3 = .bool true := hC 3 (by simp)
                          have e5 : vs 5 = .int .i64 (m % 4) := hC 5 (by simp)
                          have e6 : vs 6 = .bool true := hC 6 (by simp)
                          have e7 : vs 7 = .bool true := hC 7 (by simp)
                          have E : Fr w [(b2, 2, Fq.num m), (b1, 2, Fq.num z)] w44 := E44
                          rw [lay_all hL]
                          simp only [putAll, dstOf, List.length_cons, List.length_nil, Nat.zero_add, Nat.reduceAdd, List.getElem?_toArray, List.getElem?_cons_zero, List.getElem?_cons_succ, Option.bind_some, Act.put, List.setIfInBounds_toArray, List.set_cons_succ, List.set_cons_zero]
                          rw [e1, e2, e3, e5, e6, e7]
                          generalize vs 0 = u44_0
                          generalize vs 4 = u44_4
                          clear e1 e2 e3 e5 e6 e7 hC hn E44 hL vs L nb
                          go_wp2_with (fail)
                          go_meet
                          case rel => exact ⟨congrArg Value.bool PB.out, E⟩
                        · have Q1 := hidd k1
                          have Q2 := hidd k2
                          have PB : Hid (false = fb) := by show _ = _; rw [HFB.out, decide_eq_false (fun h => k2 h.2)]
                          clear k1 k2
                          refine region_fr (C := [Fq.num z, Fq.is (.int .i64 (z % 4)), Fq.is (.bool true), Fq.is (.bool true), Fq.num m, Fq.is (.int .i64 (m % 4)), Fq.is (.bool false), Fq.is (.bool false)]) (ks := [none, none]) (new := []) E rfl (by kernel_rfl) rfl rfl (fun hp => ⟨?_, ?_, ?_, ?_, ?_, ?_, ?_, ?_, trivial⟩) ?_
                          · exact q_loadInt (off := 0) hp (free_of rfl) trivial (List.mem_iff_getElem?.2 ⟨1, rfl⟩) (.inl rfl) (Nat.le_of_ble_eq_true rfl) (sq_out (s := 2) rfl rfl (fun _ _ => rfl)) (fun us w hl h => ld_num hl h)
                          · exact q_call2 (F := (Fq.num z).P) (G := (Fq.is (.int .i64 4)).P) hp (free_of rfl) trivial (enq_U_small) (sqi 0) (sq_const (fun _ => rfl)) (fun v v' w h h' => (by subst h'; exact exUSmall h (Int.lt_of_lt_of_le HB3.out (pw_le (by omega))) (by omega)))
                          · exact q_one (F := fun v _ => v = .int .i64 (z % 4)) hp (free_of rfl) trivial (sqi 1) (fun ρ w hc h => ⟨.bool true, by simp [execOp, go_sem, h, hc, Q1.out], rfl⟩)
                          · exact q_move hp (free_of rfl) trivial (sqi 2)
                          · exact q_loadInt (off := 0) hp (free_of rfl) (gq_some rfl rfl (by simp) rfl (fun v w h => h)) (List.mem_iff_getElem?.2 ⟨0, rfl⟩) (.inl rfl) (Nat.le_of_ble_eq_true rfl) (sq_out (s := 3) rfl rfl (fun _ _ => rfl)) (fun us w hl h => ld_num hl h)
                          · exact q_call2 (F := (Fq.num m).P) (G := (Fq.is (.int .i64 4)).P) hp (free_of rfl) (gq_some rfl rfl (by simp) rfl (fun v w h => h)) (enq_U_small) (sqi 4) (sq_const (fun _ => rfl)) (fun v v' w h h' => (by subst h'; exact exUSmall h (Int.lt_of_lt_of_le HB2.2.out (pw_le (by omega))) (by omega)))
                          · exact q_one (F := fun v _ => v = .int .i64 (m % 4)) hp (free_of rfl) (gq_some rfl rfl (by simp) rfl (fun v w h => h)) (sqi 5) (fun ρ w hc h => ⟨.bool false, by simp [execOp, go_sem, h, hc, Q2.out], rfl⟩)
                          · exact q_two (F := fun v _ => v = .bool true) (G := fun v _ => v = .bool false) hp (free_of rfl) trivial (sqi 3) (sqi 6) (fun ρ w hc h h' => ⟨_, by simp [execOp, go_sem, h, h'], rfl⟩)
                          intro L vs w45 nb hL hC hn E45
                          have e1 : vs 1 = .int .i64 (z % 4) := hC 1 (by simp)
                          have e2 : vs 2 = .bool true := hC 2 (by simp)
                          have e3 : vs 3 = .bool true := hC 3 (by simp)
                          have e5 : vs 5 = .int .i64 (m % 4) := hC 5 (by simp)
                          have e6 : vs 6 = .bool false := hC 6 (by simp)
                          have e7 : vs 7 = .bool false := hC 7 (by simp)
                          have E : Fr w [(b2, 2, Fq.num m), (b1, 2, Fq.num z)] w45 := E45
                          rw [lay_all hL]
                          simp only [putAll, dstOf, List.length_cons, List.length_nil, Nat.zero_add, Nat.reduceAdd, List.getElem?_toArray, List.getElem?_cons_zero, List.getElem?_cons_succ, Option.bind_some, Act.put, List.setIfInBounds_toArray, List.set_cons_succ, List.set_cons_zero]
                          rw [e1, e2, e3, e5, e6, e7]
                          generalize vs 0 = u45_0
                          generalize vs 4 = u45_4
                          clear e1 e2 e3 e5 e6 e7 hC hn E45 hL vs L nb
                          go_wp2_with (fail)
                          go_meet
                          case rel => exact ⟨congrArg Value.bool PB.out, E⟩
                      · have Q1 := hidd k1
                        have PB : Hid (false = fb) := by show _ = _; rw [HFB.out, decide_eq_false (fun h => k1 h.1)]
                        clear k1
                        refine region_fr (C := [Fq.num z, Fq.is (.int .i64 (z % 4)), Fq.is (.bool false), Fq.is (.bool false), Fq.is (undef), Fq.is (undef), Fq.is (undef), Fq.is (.bool false)]) (ks := [none, none]) (new := []) E rfl (by kernel_rfl) rfl rfl (fun hp => ⟨?_, ?_, ?_, ?_, ?_, ?_, ?_, ?_, trivial⟩) ?_
                        · exact q_loadInt (off := 0) hp (free_of rfl) trivial (List.mem_iff_getElem?.2 ⟨1, rfl⟩) (.inl rfl) (Nat.le_of_ble_eq_true rfl) (sq_out (s := 2) rfl rfl (fun _ _ => rfl)) (fun us w hl h => ld_num hl h)
                        · exact q_call2 (F := (Fq.num z).P) (G := (Fq.is (.int .i64 4)).P) hp (free_of rfl) trivial (enq_U_small) (sqi 0) (sq_const (fun _ => rfl)) (fun v v' w h h' => (by subst h'; exact exUSmall h (Int.lt_of_lt_of_le HB3.out (pw_le (by omega))) (by omega)))
                        · exact q_one (F := fun v _ => v = .int .i64 (z % 4)) hp (free_of rfl) trivial (sqi 1) (fun ρ w hc h => ⟨.bool false, by simp [execOp, go_sem, h, hc, Q1.out], rfl⟩)
                        · exact q_move hp (free_of rfl) trivial (sqi 2)
                        · exact q_skip hp (free_of rfl) rfl (gq_some rfl rfl (by simp) rfl (fun v w h => h)) (fun _ => rfl)
                        · exact q_skip hp (free_of rfl) rfl (gq_some rfl rfl (by simp) rfl (fun v w h => h)) (fun _ => rfl)
                        · exact q_skip hp (free_of rfl) rfl (gq_some rfl rfl (by simp) rfl (fun v w h => h)) (fun _ => rfl)
                        · exact q_two (F := fun v _ => v = .bool false) (G := fun v _ => v = .bool false) hp (free_of rfl) trivial (sqi 3) (sq_const (fun _ => rfl)) (fun ρ w hc h h' => ⟨_, by simp [execOp, go_sem, h, h'], rfl⟩)
                        intro L vs w46 nb hL hC hn E46
                        have e1 : vs 1 = .int .i64 (z % 4) := hC 1 (by simp)
                        have e2 : vs 2 = .bool false := hC 2 (by simp)
                        have e3 : vs 3 = .bool false := hC 3 (by simp)
                        have e4 : vs 4 = undef := hC 4 (by simp)
                        have e5 : vs 5 = undef := hC 5 (by simp)
                        have e6 : vs 6 = undef := hC 6 (by simp)
                        have e7 : vs 7 = .bool false := hC 7 (by simp)
                        have E : Fr w [(b2, 2, Fq.num m), (b1, 2, Fq.num z)] w46 := E46
                        rw [lay_all hL]
                        simp only [putAll, dstOf, List.length_cons, List.length_nil, Nat.zero_add, Nat.reduceAdd, List.getElem?_toArray, List.getElem?_cons_zero, List.getElem?_cons_succ, Option.bind_some, Act.put, List.setIfInBounds_toArray, List.set_cons_succ, List.set_cons_zero]
                        rw [e1, e2, e3, e4, e5, e6, e7]
                        generalize vs 0 = u46_0
                        clear e1 e2 e3 e4 e5 e6 e7 hC hn E46 hL vs L nb
                        go_wp2_with (fail)
                        go_meet
                        case rel => exact ⟨congrArg Value.bool PB.out, E⟩
                    case rest =>
                      clear E
                      obtain ⟨rfl, E⟩ := hcut
                      obtain ⟨o2, ho2⟩ : ∃ o2 : Int, o2 = if fb then -s2 else s2 := ⟨_, rfl⟩
                      have HO2 := hidd ho2
                      have HWN := hidd (sgn_neg HI3.out.2.2.1)
                      clear ho2
                      go_upto_if 59 with (fail)
                      go_cut [5] from 52 to 61 (fun s W => s = .int .i64 o2 ∧ Fr w [(b2, 2, Fq.num m), (b1, 2, Fq.num z)] W)
                      case first =>
                        cases fb
                        · go_wp2_with (fail)
                          go_meet
                          case rel => exact ⟨by rw [HO2.out]; rfl, E⟩
                        · have hwn := HWN.out
                          go_wp2_with (fail)
                          go_meet
                          case rel => exact ⟨by first | (rw [HO2.out]; rfl) | (rw [HO2.out, if_pos rfl, ← HWN.out]) | (rw [HO2.out]; simp [HWN.out]), E⟩
                      case rest =>
                        clear E
                        obtain ⟨rfl, E⟩ := hcut
                        have HSO : Hid ((o2 = 1 ∨ o2 = -1) ∧ o2 * J (m % z) z.toNat = kron a n) := by
                          have h := HI3.out
                          have hf := HFL.out
                          have h4 := h.2.2.2
                          rw [hf] at h4
                          show _ ∧ _
                          rw [HO2.out, HFB.out]
                          by_cases hs : z % 4 = 3 ∧ m % 4 = 3
                          · rw [if_pos hs] at h4; rw [decide_eq_true hs, if_pos rfl]; refine ⟨by rcases h.2.2.1 with e | e <;> rw [e] <;> simp, ?_⟩; rw [← h4, ← Int.mul_assoc, Int.mul_neg_one]
                          · rw [if_neg hs, Int.one_mul] at h4; rw [decide_eq_false hs]; exact ⟨h.2.2.1, h4⟩
                        have HZN : Hid (z ≠ 0) := by have := HI3.out.1; show _ ≠ _; omega
                        clear HO2 HFB HFL HWN
                        go_upto_region 21 with (fail)
                        have B47 : Hid (ab ((m % z)) < pw 20) := ab_modB HZN.out HB3.out
                        refine region_fr (C := [Fq.num m, Fq.num z, Fq.num (m % z), Fq.any, Fq.any]) (ks := [none, none]) (new := [⟨3, 4, 2, Fq.num 0, Fq.num (m % z), none⟩]) E rfl (by kernel_rfl) rfl rfl (fun hp => ⟨?_, ?_, ?_, ?_, ?_, trivial⟩) ?_
                        · exact q_loadInt (off := 0) hp (free_of rfl) trivial (List.mem_iff_getElem?.2 ⟨0, rfl⟩) (.inl rfl) (Nat.le_of_ble_eq_true rfl) (sq_out (s := 3) rfl rfl (fun _ _ => rfl)) (fun us w hl h => ld_num hl h)
                        · exact q_loadInt (off := 0) hp (free_of rfl) trivial (List.mem_iff_getElem?.2 ⟨1, rfl⟩) (.inl rfl) (Nat.le_of_ble_eq_true rfl) (sq_out (s := 2) rfl rfl (fun _ _ => rfl)) (fun us w hl h => ld_num hl h)
                        · exact q_call2 (F := (Fq.num m).P) (G := (Fq.num z).P) hp (free_of rfl) trivial (enq_R_Mod) (sqi 0) (sqi 1) (fun v v' w h h' => exK (RModV h h' (Int.lt_of_lt_of_le HB2.2.out (pw_le (by omega))) (Int.lt_of_lt_of_le HB3.out (pw_le (by omega))) HZN.out) B47.out (by omega))
                        · exact q_allocInt hp (List.mem_iff_getElem?.2 ⟨0, rfl⟩) rfl rfl rfl rfl (Nat.ne_of_beq_eq_false rfl) (fun _ _ => trivial) (old_ne rfl) (newk_ne rfl) (fun w => Num.zero w)
                        · exact q_storeNewInt hp (List.mem_iff_getElem?.2 ⟨0, rfl⟩) rfl rfl rfl (own_ptr rfl rfl (by simp) rfl) (sq_in 2 rfl rfl (by simp) rfl (fun v w h => intV_num h)) (fun _ _ => trivial) (old_ne rfl) (newi_ne rfl)
                        intro L vs w48 nb hL hC hn E48
                        have e3 : vs 3 = .pointer (some ⟨nb 3, 0, none⟩) := hn _ (List.mem_iff_getElem?.2 ⟨0, rfl⟩)
                        have E : Fr w [(nb 3, 2, Fq.num (m % z)), (b2, 2, Fq.num m), (b1, 2, Fq.num z)] w48 := E48
                        rw [lay_all hL]
                        simp only [putAll, dstOf, List.length_cons, List.length_nil, Nat.zero_add, Nat.reduceAdd, List.getElem?_toArray, List.getElem?_cons_zero, List.getElem?_cons_succ, Option.bind_some, Act.put, List.setIfInBounds_toArray, List.set_cons_succ, List.set_cons_zero]
                        rw [e3]
                        generalize nb 3 = b48_3 at E ⊢
                        generalize vs 0 = u48_0
                        generalize vs 1 = u48_1
                        generalize vs 2 = u48_2
                        clear e3 hC hn E48 hL vs L nb
                        go_upto_region 22 with (fail)
                        refine region_fr (C := [Fq.num z, Fq.any]) (ks := [none, some (1, Fq.num z), none]) (new := []) E rfl (by kernel_rfl) rfl rfl (fun hp => ⟨?_, ?_, trivial⟩) ?_
                        · exact q_loadInt (off := 0) hp (free_of rfl) trivial (List.mem_iff_getElem?.2 ⟨2, rfl⟩) (.inl rfl) (Nat.le_of_ble_eq_true rfl) (sq_out (s := 2) rfl rfl (fun _ _ => rfl)) (fun us w hl h => ld_num hl h)
                        · exact q_storeOldInt hp (List.mem_iff_getElem?.2 ⟨1, rfl⟩) rfl rfl (sq_out (s := 3) rfl rfl (fun _ _ => rfl)) (sq_in 0 rfl rfl (by simp) rfl (fun v w h => intV_num h)) (fun _ _ => trivial) (newik_ne rfl)
                        intro L vs w49 nb hL hC hn E49
                        have E : Fr w [(b48_3, 2, Fq.num (m % z)), (b2, 2, Fq.num z), (b1, 2, Fq.num z)] w49 := E49
                        rw [lay_all hL]
                        simp only [putAll, dstOf, List.length_cons, List.length_nil, Nat.zero_add, Nat.reduceAdd, List.getElem?_toArray, List.getElem?_cons_zero, List.getElem?_cons_succ, Option.bind_some, Act.put, List.setIfInBounds_toArray, List.set_cons_succ, List.set_cons_zero]
                        generalize vs 0 = u49_0
                        clear  hC hn E49 hL vs L nb
                        go_upto_region 23 with (fail)
                        refine region_fr (C := [Fq.num (m % z), Fq.any]) (ks := [none, none, some (1, Fq.num (m % z))]) (new := []) E rfl (by kernel_rfl) rfl rfl (fun hp => ⟨?_, ?_, trivial⟩) ?_
                        · exact q_loadInt (off := 0) hp (free_of rfl) trivial (List.mem_iff_getElem?.2 ⟨0, rfl⟩) (.inl rfl) (Nat.le_of_ble_eq_true rfl) (sq_out (s := 6) rfl rfl (fun _ _ => rfl)) (fun us w hl h => ld_num hl h)
                        · exact q_storeOldInt hp (List.mem_iff_getElem?.2 ⟨2, rfl⟩) rfl rfl (sq_out (s := 2) rfl rfl (fun _ _ => rfl)) (sq_in 0 rfl rfl (by simp) rfl (fun v w h => intV_num h)) (fun _ _ => trivial) (newik_ne rfl)
                        intro L vs w50 nb hL hC hn E50
                        have E : Fr w [(b48_3, 2, Fq.num (m % z)), (b2, 2, Fq.num z), (b1, 2, Fq.num (m % z))] w50 := E50
                        rw [lay_all hL]
                        simp only [putAll, dstOf, List.length_cons, List.length_nil, Nat.zero_add, Nat.reduceAdd, List.getElem?_toArray, List.getElem?_cons_zero, List.getElem?_cons_succ, Option.bind_some, Act.put, List.setIfInBounds_toArray, List.set_cons_succ, List.set_cons_zero]
                        generalize vs 0 = u50_0
                        clear  hC hn E50 hL vs L nb
                        have HD := Fr.drop E
                        go_wp2
                        go_roundw
                        case rel => exact ⟨m % z, z, o2, rfl, ⟨⟨B47.out⟩, HB3⟩, ⟨Int.emod_nonneg _ HZN.out, Int.emod_lt_of_pos _ HI3.out.1, HZO.out, HSO.out.1, HSO.out.2⟩, HD⟩
                        case measure => rw [boxVal_eq (bq_box (E.box 1 rfl)), HBV1.out]; exact meas_mod ⟨HI3.out.1, HI3.out.2.1⟩ HI2.out.2.1

end Go.Proofs.YtieobgadihcgeaaGreatDoor

namespace Go.Proofs.YtieobgadihcgeaaGreatDoor
open Go Go.RowKit

theorem bez_same {a m : Int} (hm : 0 < m) (hg : Int.gcd a m = 1) : bezU (a % m) m = bezU a m := by
  have hg2 : Int.gcd (a % m) m = 1 := by rw [gcd_modI hm]; exact hg
  have hs := bez_spec (a := a % m) hm
  have hl := bez_lt (a := a % m) hm
  refine (inv_uniq (a := a) hm hs.1 (by omega) ?_).2
  have h := hs.2.2
  rw [hg2] at h
  have e : (a * bezU (a % m) m) % m = (bezU (a % m) m * (a % m) + bezV (a % m) m * m) % m := by
    rw [Int.add_mul_emod_self_right, Int.mul_comm, Int.mul_emod, Int.mul_emod (bezU (a % m) m) (a % m), Int.emod_emod]
  rw [e, h]
  rfl
set_option maxRecDepth 100000 in
set_option maxHeartbeats 4000000 in
theorem exUPowZ {w : World} {v v' u : Value} {a n m : Int} (h : Num w v a) (h' : Num w v' n) (g : Num w u m) (ha : ab a < pw 20) (hn : ab n < pw 20) (hm : ab m < pw 20) (h0 : m ≤ 0) :
    Calls Tryz.prog 10 #[v, v', u] w fun e w' => ∃ v', e = .returned v' ∧ Below w.heap.size w w' ∧ (Fq.tup2 (Fq.num 0) (Fq.is (.int .i64 1))).P v' w' := by
  replace ha := hidd ha
  replace hn := hidd hn
  replace hm := hidd hm
  obtain ⟨n0, ao0, k0, c0, rfl⟩ := h.parts
  obtain ⟨n1, ao1, k1, c1, rfl⟩ := h'.parts
  obtain ⟨n2, ao2, k2, c2, rfl⟩ := g.parts
  obtain ⟨w1, b1, hw1, hb1, hs1, E⟩ := fr_start w (F := Fq.num a) (us := [.bool n0, .slice ao0 k0 c0]) 29 rfl (by simp) (tame_int _ _ _ _) h
  obtain ⟨w2, b2, hw2, hb2, hs2, E⟩ := fr_more E hs1 (F := Fq.num n) (us := [.bool n1, .slice ao1 k1 c1]) 29 rfl (by simp) (tame_int _ _ _ _) (h'.mono E.below)
  obtain ⟨w3, b3, hw3, hb3, hs3, E⟩ := fr_more E hs2 (F := Fq.num m) (us := [.bool n2, .slice ao2 k2 c2]) 29 rfl (by simp) (tame_int _ _ _ _) (g.mono E.below)
  obtain ⟨w4, b4, hw4, hb4, hs4, E⟩ := fr_more E hs3 (F := Fq.num 0) (us := [.bool false, .slice none 0 0]) 29 rfl (by simp) (tame_int _ _ _ _) (Num.zero _)
  go_enter Tryz.func10, Tryz.ntmps10
  go_upto_region 1 with (fail)
  rw [← hw1]
  rw [← hw2]
  rw [← hw3]
  rw [← hw4]
  rw [← hb4]
  rw [← hb3]
  rw [← hb2]
  rw [← hb1]
  clear hw1 hw2 hw3 hw4 hb1 hb2 hb3 hb4 hs4 hs1 hs2 hs3
  have T1 : Hid (cmpI m 0 ≤ 0) := cmpI_le0.2 h0
  clear h0
  refine region_fr (C := [Fq.num m, Fq.is (.int .i64 (cmpI m 0)), Fq.is (.bool true)]) (ks := [none, none, none, none]) (new := []) E rfl (by kernel_rfl) rfl rfl (fun hp => ⟨?_, ?_, ?_, trivial⟩) ?_
  · exact q_loadInt (off := 0) hp (free_of rfl) trivial (List.mem_iff_getElem?.2 ⟨1, rfl⟩) (.inl rfl) (Nat.le_of_ble_eq_true rfl) (sq_out (s := 5) rfl rfl (fun _ _ => rfl)) (fun us w hl h => ld_num hl h)
  · exact q_call1 (F := (Fq.num m).P) hp (free_of rfl) trivial (enq_R_Sign) (sqi 0) (fun v w h => exRSign h)
  · exact q_one (F := fun v _ => v = .int .i64 (cmpI m 0)) hp (free_of rfl) trivial (sqi 1) (fun ρ w hc h => ⟨.bool true, by simp [execOp, go_sem, h, hc, T1.out], rfl⟩)
  intro L vs w5 nb hL hC hn E5
  have e1 : vs 1 = .int .i64 (cmpI m 0) := hC 1 (by simp)
  have e2 : vs 2 = .bool true := hC 2 (by simp)
  have E : Fr w [(b4, 2, Fq.num 0), (b3, 2, Fq.num m), (b2, 2, Fq.num n), (b1, 2, Fq.num a)] w5 := E5
  rw [lay_all hL]
  simp only [putAll, dstOf, List.length_cons, List.length_nil, Nat.zero_add, Nat.reduceAdd, List.getElem?_toArray, List.getElem?_cons_zero, List.getElem?_cons_succ, Option.bind_some, Act.put, List.setIfInBounds_toArray, List.set_cons_succ, List.set_cons_zero]
  rw [e1, e2]
  generalize vs 0 = u5_0
  clear e1 e2 hC hn E5 hL vs L nb
  clear T1
  go_upto_region 2 with (fail)
  refine region_fr (C := [Fq.num 0, Fq.any, Fq.is (.int .i64 1)]) (ks := [some (1, Fq.num 0), none, none, none]) (new := []) E rfl (by kernel_rfl) rfl rfl (fun hp => ⟨?_, ?_, ?_, trivial⟩) ?_
  · exact q_zeroInt hp (free_of rfl) trivial (fun w => Num.zero w)
  · exact q_storeOldInt hp (List.mem_iff_getElem?.2 ⟨0, rfl⟩) rfl rfl (sq_out (s := 6) rfl rfl (fun _ _ => rfl)) (sq_in 0 rfl rfl (by simp) rfl (fun v w h => intV_num h)) (fun _ _ => trivial) (newik_ne rfl)
  · exact q_assign hp (free_of rfl) trivial (sq_const (fun _ => rfl))
  intro L vs w6 nb hL hC hn E6
  have e2 : vs 2 = .int .i64 1 := hC 2 (by simp)
  have E : Fr w [(b4, 2, Fq.num 0), (b3, 2, Fq.num m), (b2, 2, Fq.num n), (b1, 2, Fq.num a)] w6 := E6
  rw [lay_all hL]
  simp only [putAll, dstOf, List.length_cons, List.length_nil, Nat.zero_add, Nat.reduceAdd, List.getElem?_toArray, List.getElem?_cons_zero, List.getElem?_cons_succ, Option.bind_some, Act.put, List.setIfInBounds_toArray, List.set_cons_succ, List.set_cons_zero]
  rw [e2]
  generalize vs 0 = u6_0
  clear e2 hC hn E6 hL vs L nb
  obtain ⟨p0, p1, c0, c1, hP⟩ := box_num (E.box 0 rfl)
  clear ha hn hm
  go_wp2
  refine bodyPost_ret (v := .tuple #[.agg #[p0, p1], .int .i64 1]) ?_ rfl ⟨_, rfl, E.below, ⟨_, _, rfl, hP, rfl⟩⟩
  simp [results, Tryz.results10, go_sem, c0, c1]

set_option maxRecDepth 100000 in
set_option maxHeartbeats 4000000 in
theorem exUPowE {w : World} {v v' u : Value} {a n m : Int} (h : Num w v a) (h' : Num w v' n) (g : Num w u m) (ha : ab a < pw 20) (hn : ab n < pw 20) (hm : ab m < pw 20) (h0 : 0 < m) (h1 : n < 0) (hg : Int.gcd (a % m) m ≠ 1) :
    Calls Tryz.prog 10 #[v, v', u] w fun e w' => ∃ v', e = .returned v' ∧ Below w.heap.size w w' ∧ (Fq.tup2 (Fq.num 0) (Fq.is (.int .i64 4))).P v' w' := by
  replace ha := hidd ha
  replace hn := hidd hn
  replace hm := hidd hm
  obtain ⟨n0, ao0, k0, c0, rfl⟩ := h.parts
  obtain ⟨n1, ao1, k1, c1, rfl⟩ := h'.parts
  obtain ⟨n2, ao2, k2, c2, rfl⟩ := g.parts
  obtain ⟨w1, b1, hw1, hb1, hs1, E⟩ := fr_start w (F := Fq.num a) (us := [.bool n0, .slice ao0 k0 c0]) 29 rfl (by simp) (tame_int _ _ _ _) h
  obtain ⟨w2, b2, hw2, hb2, hs2, E⟩ := fr_more E hs1 (F := Fq.num n) (us := [.bool n1, .slice ao1 k1 c1]) 29 rfl (by simp) (tame_int _ _ _ _) (h'.mono E.below)
  obtain ⟨w3, b3, hw3, hb3, hs3, E⟩ := fr_more E hs2 (F := Fq.num m) (us := [.bool n2, .slice ao2 k2 c2]) 29 rfl (by simp) (tame_int _ _ _ _) (g.mono E.below)
  obtain ⟨w4, b4, hw4, hb4, hs4, E⟩ := fr_more E hs3 (F := Fq.num 0) (us := [.bool false, .slice none 0 0]) 29 rfl (by simp) (tame_int _ _ _ _) (Num.zero _)
  go_enter Tryz.func10, Tryz.ntmps10
  go_upto_region 1 with (fail)
  rw [← hw1]
  rw [← hw2]
  rw [← hw3]
  rw [← hw4]
  rw [← hb4]
  rw [← hb3]
  rw [← hb2]
  rw [← hb1]
  clear hw1 hw2 hw3 hw4 hb1 hb2 hb3 hb4 hs4 hs1 hs2 hs3
  have T1 : Hid (¬ cmpI m 0 ≤ 0) := fun e => by have := cmpI_le0.1 e; omega
  have HM : Hid (m ≠ 0) := by show _ ≠ _; omega
  have HP := hidd h0
  clear h0
  refine region_fr (C := [Fq.num m, Fq.is (.int .i64 (cmpI m 0)), Fq.is (.bool false)]) (ks := [none, none, none, none]) (new := []) E rfl (by kernel_rfl) rfl rfl (fun hp => ⟨?_, ?_, ?_, trivial⟩) ?_
  · exact q_loadInt (off := 0) hp (free_of rfl) trivial (List.mem_iff_getElem?.2 ⟨1, rfl⟩) (.inl rfl) (Nat.le_of_ble_eq_true rfl) (sq_out (s := 5) rfl rfl (fun _ _ => rfl)) (fun us w hl h => ld_num hl h)
  · exact q_call1 (F := (Fq.num m).P) hp (free_of rfl) trivial (enq_R_Sign) (sqi 0) (fun v w h => exRSign h)
  · exact q_one (F := fun v _ => v = .int .i64 (cmpI m 0)) hp (free_of rfl) trivial (sqi 1) (fun ρ w hc h => ⟨.bool false, by simp [execOp, go_sem, h, hc, T1.out], rfl⟩)
  intro L vs w5 nb hL hC hn E5
  have e1 : vs 1 = .int .i64 (cmpI m 0) := hC 1 (by simp)
  have e2 : vs 2 = .bool false := hC 2 (by simp)
  have E : Fr w [(b4, 2, Fq.num 0), (b3, 2, Fq.num m), (b2, 2, Fq.num n), (b1, 2, Fq.num a)] w5 := E5
  rw [lay_all hL]
  simp only [putAll, dstOf, List.length_cons, List.length_nil, Nat.zero_add, Nat.reduceAdd, List.getElem?_toArray, List.getElem?_cons_zero, List.getElem?_cons_succ, Option.bind_some, Act.put, List.setIfInBounds_toArray, List.set_cons_succ, List.set_cons_zero]
  rw [e1, e2]
  generalize vs 0 = u5_0
  clear e1 e2 hC hn E5 hL vs L nb
  clear T1
  have T2 : Hid (cmpI n 0 < 0) := cmpIqlt.2 h1
  have HG : Hid (Int.gcd (a % m) m ≠ 1) := hg
  clear h1 hg
  go_upto_region 3 with (fail)
  refine region_fr (C := [Fq.num n, Fq.is (.int .i64 (cmpI n 0)), Fq.is (.bool true)]) (ks := [none, none, none, none]) (new := []) E rfl (by kernel_rfl) rfl rfl (fun hp => ⟨?_, ?_, ?_, trivial⟩) ?_
  · exact q_loadInt (off := 0) hp (free_of rfl) trivial (List.mem_iff_getElem?.2 ⟨2, rfl⟩) (.inl rfl) (Nat.le_of_ble_eq_true rfl) (sq_out (s := 4) rfl rfl (fun _ _ => rfl)) (fun us w hl h => ld_num hl h)
  · exact q_call1 (F := (Fq.num n).P) hp (free_of rfl) trivial (enq_R_Sign) (sqi 0) (fun v w h => exRSign h)
  · exact q_one (F := fun v _ => v = .int .i64 (cmpI n 0)) hp (free_of rfl) trivial (sqi 1) (fun ρ w hc h => ⟨.bool true, by simp [execOp, go_sem, h, hc, T2.out], rfl⟩)
  intro L vs w6 nb hL hC hn E6
  have e1 : vs 1 = .int .i64 (cmpI n 0) := hC 1 (by simp)
  have e2 : vs 2 = .bool true := hC 2 (by simp)
  have E : Fr w [(b4, 2, Fq.num 0), (b3, 2, Fq.num m), (b2, 2, Fq.num n), (b1, 2, Fq.num a)] w6 := E6
  rw [lay_all hL]
  simp only [putAll, dstOf, List.length_cons, List.length_nil, Nat.zero_add, Nat.reduceAdd, List.getElem?_toArray, List.getElem?_cons_zero, List.getElem?_cons_succ, Option.bind_some, Act.put, List.setIfInBounds_toArray, List.set_cons_succ, List.set_cons_zero]
  rw [e1, e2]
  generalize vs 0 = u6_0
  clear e1 e2 hC hn E6 hL vs L nb
  clear T2
  go_upto_region 4 with (fail)
  refine region_fr (C := [Fq.num a, Fq.num m, Fq.tup2 (Fq.num 0) (Fq.is (.int .i64 4)), Fq.tup2 (Fq.num 0) (Fq.is (.int .i64 4)), Fq.num 0, Fq.is (.int .i64 4), Fq.any, Fq.any, Fq.is (.int .i64 4)]) (ks := [none, none, none, none]) (new := [⟨6, 7, 2, Fq.num 0, Fq.num 0, none⟩]) E rfl (by kernel_rfl) rfl rfl (fun hp => ⟨?_, ?_, ?_, ?_, ?_, ?_, ?_, ?_, ?_, trivial⟩) ?_
  · exact q_loadInt (off := 0) hp (free_of rfl) trivial (List.mem_iff_getElem?.2 ⟨3, rfl⟩) (.inl rfl) (Nat.le_of_ble_eq_true rfl) (sq_out (s := 3) rfl rfl (fun _ _ => rfl)) (fun us w hl h => ld_num hl h)
  · exact q_loadInt (off := 0) hp (free_of rfl) trivial (List.mem_iff_getElem?.2 ⟨1, rfl⟩) (.inl rfl) (Nat.le_of_ble_eq_true rfl) (sq_out (s := 5) rfl rfl (fun _ _ => rfl)) (fun us w hl h => ld_num hl h)
  · exact q_call2 (F := (Fq.num a).P) (G := (Fq.num m).P) hp (free_of rfl) trivial (enq_U_Inv) (sqi 0) (sqi 1) (fun v v' w h h' => exUInvN h h' (Int.lt_of_lt_of_le ha.out (pw_le (by omega))) (Int.lt_of_lt_of_le hm.out (pw_le (by omega))) HP.out HG.out)
  · exact q_move hp (free_of rfl) trivial (sqi 2)
  · exact q_extract2 hp (free_of rfl) trivial (sqi 3) (fun v1 v2 w h1 h2 => ⟨_, rfl, h1⟩)
  · exact q_extract2 hp (free_of rfl) trivial (sqi 3) (fun v1 v2 w h1 h2 => ⟨_, rfl, h2⟩)
  · exact q_allocInt hp (List.mem_iff_getElem?.2 ⟨0, rfl⟩) rfl rfl rfl rfl (Nat.ne_of_beq_eq_false rfl) (fun _ _ => trivial) (old_ne rfl) (newk_ne rfl) (fun w => Num.zero w)
  · exact q_storeNewInt hp (List.mem_iff_getElem?.2 ⟨0, rfl⟩) rfl rfl rfl (own_ptr rfl rfl (by simp) rfl) (sq_in 4 rfl rfl (by simp) rfl (fun v w h => intV_num h)) (fun _ _ => trivial) (old_ne rfl) (newi_ne rfl)
  · exact q_assign hp (free_of rfl) trivial (sqi 5)
  intro L vs w7 nb hL hC hn E7
  have e5 : vs 5 = .int .i64 4 := hC 5 (by simp)
  have e8 : vs 8 = .int .i64 4 := hC 8 (by simp)
  have e6 : vs 6 = .pointer (some ⟨nb 6, 0, none⟩) := hn _ (List.mem_iff_getElem?.2 ⟨0, rfl⟩)
  have E : Fr w [(nb 6, 2, Fq.num 0), (b4, 2, Fq.num 0), (b3, 2, Fq.num m), (b2, 2, Fq.num n), (b1, 2, Fq.num a)] w7 := E7
  rw [lay_all hL]
  simp only [putAll, dstOf, List.length_cons, List.length_nil, Nat.zero_add, Nat.reduceAdd, List.getElem?_toArray, List.getElem?_cons_zero, List.getElem?_cons_succ, Option.bind_some, Act.put, List.setIfInBounds_toArray, List.set_cons_succ, List.set_cons_zero]
  rw [e5, e8, e6]
  generalize nb 6 = b7_6 at E ⊢
  generalize vs 0 = u7_0
  generalize vs 1 = u7_1
  generalize vs 2 = u7_2
  generalize vs 3 = u7_3
  generalize vs 4 = u7_4
  clear e5 e8 e6 hC hn E7 hL vs L nb
  go_upto_region 5 with (fail)
  refine region_fr (C := [Fq.is (.int .i64 4), Fq.is (.bool true)]) (ks := [none, none, none, none, none]) (new := []) E rfl (by kernel_rfl) rfl rfl (fun hp => ⟨?_, ?_, trivial⟩) ?_
  · exact q_move hp (free_of rfl) trivial (sq_out (s := 9) rfl rfl (fun _ _ => rfl))
  · exact q_one (F := fun v _ => v = .int .i64 4) hp (free_of rfl) trivial (sqi 0) (fun ρ w hc h => ⟨.bool true, by simp [execOp, go_sem, h, hc], rfl⟩)
  intro L vs w8 nb hL hC hn E8
  have e0 : vs 0 = .int .i64 4 := hC 0 (by simp)
  have e1 : vs 1 = .bool true := hC 1 (by simp)
  have E : Fr w [(b7_6, 2, Fq.num 0), (b4, 2, Fq.num 0), (b3, 2, Fq.num m), (b2, 2, Fq.num n), (b1, 2, Fq.num a)] w8 := E8
  rw [lay_all hL]
  simp only [putAll, dstOf, List.length_cons, List.length_nil, Nat.zero_add, Nat.reduceAdd, List.getElem?_toArray, List.getElem?_cons_zero, List.getElem?_cons_succ, Option.bind_some, Act.put, List.setIfInBounds_toArray, List.set_cons_succ, List.set_cons_zero]
  rw [e0, e1]
  clear e0 e1 hC hn E8 hL vs L nb
  go_upto_region 6 with (fail)
  refine region_fr (C := [Fq.num 0, Fq.is (.int .i64 4), Fq.any, Fq.is (.int .i64 4)]) (ks := [none, some (2, Fq.num 0), none, none, none]) (new := []) E rfl (by kernel_rfl) rfl rfl (fun hp => ⟨?_, ?_, ?_, ?_, trivial⟩) ?_
  · exact q_zeroInt hp (free_of rfl) trivial (fun w => Num.zero w)
  · exact q_move hp (free_of rfl) trivial (sq_out (s := 9) rfl rfl (fun _ _ => rfl))
  · exact q_storeOldInt hp (List.mem_iff_getElem?.2 ⟨1, rfl⟩) rfl rfl (sq_out (s := 6) rfl rfl (fun _ _ => rfl)) (sq_in 0 rfl rfl (by simp) rfl (fun v w h => intV_num h)) (fun _ _ => trivial) (newik_ne rfl)
  · exact q_assign hp (free_of rfl) trivial (sqi 1)
  intro L vs w9 nb hL hC hn E9
  have e1 : vs 1 = .int .i64 4 := hC 1 (by simp)
  have e3 : vs 3 = .int .i64 4 := hC 3 (by simp)
  have E : Fr w [(b7_6, 2, Fq.num 0), (b4, 2, Fq.num 0), (b3, 2, Fq.num m), (b2, 2, Fq.num n), (b1, 2, Fq.num a)] w9 := E9
  rw [lay_all hL]
  simp only [putAll, dstOf, List.length_cons, List.length_nil, Nat.zero_add, Nat.reduceAdd, List.getElem?_toArray, List.getElem?_cons_zero, List.getElem?_cons_succ, Option.bind_some, Act.put, List.setIfInBounds_toArray, List.set_cons_succ, List.set_cons_zero]
  rw [e1, e3]
  generalize vs 0 = u9_0
  clear e1 e3 hC hn E9 hL vs L nb
  clear HM HP HG
  obtain ⟨p0, p1, c0, c1, hP⟩ := box_num (E.box 1 rfl)
  clear ha hn hm
  go_wp2
  refine bodyPost_ret (v := .tuple #[.agg #[p0, p1], .int .i64 4]) ?_ rfl ⟨_, rfl, E.below, ⟨_, _, rfl, hP, rfl⟩⟩
  simp [results, Tryz.results10, go_sem, c0, c1]

set_option maxRecDepth 100000 in
set_option maxHeartbeats 4000000 in
theorem exUPowN {w : World} {v v' u : Value} {a n m : Int} (h : Num w v a) (h' : Num w v' n) (g : Num w u m) (ha : ab a < pw 20) (hn : ab n < pw 20) (hm : ab m < pw 20) (h0 : 0 < m) (h1 : n < 0) (hg : Int.gcd (a % m) m = 1) :
    Calls Tryz.prog 10 #[v, v', u] w fun e w' => ∃ v', e = .returned v' ∧ Below w.heap.size w w' ∧ (Fq.tup2 (Fq.num (powM a n m)) (Fq.is (.int .i64 0))).P v' w' := by
  replace ha := hidd ha
  replace hn := hidd hn
  replace hm := hidd hm
  obtain ⟨n0, ao0, k0, c0, rfl⟩ := h.parts
  obtain ⟨n1, ao1, k1, c1, rfl⟩ := h'.parts
  obtain ⟨n2, ao2, k2, c2, rfl⟩ := g.parts
  obtain ⟨w1, b1, hw1, hb1, hs1, E⟩ := fr_start w (F := Fq.num a) (us := [.bool n0, .slice ao0 k0 c0]) 29 rfl (by simp) (tame_int _ _ _ _) h
  obtain ⟨w2, b2, hw2, hb2, hs2, E⟩ := fr_more E hs1 (F := Fq.num n) (us := [.bool n1, .slice ao1 k1 c1]) 29 rfl (by simp) (tame_int _ _ _ _) (h'.mono E.below)
  obtain ⟨w3, b3, hw3, hb3, hs3, E⟩ := fr_more E hs2 (F := Fq.num m) (us := [.bool n2, .slice ao2 k2 c2]) 29 rfl (by simp) (tame_int _ _ _ _) (g.mono E.below)
  obtain ⟨w4, b4, hw4, hb4, hs4, E⟩ := fr_more E hs3 (F := Fq.num 0) (us := [.bool false, .slice none 0 0]) 29 rfl (by simp) (tame_int _ _ _ _) (Num.zero _)
  go_enter Tryz.func10, Tryz.ntmps10
  go_upto_region 1 with (fail)
  rw [← hw1]
  rw [← hw2]
  rw [← hw3]
  rw [← hw4]
  rw [← hb4]
  rw [← hb3]
  rw [← hb2]
  rw [← hb1]
  clear hw1 hw2 hw3 hw4 hb1 hb2 hb3 hb4 hs4 hs1 hs2 hs3
  have HE : Hid (bezU (a % m) m ^ (-n).natAbs % m = powM a n m) := by show _ = _; unfold powM; rw [if_neg (by omega), Int.natAbs_neg]
  have T1 : Hid (¬ cmpI m 0 ≤ 0) := fun e => by have := cmpI_le0.1 e; omega
  have HM : Hid (m ≠ 0) := by show _ ≠ _; omega
  have HP := hidd h0
  clear h0
  refine region_fr (C := [Fq.num m, Fq.is (.int .i64 (cmpI m 0)), Fq.is (.bool false)]) (ks := [none, none, none, none]) (new := []) E rfl (by kernel_rfl) rfl rfl (fun hp => ⟨?_, ?_, ?_, trivial⟩) ?_
  · exact q_loadInt (off := 0) hp (free_of rfl) trivial (List.mem_iff_getElem?.2 ⟨1, rfl⟩) (.inl rfl) (Nat.le_of_ble_eq_true rfl) (sq_out (s := 5) rfl rfl (fun _ _ => rfl)) (fun us w hl h => ld_num hl h)
  · exact q_call1 (F := (Fq.num m).P) hp (free_of rfl) trivial (enq_R_Sign) (sqi 0) (fun v w h => exRSign h)
  · exact q_one (F := fun v _ => v = .int .i64 (cmpI m 0)) hp (free_of rfl) trivial (sqi 1) (fun ρ w hc h => ⟨.bool false, by simp [execOp, go_sem, h, hc, T1.out], rfl⟩)
  intro L vs w5 nb hL hC hn E5
  have e1 : vs 1 = .int .i64 (cmpI m 0) := hC 1 (by simp)
  have e2 : vs 2 = .bool false := hC 2 (by simp)
  have E : Fr w [(b4, 2, Fq.num 0), (b3, 2, Fq.num m), (b2, 2, Fq.num n), (b1, 2, Fq.num a)] w5 := E5
  rw [lay_all hL]
  simp only [putAll, dstOf, List.length_cons, List.length_nil, Nat.zero_add, Nat.reduceAdd, List.getElem?_toArray, List.getElem?_cons_zero, List.getElem?_cons_succ, Option.bind_some, Act.put, List.setIfInBounds_toArray, List.set_cons_succ, List.set_cons_zero]
  rw [e1, e2]
  generalize vs 0 = u5_0
  clear e1 e2 hC hn E5 hL vs L nb
  clear T1
  have T2 : Hid (cmpI n 0 < 0) := cmpIqlt.2 h1
  have HG : Hid (Int.gcd (a % m) m = 1) := hg
  clear h1 hg
  go_upto_region 3 with (fail)
  refine region_fr (C := [Fq.num n, Fq.is (.int .i64 (cmpI n 0)), Fq.is (.bool true)]) (ks := [none, none, none, none]) (new := []) E rfl (by kernel_rfl) rfl rfl (fun hp => ⟨?_, ?_, ?_, trivial⟩) ?_
  · exact q_loadInt (off := 0) hp (free_of rfl) trivial (List.mem_iff_getElem?.2 ⟨2, rfl⟩) (.inl rfl) (Nat.le_of_ble_eq_true rfl) (sq_out (s := 4) rfl rfl (fun _ _ => rfl)) (fun us w hl h => ld_num hl h)
  · exact q_call1 (F := (Fq.num n).P) hp (free_of rfl) trivial (enq_R_Sign) (sqi 0) (fun v w h => exRSign h)
  · exact q_one (F := fun v _ => v = .int .i64 (cmpI n 0)) hp (free_of rfl) trivial (sqi 1) (fun ρ w hc h => ⟨.bool true, by simp [execOp, go_sem, h, hc, T2.out], rfl⟩)
  intro L vs w6 nb hL hC hn E6
  have e1 : vs 1 = .int .i64 (cmpI n 0) := hC 1 (by simp)
  have e2 : vs 2 = .bool true := hC 2 (by simp)
  have E : Fr w [(b4, 2, Fq.num 0), (b3, 2, Fq.num m), (b2, 2, Fq.num n), (b1, 2, Fq.num a)] w6 := E6
  rw [lay_all hL]
  simp only [putAll, dstOf, List.length_cons, List.length_nil, Nat.zero_add, Nat.reduceAdd, List.getElem?_toArray, List.getElem?_cons_zero, List.getElem?_cons_succ, Option.bind_some, Act.put, List.setIfInBounds_toArray, List.set_cons_succ, List.set_cons_zero]
  rw [e1, e2]
  generalize vs 0 = u6_0
  clear e1 e2 hC hn E6 hL vs L nb
  clear T2
  go_upto_region 4 with (fail)
  have B7 : Hid (ab (bezU (a % m) m) < pw 20) := bezU_ab HP.out hm.out
  refine region_fr (C := [Fq.num a, Fq.num m, Fq.tup2 (Fq.num (bezU (a % m) m)) (Fq.is (.int .i64 0)), Fq.tup2 (Fq.num (bezU (a % m) m)) (Fq.is (.int .i64 0)), Fq.num (bezU (a % m) m), Fq.is (.int .i64 0), Fq.any, Fq.any, Fq.is (.int .i64 0)]) (ks := [none, none, none, none]) (new := [⟨6, 7, 2, Fq.num 0, Fq.num (bezU (a % m) m), none⟩]) E rfl (by kernel_rfl) rfl rfl (fun hp => ⟨?_, ?_, ?_, ?_, ?_, ?_, ?_, ?_, ?_, trivial⟩) ?_
  · exact q_loadInt (off := 0) hp (free_of rfl) trivial (List.mem_iff_getElem?.2 ⟨3, rfl⟩) (.inl rfl) (Nat.le_of_ble_eq_true rfl) (sq_out (s := 3) rfl rfl (fun _ _ => rfl)) (fun us w hl h => ld_num hl h)
  · exact q_loadInt (off := 0) hp (free_of rfl) trivial (List.mem_iff_getElem?.2 ⟨1, rfl⟩) (.inl rfl) (Nat.le_of_ble_eq_true rfl) (sq_out (s := 5) rfl rfl (fun _ _ => rfl)) (fun us w hl h => ld_num hl h)
  · exact q_call2 (F := (Fq.num a).P) (G := (Fq.num m).P) hp (free_of rfl) trivial (enq_U_Inv) (sqi 0) (sqi 1) (fun v v' w h h' => exUInvP h h' (Int.lt_of_lt_of_le ha.out (pw_le (by omega))) (Int.lt_of_lt_of_le hm.out (pw_le (by omega))) HP.out HG.out)
  · exact q_move hp (free_of rfl) trivial (sqi 2)
  · exact q_extract2 hp (free_of rfl) trivial (sqi 3) (fun v1 v2 w h1 h2 => ⟨_, rfl, h1⟩)
  · exact q_extract2 hp (free_of rfl) trivial (sqi 3) (fun v1 v2 w h1 h2 => ⟨_, rfl, h2⟩)
  · exact q_allocInt hp (List.mem_iff_getElem?.2 ⟨0, rfl⟩) rfl rfl rfl rfl (Nat.ne_of_beq_eq_false rfl) (fun _ _ => trivial) (old_ne rfl) (newk_ne rfl) (fun w => Num.zero w)
  · exact q_storeNewInt hp (List.mem_iff_getElem?.2 ⟨0, rfl⟩) rfl rfl rfl (own_ptr rfl rfl (by simp) rfl) (sq_in 4 rfl rfl (by simp) rfl (fun v w h => intV_num h)) (fun _ _ => trivial) (old_ne rfl) (newi_ne rfl)
  · exact q_assign hp (free_of rfl) trivial (sqi 5)
  intro L vs w8 nb hL hC hn E8
  have e5 : vs 5 = .int .i64 0 := hC 5 (by simp)
  have e8 : vs 8 = .int .i64 0 := hC 8 (by simp)
  have e6 : vs 6 = .pointer (some ⟨nb 6, 0, none⟩) := hn _ (List.mem_iff_getElem?.2 ⟨0, rfl⟩)
  have E : Fr w [(nb 6, 2, Fq.num (bezU (a % m) m)), (b4, 2, Fq.num 0), (b3, 2, Fq.num m), (b2, 2, Fq.num n), (b1, 2, Fq.num a)] w8 := E8
  rw [lay_all hL]
  simp only [putAll, dstOf, List.length_cons, List.length_nil, Nat.zero_add, Nat.reduceAdd, List.getElem?_toArray, List.getElem?_cons_zero, List.getElem?_cons_succ, Option.bind_some, Act.put, List.setIfInBounds_toArray, List.set_cons_succ, List.set_cons_zero]
  rw [e5, e8, e6]
  generalize nb 6 = b8_6 at E ⊢
  generalize vs 0 = u8_0
  generalize vs 1 = u8_1
  generalize vs 2 = u8_2
  generalize vs 3 = u8_3
  generalize vs 4 = u8_4
  clear e5 e8 e6 hC hn E8 hL vs L nb
  go_upto_region 5 with (fail)
  refine region_fr (C := [Fq.is (.int .i64 0), Fq.is (.bool false)]) (ks := [none, none, none, none, none]) (new := []) E rfl (by kernel_rfl) rfl rfl (fun hp => ⟨?_, ?_, trivial⟩) ?_
  · exact q_move hp (free_of rfl) trivial (sq_out (s := 9) rfl rfl (fun _ _ => rfl))
  · exact q_one (F := fun v _ => v = .int .i64 0) hp (free_of rfl) trivial (sqi 0) (fun ρ w hc h => ⟨.bool false, by simp [execOp, go_sem, h, hc], rfl⟩)
  intro L vs w9 nb hL hC hn E9
  have e0 : vs 0 = .int .i64 0 := hC 0 (by simp)
  have e1 : vs 1 = .bool false := hC 1 (by simp)
  have E : Fr w [(b8_6, 2, Fq.num (bezU (a % m) m)), (b4, 2, Fq.num 0), (b3, 2, Fq.num m), (b2, 2, Fq.num n), (b1, 2, Fq.num a)] w9 := E9
  rw [lay_all hL]
  simp only [putAll, dstOf, List.length_cons, List.length_nil, Nat.zero_add, Nat.reduceAdd, List.getElem?_toArray, List.getElem?_cons_zero, List.getElem?_cons_succ, Option.bind_some, Act.put, List.setIfInBounds_toArray, List.set_cons_succ, List.set_cons_zero]
  rw [e0, e1]
  clear e0 e1 hC hn E9 hL vs L nb
  go_upto_region 7 with (fail)
  have B10 : Hid (ab ((-n)) < pw 20) := ab_negB hn.out
  have B11 : Hid (ab (((bezU (a % m) m) ^ ((-n)).natAbs % m)) < pw 20) := ab_modB HM.out hm.out
  refine region_fr (C := [Fq.num (bezU (a % m) m), Fq.num n, Fq.num (-n), Fq.num m, Fq.num ((bezU (a % m) m) ^ ((-n)).natAbs % m), Fq.any, Fq.is (.int .i64 0)]) (ks := [none, some (5, Fq.num ((bezU (a % m) m) ^ ((-n)).natAbs % m)), none, none, none]) (new := []) E rfl (by kernel_rfl) rfl rfl (fun hp => ⟨?_, ?_, ?_, ?_, ?_, ?_, ?_, trivial⟩) ?_
  · exact q_loadInt (off := 0) hp (free_of rfl) trivial (List.mem_iff_getElem?.2 ⟨0, rfl⟩) (.inl rfl) (Nat.le_of_ble_eq_true rfl) (sq_out (s := 8) rfl rfl (fun _ _ => rfl)) (fun us w hl h => ld_num hl h)
  · exact q_loadInt (off := 0) hp (free_of rfl) trivial (List.mem_iff_getElem?.2 ⟨3, rfl⟩) (.inl rfl) (Nat.le_of_ble_eq_true rfl) (sq_out (s := 4) rfl rfl (fun _ _ => rfl)) (fun us w hl h => ld_num hl h)
  · exact q_call1 (F := (Fq.num n).P) hp (free_of rfl) trivial (enq_R_Neg) (sqi 1) (fun v w h => exK (RNegV h) B10.out (by omega))
  · exact q_loadInt (off := 0) hp (free_of rfl) trivial (List.mem_iff_getElem?.2 ⟨2, rfl⟩) (.inl rfl) (Nat.le_of_ble_eq_true rfl) (sq_out (s := 5) rfl rfl (fun _ _ => rfl)) (fun us w hl h => ld_num hl h)
  · exact q_call3 (F := (Fq.num (bezU (a % m) m)).P) (G := (Fq.num (-n)).P) (F3 := (Fq.num m).P) hp (free_of rfl) trivial (enq_U_Power) (sqi 0) (sqi 2) (sqi 3) (fun v v' u w h h' g => exUPower h h' g (Int.lt_of_lt_of_le B7.out (pw_le (by omega))) (Int.lt_of_lt_of_le B10.out (pw_le (by omega))) (Int.lt_of_lt_of_le hm.out (pw_le (by omega))) HP.out)
  · exact q_storeOldInt hp (List.mem_iff_getElem?.2 ⟨1, rfl⟩) rfl rfl (sq_out (s := 6) rfl rfl (fun _ _ => rfl)) (sq_in 4 rfl rfl (by simp) rfl (fun v w h => intV_num h)) (fun _ _ => trivial) (newik_ne rfl)
  · exact q_assign hp (free_of rfl) trivial (sq_const (fun _ => rfl))
  intro L vs w12 nb hL hC hn E12
  have e6 : vs 6 = .int .i64 0 := hC 6 (by simp)
  have E : Fr w [(b8_6, 2, Fq.num (bezU (a % m) m)), (b4, 2, Fq.num ((bezU (a % m) m) ^ ((-n)).natAbs % m)), (b3, 2, Fq.num m), (b2, 2, Fq.num n), (b1, 2, Fq.num a)] w12 := E12
  rw [lay_all hL]
  simp only [putAll, dstOf, List.length_cons, List.length_nil, Nat.zero_add, Nat.reduceAdd, List.getElem?_toArray, List.getElem?_cons_zero, List.getElem?_cons_succ, Option.bind_some, Act.put, List.setIfInBounds_toArray, List.set_cons_succ, List.set_cons_zero]
  rw [e6]
  generalize vs 0 = u12_0
  generalize vs 1 = u12_1
  generalize vs 2 = u12_2
  generalize vs 3 = u12_3
  generalize vs 4 = u12_4
  clear e6 hC hn E12 hL vs L nb
  clear HM HP HG
  rw [HE.out] at E
  clear HE
  obtain ⟨p0, p1, c0, c1, hP⟩ := box_num (E.box 1 rfl)
  clear B7 B10 B11 ha hn hm
  go_wp2
  refine bodyPost_ret (v := .tuple #[.agg #[p0, p1], .int .i64 0]) ?_ rfl ⟨_, rfl, E.below, ⟨_, _, rfl, hP, rfl⟩⟩
  simp [results, Tryz.results10, go_sem, c0, c1]

set_option maxRecDepth 100000 in
set_option maxHeartbeats 4000000 in
theorem exUPowP {w : World} {v v' u : Value} {a n m : Int} (h : Num w v a) (h' : Num w v' n) (g : Num w u m) (ha : ab a < pw 20) (hn : ab n < pw 20) (hm : ab m < pw 20) (h0 : 0 < m) (h1 : 0 ≤ n) :
    Calls Tryz.prog 10 #[v, v', u] w fun e w' => ∃ v', e = .returned v' ∧ Below w.heap.size w w' ∧ (Fq.tup2 (Fq.num (powM a n m)) (Fq.is (.int .i64 0))).P v' w' := by
  replace ha := hidd ha
  replace hn := hidd hn
  replace hm := hidd hm
  obtain ⟨n0, ao0, k0, c0, rfl⟩ := h.parts
  obtain ⟨n1, ao1, k1, c1, rfl⟩ := h'.parts
  obtain ⟨n2, ao2, k2, c2, rfl⟩ := g.parts
  obtain ⟨w1, b1, hw1, hb1, hs1, E⟩ := fr_start w (F := Fq.num a) (us := [.bool n0, .slice ao0 k0 c0]) 29 rfl (by simp) (tame_int _ _ _ _) h
  obtain ⟨w2, b2, hw2, hb2, hs2, E⟩ := fr_more E hs1 (F := Fq.num n) (us := [.bool n1, .slice ao1 k1 c1]) 29 rfl (by simp) (tame_int _ _ _ _) (h'.mono E.below)
  obtain ⟨w3, b3, hw3, hb3, hs3, E⟩ := fr_more E hs2 (F := Fq.num m) (us := [.bool n2, .slice ao2 k2 c2]) 29 rfl (by simp) (tame_int _ _ _ _) (g.mono E.below)
  obtain ⟨w4, b4, hw4, hb4, hs4, E⟩ := fr_more E hs3 (F := Fq.num 0) (us := [.bool false, .slice none 0 0]) 29 rfl (by simp) (tame_int _ _ _ _) (Num.zero _)
  go_enter Tryz.func10, Tryz.ntmps10
  go_upto_region 1 with (fail)
  rw [← hw1]
  rw [← hw2]
  rw [← hw3]
  rw [← hw4]
  rw [← hb4]
  rw [← hb3]
  rw [← hb2]
  rw [← hb1]
  clear hw1 hw2 hw3 hw4 hb1 hb2 hb3 hb4 hs4 hs1 hs2 hs3
  have HE : Hid ((a % m) ^ n.natAbs % m = powM a n m) := by show _ = _; unfold powM; rw [if_pos h1]
  have T1 : Hid (¬ cmpI m 0 ≤ 0) := fun e => by have := cmpI_le0.1 e; omega
  have HM : Hid (m ≠ 0) := by show _ ≠ _; omega
  have HP := hidd h0
  clear h0
  refine region_fr (C := [Fq.num m, Fq.is (.int .i64 (cmpI m 0)), Fq.is (.bool false)]) (ks := [none, none, none, none]) (new := []) E rfl (by kernel_rfl) rfl rfl (fun hp => ⟨?_, ?_, ?_, trivial⟩) ?_
  · exact q_loadInt (off := 0) hp (free_of rfl) trivial (List.mem_iff_getElem?.2 ⟨1, rfl⟩) (.inl rfl) (Nat.le_of_ble_eq_true rfl) (sq_out (s := 5) rfl rfl (fun _ _ => rfl)) (fun us w hl h => ld_num hl h)
  · exact q_call1 (F := (Fq.num m).P) hp (free_of rfl) trivial (enq_R_Sign) (sqi 0) (fun v w h => exRSign h)
  · exact q_one (F := fun v _ => v = .int .i64 (cmpI m 0)) hp (free_of rfl) trivial (sqi 1) (fun ρ w hc h => ⟨.bool false, by simp [execOp, go_sem, h, hc, T1.out], rfl⟩)
  intro L vs w5 nb hL hC hn E5
  have e1 : vs 1 = .int .i64 (cmpI m 0) := hC 1 (by simp)
  have e2 : vs 2 = .bool false := hC 2 (by simp)
  have E : Fr w [(b4, 2, Fq.num 0), (b3, 2, Fq.num m), (b2, 2, Fq.num n), (b1, 2, Fq.num a)] w5 := E5
  rw [lay_all hL]
  simp only [putAll, dstOf, List.length_cons, List.length_nil, Nat.zero_add, Nat.reduceAdd, List.getElem?_toArray, List.getElem?_cons_zero, List.getElem?_cons_succ, Option.bind_some, Act.put, List.setIfInBounds_toArray, List.set_cons_succ, List.set_cons_zero]
  rw [e1, e2]
  generalize vs 0 = u5_0
  clear e1 e2 hC hn E5 hL vs L nb
  clear T1
  have T2 : Hid (¬ cmpI n 0 < 0) := fun e => by have := cmpIqlt.1 e; omega
  clear h1
  go_upto_region 3 with (fail)
  refine region_fr (C := [Fq.num n, Fq.is (.int .i64 (cmpI n 0)), Fq.is (.bool false)]) (ks := [none, none, none, none]) (new := []) E rfl (by kernel_rfl) rfl rfl (fun hp => ⟨?_, ?_, ?_, trivial⟩) ?_
  · exact q_loadInt (off := 0) hp (free_of rfl) trivial (List.mem_iff_getElem?.2 ⟨2, rfl⟩) (.inl rfl) (Nat.le_of_ble_eq_true rfl) (sq_out (s := 4) rfl rfl (fun _ _ => rfl)) (fun us w hl h => ld_num hl h)
  · exact q_call1 (F := (Fq.num n).P) hp (free_of rfl) trivial (enq_R_Sign) (sqi 0) (fun v w h => exRSign h)
  · exact q_one (F := fun v _ => v = .int .i64 (cmpI n 0)) hp (free_of rfl) trivial (sqi 1) (fun ρ w hc h => ⟨.bool false, by simp [execOp, go_sem, h, hc, T2.out], rfl⟩)
  intro L vs w6 nb hL hC hn E6
  have e1 : vs 1 = .int .i64 (cmpI n 0) := hC 1 (by simp)
  have e2 : vs 2 = .bool false := hC 2 (by simp)
  have E : Fr w [(b4, 2, Fq.num 0), (b3, 2, Fq.num m), (b2, 2, Fq.num n), (b1, 2, Fq.num a)] w6 := E6
  rw [lay_all hL]
  simp only [putAll, dstOf, List.length_cons, List.length_nil, Nat.zero_add, Nat.reduceAdd, List.getElem?_toArray, List.getElem?_cons_zero, List.getElem?_cons_succ, Option.bind_some, Act.put, List.setIfInBounds_toArray, List.set_cons_succ, List.set_cons_zero]
  rw [e1, e2]
  generalize vs 0 = u6_0
  clear e1 e2 hC hn E6 hL vs L nb
  clear T2
  go_upto_region 8 with (fail)
  have B7 : Hid (ab ((a % m)) < pw 20) := ab_modB HM.out hm.out
  have B8 : Hid (ab (((a % m) ^ (n).natAbs % m)) < pw 20) := ab_modB HM.out hm.out
  refine region_fr (C := [Fq.num a, Fq.num m, Fq.num (a % m), Fq.num n, Fq.num m, Fq.num ((a % m) ^ (n).natAbs % m), Fq.any, Fq.is (.int .i64 0)]) (ks := [some (6, Fq.num ((a % m) ^ (n).natAbs % m)), none, none, none]) (new := []) E rfl (by kernel_rfl) rfl rfl (fun hp => ⟨?_, ?_, ?_, ?_, ?_, ?_, ?_, ?_, trivial⟩) ?_
  · exact q_loadInt (off := 0) hp (free_of rfl) trivial (List.mem_iff_getElem?.2 ⟨3, rfl⟩) (.inl rfl) (Nat.le_of_ble_eq_true rfl) (sq_out (s := 3) rfl rfl (fun _ _ => rfl)) (fun us w hl h => ld_num hl h)
  · exact q_loadInt (off := 0) hp (free_of rfl) trivial (List.mem_iff_getElem?.2 ⟨1, rfl⟩) (.inl rfl) (Nat.le_of_ble_eq_true rfl) (sq_out (s := 5) rfl rfl (fun _ _ => rfl)) (fun us w hl h => ld_num hl h)
  · exact q_call2 (F := (Fq.num a).P) (G := (Fq.num m).P) hp (free_of rfl) trivial (enq_R_Mod) (sqi 0) (sqi 1) (fun v v' w h h' => exK (RModV h h' (Int.lt_of_lt_of_le ha.out (pw_le (by omega))) (Int.lt_of_lt_of_le hm.out (pw_le (by omega))) HM.out) B7.out (by omega))
  · exact q_loadInt (off := 0) hp (free_of rfl) trivial (List.mem_iff_getElem?.2 ⟨2, rfl⟩) (.inl rfl) (Nat.le_of_ble_eq_true rfl) (sq_out (s := 4) rfl rfl (fun _ _ => rfl)) (fun us w hl h => ld_num hl h)
  · exact q_loadInt (off := 0) hp (free_of rfl) trivial (List.mem_iff_getElem?.2 ⟨1, rfl⟩) (.inl rfl) (Nat.le_of_ble_eq_true rfl) (sq_out (s := 5) rfl rfl (fun _ _ => rfl)) (fun us w hl h => ld_num hl h)
  · exact q_call3 (F := (Fq.num (a % m)).P) (G := (Fq.num n).P) (F3 := (Fq.num m).P) hp (free_of rfl) trivial (enq_U_Power) (sqi 2) (sqi 3) (sqi 4) (fun v v' u w h h' g => exUPower h h' g (Int.lt_of_lt_of_le B7.out (pw_le (by omega))) (Int.lt_of_lt_of_le hn.out (pw_le (by omega))) (Int.lt_of_lt_of_le hm.out (pw_le (by omega))) HP.out)
  · exact q_storeOldInt hp (List.mem_iff_getElem?.2 ⟨0, rfl⟩) rfl rfl (sq_out (s := 6) rfl rfl (fun _ _ => rfl)) (sq_in 5 rfl rfl (by simp) rfl (fun v w h => intV_num h)) (fun _ _ => trivial) (newik_ne rfl)
  · exact q_assign hp (free_of rfl) trivial (sq_const (fun _ => rfl))
  intro L vs w9 nb hL hC hn E9
  have e7 : vs 7 = .int .i64 0 := hC 7 (by simp)
  have E : Fr w [(b4, 2, Fq.num ((a % m) ^ (n).natAbs % m)), (b3, 2, Fq.num m), (b2, 2, Fq.num n), (b1, 2, Fq.num a)] w9 := E9
  rw [lay_all hL]
  simp only [putAll, dstOf, List.length_cons, List.length_nil, Nat.zero_add, Nat.reduceAdd, List.getElem?_toArray, List.getElem?_cons_zero, List.getElem?_cons_succ, Option.bind_some, Act.put, List.setIfInBounds_toArray, List.set_cons_succ, List.set_cons_zero]
  rw [e7]
  generalize vs 0 = u9_0
  generalize vs 1 = u9_1
  generalize vs 2 = u9_2
  generalize vs 3 = u9_3
  generalize vs 4 = u9_4
  generalize vs 5 = u9_5
  clear e7 hC hn E9 hL vs L nb
  clear HM HP
  rw [HE.out] at E
  clear HE
  obtain ⟨p0, p1, c0, c1, hP⟩ := box_num (E.box 0 rfl)
  clear B7 B8 ha hn hm
  go_wp2
  refine bodyPost_ret (v := .tuple #[.agg #[p0, p1], .int .i64 0]) ?_ rfl ⟨_, rfl, E.below, ⟨_, _, rfl, hP, rfl⟩⟩
  simp [results, Tryz.results10, go_sem, c0, c1]

set_option maxRecDepth 100000 in
set_option maxHeartbeats 4000000 in
theorem exSameGot {w : World} {v v' : Value} {z r : Int} (h : Got w v z r) (h' : Num w v' z) :
    Calls Tryz.prog 11 #[v, v', .int .i64 r] w fun e w' => ∃ v', e = .returned v' ∧ Below w.heap.size w w' ∧ v' = .bool true := by
  obtain ⟨n0, ao0, k0, c0, rfl, _⟩ := h.parts
  obtain ⟨n1, ao1, k1, c1, rfl⟩ := h'.parts
  obtain ⟨w1, b1, hw1, hb1, hs1, E⟩ := fr_start w (F := Fq.got z r) (us := [.bool n0, .slice ao0 k0 c0, .int .i64 r]) 38 rfl (by simp) (tame_got _ _ _ _ _) h
  obtain ⟨w2, b2, hw2, hb2, hs2, E⟩ := fr_more E hs1 (F := Fq.num z) (us := [.bool n1, .slice ao1 k1 c1]) 29 rfl (by simp) (tame_int _ _ _ _) (h'.mono E.below)
  go_enter Tryz.func11, Tryz.ntmps11
  go_upto_region 1 with (fail)
  rw [← hw1]
  rw [← hw2]
  rw [← hb2]
  rw [← hb1]
  clear hw1 hw2 hb1 hb2 hs2 hs1
  refine region_fr (C := [Fq.is (.pointer (some ⟨b1, 2, none⟩)), Fq.is (.int .i64 r), Fq.is (.int .i64 r), Fq.is (.bool true), Fq.is (.bool true), Fq.is (.pointer (some ⟨b1, 0, none⟩)), Fq.num z, Fq.num z, Fq.is (.bool true), Fq.is (.bool true), Fq.is (.bool true)]) (ks := [none, none]) (new := []) E rfl (by kernel_rfl) rfl rfl (fun hp => ⟨?_, ?_, ?_, ?_, ?_, ?_, ?_, ?_, ?_, ?_, ?_, trivial⟩) ?_
  · exact q_addr (b := b1) (off := 0) (off' := 2) hp (free_of rfl) trivial (sq_out (s := 3) rfl rfl (fun _ _ => rfl)) (fun ρ w h => by simp [execOp, go_sem, h]) (fun _ => rfl)
  · exact q_loadErr (r := r) hp (free_of rfl) trivial (List.mem_iff_getElem?.2 ⟨1, rfl⟩) (.inl rfl) rfl (sqi 0) (fun us w hl h => ld_got2 hl h) (fun _ => rfl)
  · exact q_move hp (free_of rfl) trivial (sq_out (s := 2) rfl rfl (fun _ _ => rfl))
  · exact q_two (F := fun v _ => v = .int .i64 r) (G := fun v _ => v = .int .i64 r) hp (free_of rfl) trivial (sqi 1) (sqi 2) (fun ρ w hc h h' => ⟨.bool true, by simp [execOp, go_sem, h, h'], rfl⟩)
  · exact q_move hp (free_of rfl) trivial (sqi 3)
  · exact q_addr (b := b1) (off := 0) (off' := 0) hp (free_of rfl) (gq_some rfl rfl (by simp) rfl (fun v w h => h)) (sq_out (s := 3) rfl rfl (fun _ _ => rfl)) (fun ρ w h => by simp [execOp, go_sem, h]) (fun _ => rfl)
  · exact q_loadInt (off := 0) hp (free_of rfl) (gq_some rfl rfl (by simp) rfl (fun v w h => h)) (List.mem_iff_getElem?.2 ⟨1, rfl⟩) (.inl rfl) (Nat.le_of_ble_eq_true rfl) (sqi 5) (fun us w hl h => ld_got hl h)
  · exact q_loadInt (off := 0) hp (free_of rfl) (gq_some rfl rfl (by simp) rfl (fun v w h => h)) (List.mem_iff_getElem?.2 ⟨0, rfl⟩) (.inl rfl) (Nat.le_of_ble_eq_true rfl) (sq_out (s := 4) rfl rfl (fun _ _ => rfl)) (fun us w hl h => ld_num hl h)
  · exact q_call2 (F := (Fq.num z).P) (G := (Fq.num z).P) hp (free_of rfl) (gq_some rfl rfl (by simp) rfl (fun v w h => h)) (enq_R_Same) (sqi 6) (sqi 7) (fun v v' w h h' => exRSameB h h' (decide_eq_true rfl))
  · exact q_two (F := fun v _ => v = .bool true) (G := fun v _ => v = .bool true) hp (free_of rfl) trivial (sqi 4) (sqi 8) (fun ρ w hc h h' => ⟨_, by simp [execOp, go_sem, h, h'], rfl⟩)
  · exact q_assign hp (free_of rfl) trivial (sqi 9)
  intro L vs w3 nb hL hC hn E3
  have e0 : vs 0 = .pointer (some ⟨b1, 2, none⟩) := hC 0 (by simp)
  have e1 : vs 1 = .int .i64 r := hC 1 (by simp)
  have e2 : vs 2 = .int .i64 r := hC 2 (by simp)
  have e3 : vs 3 = .bool true := hC 3 (by simp)
  have e4 : vs 4 = .bool true := hC 4 (by simp)
  have e5 : vs 5 = .pointer (some ⟨b1, 0, none⟩) := hC 5 (by simp)
  have e8 : vs 8 = .bool true := hC 8 (by simp)
  have e9 : vs 9 = .bool true := hC 9 (by simp)
  have e10 : vs 10 = .bool true := hC 10 (by simp)
  have E : Fr w [(b2, 2, Fq.num z), (b1, 3, Fq.got z r)] w3 := E3
  rw [lay_all hL]
  simp only [putAll, dstOf, List.length_cons, List.length_nil, Nat.zero_add, Nat.reduceAdd, List.getElem?_toArray, List.getElem?_cons_zero, List.getElem?_cons_succ, Option.bind_some, Act.put, List.setIfInBounds_toArray, List.set_cons_succ, List.set_cons_zero]
  rw [e0, e1, e2, e3, e4, e5, e8, e9, e10]
  generalize vs 6 = u3_6
  generalize vs 7 = u3_7
  clear e0 e1 e2 e3 e4 e5 e8 e9 e10 hC hn E3 hL vs L nb
  go_wp2
  refine bodyPost_ret (v := .bool true) ?_ rfl (by first | exact ⟨_, rfl, E.below, rfl⟩ | exact ⟨_, rfl, E.below⟩ | exact ⟨rfl, E.below⟩)
  simp [results, Tryz.results11, go_sem]

theorem match_mod {a m : Int} (ha : ab a < pw 20) (hm : ab m < pw 20) : ∃ z e : Int, (∀ (w : World) (v v' : Value), Num w v a → Num w v' m → Calls Tryz.prog 6 #[v, v'] w fun e' w' => ∃ v', e' = .returned v' ∧ Below w.heap.size w w' ∧ (Fq.tup2 (Fq.num z) (Fq.is (.int .i64 e))).P v' w') ∧ (∀ (w : World) (v v' : Value), Num w v a → Num w v' m → Calls Tryz.prog 7 #[v, v'] w fun e' w' => ∃ v', e' = .returned v' ∧ Below w.heap.size w w' ∧ (Fq.tup2 (Fq.num z) (Fq.is (.int .i64 e))).P v' w') := by
  have ha3 := Int.lt_of_lt_of_le ha (pw_le (show 20 ≤ 300 by omega))
  have hm3 := Int.lt_of_lt_of_le hm (pw_le (show 20 ≤ 300 by omega))
  by_cases h0 : m ≤ 0
  · exact ⟨0, 1, fun w v v' h h' => exModZ h h' ha3 hm3 h0, fun w v v' h h' => exUModZ h h' ha hm h0⟩
  · exact ⟨a % m, 0, fun w v v' h h' => exModP h h' ha3 hm3 (by omega), fun w v v' h h' => exUModP h h' ha hm (by omega)⟩
theorem match_inv {a m : Int} (ha : ab a < pw 20) (hm : ab m < pw 20) : ∃ z e : Int, (∀ (w : World) (v v' : Value), Num w v a → Num w v' m → Calls Tryz.prog 12 #[v, v'] w fun e' w' => ∃ v', e' = .returned v' ∧ Below w.heap.size w w' ∧ Got w' v' z e) ∧ (∀ (w : World) (v v' : Value), Num w v a → Num w v' m → Calls Tryz.prog 9 #[v, v'] w fun e' w' => ∃ v', e' = .returned v' ∧ Below w.heap.size w w' ∧ (Fq.tup2 (Fq.num z) (Fq.is (.int .i64 e))).P v' w') := by
  have ha3 := Int.lt_of_lt_of_le ha (pw_le (show 20 ≤ 300 by omega))
  have hm3 := Int.lt_of_lt_of_le hm (pw_le (show 20 ≤ 300 by omega))
  by_cases h0 : m ≤ 0
  · exact ⟨0, 1, fun w v v' h h' => exVInv h h' fun _ _ _ _ hx hx' => exInvZ hx hx' ha3 hm3 h0, fun w v v' h h' => exUInvZ h h' ha hm h0⟩
  · have hp : 0 < m := by omega
    by_cases hg : Int.gcd a m = 1
    · exact ⟨bezU a m, 0, fun w v v' h h' => exVInvP h h' ha3 hm3 hp hg, fun w v v' h h' => by rw [← bez_same hp hg]; exact exUInvP h h' ha hm hp (by rw [gcd_modI hp]; exact hg)⟩
    · exact ⟨0, 4, fun w v v' h h' => exVInvN h h' ha3 hm3 hp hg, fun w v v' h h' => exUInvN h h' ha hm hp (by rw [gcd_modI hp]; exact hg)⟩
theorem match_pow {a n m : Int} (ha : ab a < pw 20) (hn : ab n < pw 20) (hm : ab m < pw 20) : ∃ z e : Int, (∀ (w : World) (v v' u : Value), Num w v a → Num w v' n → Num w u m → Calls Tryz.prog 13 #[v, v', u] w fun e' w' => ∃ v', e' = .returned v' ∧ Below w.heap.size w w' ∧ Got w' v' z e) ∧ (∀ (w : World) (v v' u : Value), Num w v a → Num w v' n → Num w u m → Calls Tryz.prog 10 #[v, v', u] w fun e' w' => ∃ v', e' = .returned v' ∧ Below w.heap.size w w' ∧ (Fq.tup2 (Fq.num z) (Fq.is (.int .i64 e))).P v' w') := by
  have ha1 := Int.lt_of_lt_of_le ha (pw_le (show 20 ≤ 100 by omega))
  have hn1 := Int.lt_of_lt_of_le hn (pw_le (show 20 ≤ 100 by omega))
  have hm1 := Int.lt_of_lt_of_le hm (pw_le (show 20 ≤ 100 by omega))
  by_cases h0 : m ≤ 0
  · exact ⟨0, 1, fun w v v' u h h' g => exVPow h h' g fun _ _ _ _ hx hx' hy => exPowZ hx hx' hy ha1 hn1 hm1 h0, fun w v v' u h h' g => exUPowZ h h' g ha hn hm h0⟩
  · have hp : 0 < m := by omega
    by_cases h1 : 0 ≤ n
    · exact ⟨powM a n m, 0, fun w v v' u h h' g => exVPowOk h h' g ha1 hn1 hm1 hp (.inr h1), fun w v v' u h h' g => exUPowP h h' g ha hn hm hp h1⟩
    · by_cases hg : Int.gcd a m = 1
      · exact ⟨powM a n m, 0, fun w v v' u h h' g => exVPowOk h h' g ha1 hn1 hm1 hp (.inl hg), fun w v v' u h h' g => exUPowN h h' g ha hn hm hp (by omega) (by rw [gcd_modI hp]; exact hg)⟩
      · exact ⟨0, 4, fun w v v' u h h' g => exVPowNo h h' g ha1 hn1 hm1 hp hg (by omega), fun w v v' u h h' g => exUPowE h h' g ha hn hm hp (by omega) (by rw [gcd_modI hp]; exact hg)⟩

set_option maxRecDepth 100000 in
set_option maxHeartbeats 4000000 in
theorem ModularMatchesReference_any (w : World) (hT : Tabs w) (n1 : Bool) (a1 : Option Addr) (k1 c1 : Nat) (xs1 : List Int) (h1 : Sl w a1 k1 c1 xs1) (hk1 : k1 ≤ 9223372036854775807) (n2 : Bool) (a2 : Option Addr) (k2 c2 : Nat) (xs2 : List Int) (h2 : Sl w a2 k2 c2 xs2) (hk2 : k2 ≤ 9223372036854775807) (n3 : Bool) (a3 : Option Addr) (k3 c3 : Nat) (xs3 : List Int) (h3 : Sl w a3 k3 c3 xs3) (hk3 : k3 ≤ 9223372036854775807) :
    Calls Tryz.prog 3 #[.agg #[.bool n1, .slice a1 k1 c1, .bool n2, .slice a2 k2 c2, .bool n3, .slice a3 k3 c3]] w fun e w' => e = .returned (.bool true) ∧ Below w.heap.size w w' := by
  replace hT := hidd hT
  obtain ⟨a, ha⟩ : ∃ a, a = sgn n1 (val (xs1.take 3)) := ⟨_, rfl⟩
  have Ba : Hid (ab a < pw 3) := by rw [ha]; exact Num.ofMade h1.digs
  have Ha := hidd ha
  have K1 := hidd hk1
  clear ha hk1
  obtain ⟨n, hn⟩ : ∃ n, n = sgn n2 (val (xs2.take 2)) := ⟨_, rfl⟩
  have Bn : Hid (ab n < pw 2) := by rw [hn]; exact Num.ofMade h2.digs
  have Hn := hidd hn
  have K2 := hidd hk2
  clear hn hk2
  obtain ⟨m, hm⟩ : ∃ m, m = sgn n3 (val (xs3.take 3)) := ⟨_, rfl⟩
  have Bm : Hid (ab m < pw 3) := by rw [hm]; exact Num.ofMade h3.digs
  have Hm := hidd hm
  have K3 := hidd hk3
  clear hm hk3
  obtain ⟨w1, b1, hw1, hb1, hs1, E⟩ := fr_start w (F := Fq.three n1 a1 k1 c1 xs1 n2 a2 k2 c2 xs2 n3 a3 k3 c3 xs3) (us := [.bool n1, .slice a1 k1 c1, .bool n2, .slice a2 k2 c2, .bool n3, .slice a3 k3 c3]) 26 rfl (by simp) (tame_three _ _ _ _ _ _ _ _ _ _ _ _) (show (Fq.three n1 a1 k1 c1 xs1 n2 a2 k2 c2 xs2 n3 a3 k3 c3 xs3).P _ w from ⟨rfl, h1, h2, h3⟩)
  go_enter Tryz.func3, Tryz.ntmps3
  go_upto_region 1 with (fail)
  rw [← hw1]
  rw [← hb1]
  clear hw1 hb1 hs1
  obtain ⟨z1, e1, hMM, hUM⟩ := match_mod (a := a) (m := m) (Int.lt_of_lt_of_le Ba.out (pw_le (by omega))) (Int.lt_of_lt_of_le Bm.out (pw_le (by omega)))
  obtain ⟨z2, e2, hVI, hUI⟩ := match_inv (a := a) (m := m) (Int.lt_of_lt_of_le Ba.out (pw_le (by omega))) (Int.lt_of_lt_of_le Bm.out (pw_le (by omega)))
  obtain ⟨z3, e3, hVP, hUP⟩ := match_pow (a := a) (n := n) (m := m) (Int.lt_of_lt_of_le Ba.out (pw_le (by omega))) (Int.lt_of_lt_of_le Bn.out (pw_le (by omega))) (Int.lt_of_lt_of_le Bm.out (pw_le (by omega)))
  have HMM := hidd hMM
  have HUM := hidd hUM
  have HVI := hidd hVI
  have HUI := hidd hUI
  have HVP := hidd hVP
  have HUP := hidd hUP
  obtain ⟨q1, hq1⟩ : ∃ q, kron a m = q := ⟨_, rfl⟩
  obtain ⟨q2, hq2⟩ : ∃ q, kron m a = q := ⟨_, rfl⟩
  have HQ1 := hidd hq1
  have HQ2 := hidd hq2
  clear hMM hUM hVI hUI hVP hUP hq1 hq2
  refine region_fr (C := [Fq.is (.bool true), Fq.is (.bool true)]) (ks := [none]) (new := []) E rfl (by kernel_rfl) rfl rfl (fun hp => ⟨?_, ?_, trivial⟩) ?_
  · exact q_call0W hp (free_of rfl) trivial (enq_V_examples) rfl (fun w hbw => exVExamples (hT.out.mono hbw))
  · exact q_assign hp (free_of rfl) trivial (sqi 0)
  intro L vs w2 nb hL hC hn E2
  have e0 : vs 0 = .bool true := hC 0 (by simp)
  have e1 : vs 1 = .bool true := hC 1 (by simp)
  have E : Fr w [(b1, 6, Fq.three n1 a1 k1 c1 xs1 n2 a2 k2 c2 xs2 n3 a3 k3 c3 xs3)] w2 := E2
  rw [lay_all hL]
  simp only [putAll, dstOf, List.length_cons, List.length_nil, Nat.zero_add, Nat.reduceAdd, List.getElem?_toArray, List.getElem?_cons_zero, List.getElem?_cons_succ, Option.bind_some, Act.put, List.setIfInBounds_toArray, List.set_cons_succ, List.set_cons_zero]
  rw [e0, e1]
  clear e0 e1 hC hn E2 hL vs L nb
  go_upto_region 2 with (fail)
  refine region_fr (C := [Fq.is (.bool true), Fq.is (.bool false)]) (ks := [none]) (new := []) E rfl (by kernel_rfl) rfl rfl (fun hp => ⟨?_, ?_, trivial⟩) ?_
  · exact q_move hp (free_of rfl) trivial (sq_out (s := 3) rfl rfl (fun _ _ => rfl))
  · exact q_one (F := fun v _ => v = .bool true) hp (free_of rfl) trivial (sqi 0) (fun ρ w _ h => ⟨.bool false, by simp [execOp, go_sem, h], rfl⟩)
  intro L vs w3 nb hL hC hn E3
  have e0 : vs 0 = .bool true := hC 0 (by simp)
  have e1 : vs 1 = .bool false := hC 1 (by simp)
  have E : Fr w [(b1, 6, Fq.three n1 a1 k1 c1 xs1 n2 a2 k2 c2 xs2 n3 a3 k3 c3 xs3)] w3 := E3
  rw [lay_all hL]
  simp only [putAll, dstOf, List.length_cons, List.length_nil, Nat.zero_add, Nat.reduceAdd, List.getElem?_toArray, List.getElem?_cons_zero, List.getElem?_cons_succ, Option.bind_some, Act.put, List.setIfInBounds_toArray, List.set_cons_succ, List.set_cons_zero]
  rw [e0, e1]
  clear e0 e1 hC hn E3 hL vs L nb
  go_upto_region 4 with (fail)
  refine region_fr (C := [Fq.is (.pointer (some ⟨b1, 0, none⟩)), Fq.raw n1 a1 k1 c1 xs1, Fq.num a, Fq.is (.pointer (some ⟨b1, 2, none⟩)), Fq.raw n2 a2 k2 c2 xs2, Fq.num n, Fq.is (.pointer (some ⟨b1, 4, none⟩)), Fq.raw n3 a3 k3 c3 xs3, Fq.num m, Fq.any, Fq.any, Fq.any, Fq.any, Fq.any, Fq.any]) (ks := [none]) (new := [⟨9, 12, 2, Fq.num 0, Fq.num a, none⟩, ⟨10, 13, 2, Fq.num 0, Fq.num n, none⟩, ⟨11, 14, 2, Fq.num 0, Fq.num m, none⟩]) E rfl (by kernel_rfl) rfl rfl (fun hp => ⟨?_, ?_, ?_, ?_, ?_, ?_, ?_, ?_, ?_, ?_, ?_, ?_, ?_, ?_, ?_, trivial⟩) ?_
  · exact q_addr (b := b1) (off := 0) (off' := 0) hp (free_of rfl) trivial (sq_out (s := 1) rfl rfl (fun _ _ => rfl)) (fun ρ w h => by simp [execOp, go_sem, h]) (fun _ => rfl)
  · exact q_loadRaw (off := 0) hp (free_of rfl) trivial (List.mem_iff_getElem?.2 ⟨0, rfl⟩) (.inl rfl) (Nat.le_of_ble_eq_true rfl) (sqi 0) (fun us w hl h => ld_three0 hl h)
  · exact q_call2 (F := (Fq.raw n1 a1 k1 c1 xs1).P) (G := (Fq.is (.int .i64 3)).P) hp (free_of rfl) trivial (enq_R_Made) (sqi 1) (sq_const (fun _ => rfl)) (fun v v' w h h' => (by rw [Ha.out]; exact exRMade (j := 3) h h' K1.out (by omega)))
  · exact q_addr (b := b1) (off := 0) (off' := 2) hp (free_of rfl) trivial (sq_out (s := 1) rfl rfl (fun _ _ => rfl)) (fun ρ w h => by simp [execOp, go_sem, h]) (fun _ => rfl)
  · exact q_loadRaw (off := 2) hp (free_of rfl) trivial (List.mem_iff_getElem?.2 ⟨0, rfl⟩) (.inl rfl) (Nat.le_of_ble_eq_true rfl) (sqi 3) (fun us w hl h => ld_three1 hl h)
  · exact q_call2 (F := (Fq.raw n2 a2 k2 c2 xs2).P) (G := (Fq.is (.int .i64 2)).P) hp (free_of rfl) trivial (enq_R_Made) (sqi 4) (sq_const (fun _ => rfl)) (fun v v' w h h' => (by rw [Hn.out]; exact exRMade (j := 2) h h' K2.out (by omega)))
  · exact q_addr (b := b1) (off := 0) (off' := 4) hp (free_of rfl) trivial (sq_out (s := 1) rfl rfl (fun _ _ => rfl)) (fun ρ w h => by simp [execOp, go_sem, h]) (fun _ => rfl)
  · exact q_loadRaw (off := 4) hp (free_of rfl) trivial (List.mem_iff_getElem?.2 ⟨0, rfl⟩) (.inl rfl) (Nat.le_of_ble_eq_true rfl) (sqi 6) (fun us w hl h => ld_three2 hl h)
  · exact q_call2 (F := (Fq.raw n3 a3 k3 c3 xs3).P) (G := (Fq.is (.int .i64 3)).P) hp (free_of rfl) trivial (enq_R_Made) (sqi 7) (sq_const (fun _ => rfl)) (fun v v' w h h' => (by rw [Hm.out]; exact exRMade (j := 3) h h' K3.out (by omega)))
  · exact q_allocInt hp (List.mem_iff_getElem?.2 ⟨0, rfl⟩) rfl rfl rfl rfl (Nat.ne_of_beq_eq_false rfl) (fun _ _ => trivial) (old_ne rfl) (newk_ne rfl) (fun w => Num.zero w)
  · exact q_allocInt hp (List.mem_iff_getElem?.2 ⟨1, rfl⟩) rfl rfl rfl rfl (Nat.ne_of_beq_eq_false rfl) (fun _ _ => trivial) (old_ne rfl) (newk_ne rfl) (fun w => Num.zero w)
  · exact q_allocInt hp (List.mem_iff_getElem?.2 ⟨2, rfl⟩) rfl rfl rfl rfl (Nat.ne_of_beq_eq_false rfl) (fun _ _ => trivial) (old_ne rfl) (newk_ne rfl) (fun w => Num.zero w)
  · exact q_storeNewInt hp (List.mem_iff_getElem?.2 ⟨0, rfl⟩) rfl rfl rfl (own_ptr rfl rfl (by simp) rfl) (sq_in 2 rfl rfl (by simp) rfl (fun v w h => intV_num h)) (fun _ _ => trivial) (old_ne rfl) (newi_ne rfl)
  · exact q_storeNewInt hp (List.mem_iff_getElem?.2 ⟨1, rfl⟩) rfl rfl rfl (own_ptr rfl rfl (by simp) rfl) (sq_in 5 rfl rfl (by simp) rfl (fun v w h => intV_num h)) (fun _ _ => trivial) (old_ne rfl) (newi_ne rfl)
  · exact q_storeNewInt hp (List.mem_iff_getElem?.2 ⟨2, rfl⟩) rfl rfl rfl (own_ptr rfl rfl (by simp) rfl) (sq_in 8 rfl rfl (by simp) rfl (fun v w h => intV_num h)) (fun _ _ => trivial) (old_ne rfl) (newi_ne rfl)
  intro L vs w4 nb hL hC hn E4
  have e0 : vs 0 = .pointer (some ⟨b1, 0, none⟩) := hC 0 (by simp)
  have e3 : vs 3 = .pointer (some ⟨b1, 2, none⟩) := hC 3 (by simp)
  have e6 : vs 6 = .pointer (some ⟨b1, 4, none⟩) := hC 6 (by simp)
  have e9 : vs 9 = .pointer (some ⟨nb 9, 0, none⟩) := hn _ (List.mem_iff_getElem?.2 ⟨0, rfl⟩)
  have e10 : vs 10 = .pointer (some ⟨nb 10, 0, none⟩) := hn _ (List.mem_iff_getElem?.2 ⟨1, rfl⟩)
  have e11 : vs 11 = .pointer (some ⟨nb 11, 0, none⟩) := hn _ (List.mem_iff_getElem?.2 ⟨2, rfl⟩)
  have E : Fr w [(nb 9, 2, Fq.num a), (nb 10, 2, Fq.num n), (nb 11, 2, Fq.num m), (b1, 6, Fq.three n1 a1 k1 c1 xs1 n2 a2 k2 c2 xs2 n3 a3 k3 c3 xs3)] w4 := E4
  rw [lay_all hL]
  simp only [putAll, dstOf, List.length_cons, List.length_nil, Nat.zero_add, Nat.reduceAdd, List.getElem?_toArray, List.getElem?_cons_zero, List.getElem?_cons_succ, Option.bind_some, Act.put, List.setIfInBounds_toArray, List.set_cons_succ, List.set_cons_zero]
  rw [e0, e3, e6, e9, e10, e11]
  generalize nb 9 = b4_9 at E ⊢
  generalize nb 10 = b4_10 at E ⊢
  generalize nb 11 = b4_11 at E ⊢
  generalize vs 1 = u4_1
  generalize vs 2 = u4_2
  generalize vs 4 = u4_4
  generalize vs 5 = u4_5
  generalize vs 7 = u4_7
  generalize vs 8 = u4_8
  clear e0 e3 e6 e9 e10 e11 hC hn E4 hL vs L nb
  go_upto_region 5 with (fail)
  refine region_fr (C := [Fq.num a, Fq.num m, Fq.tup2 (Fq.num z1) (Fq.is (.int .i64 e1)), Fq.tup2 (Fq.num z1) (Fq.is (.int .i64 e1)), Fq.num z1, Fq.is (.int .i64 e1), Fq.any, Fq.any, Fq.is (.int .i64 e1)]) (ks := [none, none, none, none]) (new := [⟨6, 7, 2, Fq.num 0, Fq.num z1, none⟩]) E rfl (by kernel_rfl) rfl rfl (fun hp => ⟨?_, ?_, ?_, ?_, ?_, ?_, ?_, ?_, ?_, trivial⟩) ?_
  · exact q_loadInt (off := 0) hp (free_of rfl) trivial (List.mem_iff_getElem?.2 ⟨0, rfl⟩) (.inl rfl) (Nat.le_of_ble_eq_true rfl) (sq_out (s := 4) rfl rfl (fun _ _ => rfl)) (fun us w hl h => ld_num hl h)
  · exact q_loadInt (off := 0) hp (free_of rfl) trivial (List.mem_iff_getElem?.2 ⟨2, rfl⟩) (.inl rfl) (Nat.le_of_ble_eq_true rfl) (sq_out (s := 6) rfl rfl (fun _ _ => rfl)) (fun us w hl h => ld_num hl h)
  · exact q_call2 (F := (Fq.num a).P) (G := (Fq.num m).P) hp (free_of rfl) trivial (enq_M_Mod) (sqi 0) (sqi 1) (fun v v' w h h' => HMM.out _ _ _ h h')
  · exact q_move hp (free_of rfl) trivial (sqi 2)
  · exact q_extract2 hp (free_of rfl) trivial (sqi 3) (fun v1 v2 w h1 h2 => ⟨_, rfl, h1⟩)
  · exact q_extract2 hp (free_of rfl) trivial (sqi 3) (fun v1 v2 w h1 h2 => ⟨_, rfl, h2⟩)
  · exact q_allocInt hp (List.mem_iff_getElem?.2 ⟨0, rfl⟩) rfl rfl rfl rfl (Nat.ne_of_beq_eq_false rfl) (fun _ _ => trivial) (old_ne rfl) (newk_ne rfl) (fun w => Num.zero w)
  · exact q_storeNewInt hp (List.mem_iff_getElem?.2 ⟨0, rfl⟩) rfl rfl rfl (own_ptr rfl rfl (by simp) rfl) (sq_in 4 rfl rfl (by simp) rfl (fun v w h => intV_num h)) (fun _ _ => trivial) (old_ne rfl) (newi_ne rfl)
  · exact q_assign hp (free_of rfl) trivial (sqi 5)
  intro L vs w5 nb hL hC hn E5
  have e5 : vs 5 = .int .i64 e1 := hC 5 (by simp)
  have e8 : vs 8 = .int .i64 e1 := hC 8 (by simp)
  have e6 : vs 6 = .pointer (some ⟨nb 6, 0, none⟩) := hn _ (List.mem_iff_getElem?.2 ⟨0, rfl⟩)
  have E : Fr w [(nb 6, 2, Fq.num z1), (b4_9, 2, Fq.num a), (b4_10, 2, Fq.num n), (b4_11, 2, Fq.num m), (b1, 6, Fq.three n1 a1 k1 c1 xs1 n2 a2 k2 c2 xs2 n3 a3 k3 c3 xs3)] w5 := E5
  rw [lay_all hL]
  simp only [putAll, dstOf, List.length_cons, List.length_nil, Nat.zero_add, Nat.reduceAdd, List.getElem?_toArray, List.getElem?_cons_zero, List.getElem?_cons_succ, Option.bind_some, Act.put, List.setIfInBounds_toArray, List.set_cons_succ, List.set_cons_zero]
  rw [e5, e8, e6]
  generalize nb 6 = b5_6 at E ⊢
  generalize vs 0 = u5_0
  generalize vs 1 = u5_1
  generalize vs 2 = u5_2
  generalize vs 3 = u5_3
  generalize vs 4 = u5_4
  clear e5 e8 e6 hC hn E5 hL vs L nb
  go_upto_region 6 with (fail)
  refine region_fr (C := [Fq.num a, Fq.num m, Fq.tup2 (Fq.num z1) (Fq.is (.int .i64 e1)), Fq.tup2 (Fq.num z1) (Fq.is (.int .i64 e1)), Fq.num z1, Fq.is (.int .i64 e1), Fq.any, Fq.any, Fq.is (.int .i64 e1)]) (ks := [none, none, none, none, none]) (new := [⟨6, 7, 2, Fq.num 0, Fq.num z1, none⟩]) E rfl (by kernel_rfl) rfl rfl (fun hp => ⟨?_, ?_, ?_, ?_, ?_, ?_, ?_, ?_, ?_, trivial⟩) ?_
  · exact q_loadInt (off := 0) hp (free_of rfl) trivial (List.mem_iff_getElem?.2 ⟨1, rfl⟩) (.inl rfl) (Nat.le_of_ble_eq_true rfl) (sq_out (s := 4) rfl rfl (fun _ _ => rfl)) (fun us w hl h => ld_num hl h)
  · exact q_loadInt (off := 0) hp (free_of rfl) trivial (List.mem_iff_getElem?.2 ⟨3, rfl⟩) (.inl rfl) (Nat.le_of_ble_eq_true rfl) (sq_out (s := 6) rfl rfl (fun _ _ => rfl)) (fun us w hl h => ld_num hl h)
  · exact q_call2 (F := (Fq.num a).P) (G := (Fq.num m).P) hp (free_of rfl) trivial (enq_U_Mod) (sqi 0) (sqi 1) (fun v v' w h h' => HUM.out _ _ _ h h')
  · exact q_move hp (free_of rfl) trivial (sqi 2)
  · exact q_extract2 hp (free_of rfl) trivial (sqi 3) (fun v1 v2 w h1 h2 => ⟨_, rfl, h1⟩)
  · exact q_extract2 hp (free_of rfl) trivial (sqi 3) (fun v1 v2 w h1 h2 => ⟨_, rfl, h2⟩)
  · exact q_allocInt hp (List.mem_iff_getElem?.2 ⟨0, rfl⟩) rfl rfl rfl rfl (Nat.ne_of_beq_eq_false rfl) (fun _ _ => trivial) (old_ne rfl) (newk_ne rfl) (fun w => Num.zero w)
  · exact q_storeNewInt hp (List.mem_iff_getElem?.2 ⟨0, rfl⟩) rfl rfl rfl (own_ptr rfl rfl (by simp) rfl) (sq_in 4 rfl rfl (by simp) rfl (fun v w h => intV_num h)) (fun _ _ => trivial) (old_ne rfl) (newi_ne rfl)
  · exact q_assign hp (free_of rfl) trivial (sqi 5)
  intro L vs w6 nb hL hC hn E6
  have e5 : vs 5 = .int .i64 e1 := hC 5 (by simp)
  have e8 : vs 8 = .int .i64 e1 := hC 8 (by simp)
  have e6 : vs 6 = .pointer (some ⟨nb 6, 0, none⟩) := hn _ (List.mem_iff_getElem?.2 ⟨0, rfl⟩)
  have E : Fr w [(nb 6, 2, Fq.num z1), (b5_6, 2, Fq.num z1), (b4_9, 2, Fq.num a), (b4_10, 2, Fq.num n), (b4_11, 2, Fq.num m), (b1, 6, Fq.three n1 a1 k1 c1 xs1 n2 a2 k2 c2 xs2 n3 a3 k3 c3 xs3)] w6 := E6
  rw [lay_all hL]
  simp only [putAll, dstOf, List.length_cons, List.length_nil, Nat.zero_add, Nat.reduceAdd, List.getElem?_toArray, List.getElem?_cons_zero, List.getElem?_cons_succ, Option.bind_some, Act.put, List.setIfInBounds_toArray, List.set_cons_succ, List.set_cons_zero]
  rw [e5, e8, e6]
  generalize nb 6 = b6_6 at E ⊢
  generalize vs 0 = u6_0
  generalize vs 1 = u6_1
  generalize vs 2 = u6_2
  generalize vs 3 = u6_3
  generalize vs 4 = u6_4
  clear e5 e8 e6 hC hn E6 hL vs L nb
  go_upto_region 7 with (fail)
  refine region_fr (C := [Fq.is (.int .i64 e1), Fq.is (.int .i64 e1), Fq.is (.bool false), Fq.is (.bool false), Fq.num z1, Fq.num z1, Fq.is (.bool true), Fq.is (.bool false), Fq.is (.bool false)]) (ks := [none, none, none, none, none, none]) (new := []) E rfl (by kernel_rfl) rfl rfl (fun hp => ⟨?_, ?_, ?_, ?_, ?_, ?_, ?_, ?_, ?_, trivial⟩) ?_
  · exact q_move hp (free_of rfl) trivial (sq_out (s := 8) rfl rfl (fun _ _ => rfl))
  · exact q_move hp (free_of rfl) trivial (sq_out (s := 10) rfl rfl (fun _ _ => rfl))
  · exact q_two (F := fun v _ => v = .int .i64 e1) (G := fun v _ => v = .int .i64 e1) hp (free_of rfl) trivial (sqi 0) (sqi 1) (fun ρ w hc h h' => ⟨.bool false, by simp [execOp, go_sem, h, h'], rfl⟩)
  · exact q_move hp (free_of rfl) trivial (sqi 2)
  · exact q_loadInt (off := 0) hp (free_of rfl) (gq_some rfl rfl (by simp) rfl (fun v w h => h)) (List.mem_iff_getElem?.2 ⟨1, rfl⟩) (.inl rfl) (Nat.le_of_ble_eq_true rfl) (sq_out (s := 7) rfl rfl (fun _ _ => rfl)) (fun us w hl h => ld_num hl h)
  · exact q_loadInt (off := 0) hp (free_of rfl) (gq_some rfl rfl (by simp) rfl (fun v w h => h)) (List.mem_iff_getElem?.2 ⟨0, rfl⟩) (.inl rfl) (Nat.le_of_ble_eq_true rfl) (sq_out (s := 9) rfl rfl (fun _ _ => rfl)) (fun us w hl h => ld_num hl h)
  · exact q_call2 (F := (Fq.num z1).P) (G := (Fq.num z1).P) hp (free_of rfl) (gq_some rfl rfl (by simp) rfl (fun v w h => h)) (enq_R_Same) (sqi 4) (sqi 5) (fun v v' w h h' => exRSameB h h' (decide_eq_true rfl))
  · exact q_one (F := fun v _ => v = .bool true) hp (free_of rfl) (gq_some rfl rfl (by simp) rfl (fun v w h => h)) (sqi 6) (fun ρ w _ h => ⟨.bool false, by simp [execOp, go_sem, h], rfl⟩)
  · exact q_two (F := fun v _ => v = .bool false) (G := fun v _ => v = .bool false) hp (free_of rfl) trivial (sqi 3) (sqi 7) (fun ρ w hc h h' => ⟨_, by simp [execOp, go_sem, h, h'], rfl⟩)
  intro L vs w7 nb hL hC hn E7
  have e0 : vs 0 = .int .i64 e1 := hC 0 (by simp)
  have e1 : vs 1 = .int .i64 e1 := hC 1 (by simp)
  have e2 : vs 2 = .bool false := hC 2 (by simp)
  have e3 : vs 3 = .bool false := hC 3 (by simp)
  have e6 : vs 6 = .bool true := hC 6 (by simp)
  have e7 : vs 7 = .bool false := hC 7 (by simp)
  have e8 : vs 8 = .bool false := hC 8 (by simp)
  have E : Fr w [(b6_6, 2, Fq.num z1), (b5_6, 2, Fq.num z1), (b4_9, 2, Fq.num a), (b4_10, 2, Fq.num n), (b4_11, 2, Fq.num m), (b1, 6, Fq.three n1 a1 k1 c1 xs1 n2 a2 k2 c2 xs2 n3 a3 k3 c3 xs3)] w7 := E7
  rw [lay_all hL]
  simp only [putAll, dstOf, List.length_cons, List.length_nil, Nat.zero_add, Nat.reduceAdd, List.getElem?_toArray, List.getElem?_cons_zero, List.getElem?_cons_succ, Option.bind_some, Act.put, List.setIfInBounds_toArray, List.set_cons_succ, List.set_cons_zero]
  rw [e0, e1, e2, e3, e6, e7, e8]
  generalize vs 4 = u7_4
  generalize vs 5 = u7_5
  clear e0 e1 e2 e3 e6 e7 e8 hC hn E7 hL vs L nb
  go_upto_region 9 with (fail)
  refine region_fr (C := [Fq.num a, Fq.num m, Fq.tup2 (Fq.num z2) (Fq.is (.int .i64 e2)), Fq.tup2 (Fq.num z2) (Fq.is (.int .i64 e2)), Fq.num z2, Fq.is (.int .i64 e2), Fq.any, Fq.any, Fq.is (.int .i64 e2)]) (ks := [none, none, none, none, none, none]) (new := [⟨6, 7, 2, Fq.num 0, Fq.num z2, none⟩]) E rfl (by kernel_rfl) rfl rfl (fun hp => ⟨?_, ?_, ?_, ?_, ?_, ?_, ?_, ?_, ?_, trivial⟩) ?_
  · exact q_loadInt (off := 0) hp (free_of rfl) trivial (List.mem_iff_getElem?.2 ⟨2, rfl⟩) (.inl rfl) (Nat.le_of_ble_eq_true rfl) (sq_out (s := 4) rfl rfl (fun _ _ => rfl)) (fun us w hl h => ld_num hl h)
  · exact q_loadInt (off := 0) hp (free_of rfl) trivial (List.mem_iff_getElem?.2 ⟨4, rfl⟩) (.inl rfl) (Nat.le_of_ble_eq_true rfl) (sq_out (s := 6) rfl rfl (fun _ _ => rfl)) (fun us w hl h => ld_num hl h)
  · exact q_call2 (F := (Fq.num a).P) (G := (Fq.num m).P) hp (free_of rfl) trivial (enq_U_Inv) (sqi 0) (sqi 1) (fun v v' w h h' => HUI.out _ _ _ h h')
  · exact q_move hp (free_of rfl) trivial (sqi 2)
  · exact q_extract2 hp (free_of rfl) trivial (sqi 3) (fun v1 v2 w h1 h2 => ⟨_, rfl, h1⟩)
  · exact q_extract2 hp (free_of rfl) trivial (sqi 3) (fun v1 v2 w h1 h2 => ⟨_, rfl, h2⟩)
  · exact q_allocInt hp (List.mem_iff_getElem?.2 ⟨0, rfl⟩) rfl rfl rfl rfl (Nat.ne_of_beq_eq_false rfl) (fun _ _ => trivial) (old_ne rfl) (newk_ne rfl) (fun w => Num.zero w)
  · exact q_storeNewInt hp (List.mem_iff_getElem?.2 ⟨0, rfl⟩) rfl rfl rfl (own_ptr rfl rfl (by simp) rfl) (sq_in 4 rfl rfl (by simp) rfl (fun v w h => intV_num h)) (fun _ _ => trivial) (old_ne rfl) (newi_ne rfl)
  · exact q_assign hp (free_of rfl) trivial (sqi 5)
  intro L vs w8 nb hL hC hn E8
  have e5 : vs 5 = .int .i64 e2 := hC 5 (by simp)
  have e8 : vs 8 = .int .i64 e2 := hC 8 (by simp)
  have e6 : vs 6 = .pointer (some ⟨nb 6, 0, none⟩) := hn _ (List.mem_iff_getElem?.2 ⟨0, rfl⟩)
  have E : Fr w [(nb 6, 2, Fq.num z2), (b6_6, 2, Fq.num z1), (b5_6, 2, Fq.num z1), (b4_9, 2, Fq.num a), (b4_10, 2, Fq.num n), (b4_11, 2, Fq.num m), (b1, 6, Fq.three n1 a1 k1 c1 xs1 n2 a2 k2 c2 xs2 n3 a3 k3 c3 xs3)] w8 := E8
  rw [lay_all hL]
  simp only [putAll, dstOf, List.length_cons, List.length_nil, Nat.zero_add, Nat.reduceAdd, List.getElem?_toArray, List.getElem?_cons_zero, List.getElem?_cons_succ, Option.bind_some, Act.put, List.setIfInBounds_toArray, List.set_cons_succ, List.set_cons_zero]
  rw [e5, e8, e6]
  generalize nb 6 = b8_6 at E ⊢
  generalize vs 0 = u8_0
  generalize vs 1 = u8_1
  generalize vs 2 = u8_2
  generalize vs 3 = u8_3
  generalize vs 4 = u8_4
  clear e5 e8 e6 hC hn E8 hL vs L nb
  go_upto_region 10 with (fail)
  refine region_fr (C := [Fq.num a, Fq.num n, Fq.num m, Fq.tup2 (Fq.num z3) (Fq.is (.int .i64 e3)), Fq.tup2 (Fq.num z3) (Fq.is (.int .i64 e3)), Fq.num z3, Fq.is (.int .i64 e3), Fq.any, Fq.any, Fq.is (.int .i64 e3)]) (ks := [none, none, none, none, none, none, none]) (new := [⟨7, 8, 2, Fq.num 0, Fq.num z3, none⟩]) E rfl (by kernel_rfl) rfl rfl (fun hp => ⟨?_, ?_, ?_, ?_, ?_, ?_, ?_, ?_, ?_, ?_, trivial⟩) ?_
  · exact q_loadInt (off := 0) hp (free_of rfl) trivial (List.mem_iff_getElem?.2 ⟨3, rfl⟩) (.inl rfl) (Nat.le_of_ble_eq_true rfl) (sq_out (s := 4) rfl rfl (fun _ _ => rfl)) (fun us w hl h => ld_num hl h)
  · exact q_loadInt (off := 0) hp (free_of rfl) trivial (List.mem_iff_getElem?.2 ⟨4, rfl⟩) (.inl rfl) (Nat.le_of_ble_eq_true rfl) (sq_out (s := 5) rfl rfl (fun _ _ => rfl)) (fun us w hl h => ld_num hl h)
  · exact q_loadInt (off := 0) hp (free_of rfl) trivial (List.mem_iff_getElem?.2 ⟨5, rfl⟩) (.inl rfl) (Nat.le_of_ble_eq_true rfl) (sq_out (s := 6) rfl rfl (fun _ _ => rfl)) (fun us w hl h => ld_num hl h)
  · exact q_call3 (F := (Fq.num a).P) (G := (Fq.num n).P) (F3 := (Fq.num m).P) hp (free_of rfl) trivial (enq_U_Pow) (sqi 0) (sqi 1) (sqi 2) (fun v v' u w h h' g => HUP.out _ _ _ _ h h' g)
  · exact q_move hp (free_of rfl) trivial (sqi 3)
  · exact q_extract2 hp (free_of rfl) trivial (sqi 4) (fun v1 v2 w h1 h2 => ⟨_, rfl, h1⟩)
  · exact q_extract2 hp (free_of rfl) trivial (sqi 4) (fun v1 v2 w h1 h2 => ⟨_, rfl, h2⟩)
  · exact q_allocInt hp (List.mem_iff_getElem?.2 ⟨0, rfl⟩) rfl rfl rfl rfl (Nat.ne_of_beq_eq_false rfl) (fun _ _ => trivial) (old_ne rfl) (newk_ne rfl) (fun w => Num.zero w)
  · exact q_storeNewInt hp (List.mem_iff_getElem?.2 ⟨0, rfl⟩) rfl rfl rfl (own_ptr rfl rfl (by simp) rfl) (sq_in 5 rfl rfl (by simp) rfl (fun v w h => intV_num h)) (fun _ _ => trivial) (old_ne rfl) (newi_ne rfl)
  · exact q_assign hp (free_of rfl) trivial (sqi 6)
  intro L vs w9 nb hL hC hn E9
  have e6 : vs 6 = .int .i64 e3 := hC 6 (by simp)
  have e9 : vs 9 = .int .i64 e3 := hC 9 (by simp)
  have e7 : vs 7 = .pointer (some ⟨nb 7, 0, none⟩) := hn _ (List.mem_iff_getElem?.2 ⟨0, rfl⟩)
  have E : Fr w [(nb 7, 2, Fq.num z3), (b8_6, 2, Fq.num z2), (b6_6, 2, Fq.num z1), (b5_6, 2, Fq.num z1), (b4_9, 2, Fq.num a), (b4_10, 2, Fq.num n), (b4_11, 2, Fq.num m), (b1, 6, Fq.three n1 a1 k1 c1 xs1 n2 a2 k2 c2 xs2 n3 a3 k3 c3 xs3)] w9 := E9
  rw [lay_all hL]
  simp only [putAll, dstOf, List.length_cons, List.length_nil, Nat.zero_add, Nat.reduceAdd, List.getElem?_toArray, List.getElem?_cons_zero, List.getElem?_cons_succ, Option.bind_some, Act.put, List.setIfInBounds_toArray, List.set_cons_succ, List.set_cons_zero]
  rw [e6, e9, e7]
  generalize nb 7 = b9_7 at E ⊢
  generalize vs 0 = u9_0
  generalize vs 1 = u9_1
  generalize vs 2 = u9_2
  generalize vs 3 = u9_3
  generalize vs 4 = u9_4
  generalize vs 5 = u9_5
  clear e6 e9 e7 hC hn E9 hL vs L nb
  go_upto_region 11 with (fail)
  refine region_fr (C := [Fq.num a, Fq.num m, Fq.got z2 e2, Fq.num z2, Fq.is (.int .i64 e2), Fq.is (.bool true), Fq.is (.bool true), Fq.num a, Fq.num n, Fq.num m, Fq.got z3 e3, Fq.num z3, Fq.is (.int .i64 e3), Fq.is (.bool true), Fq.is (.bool true), Fq.is (.bool true), Fq.num a, Fq.num m, Fq.is (.int .i64 q1), Fq.num a, Fq.num m, Fq.is (.int .i64 q1), Fq.is (.bool true), Fq.is (.bool true), Fq.is (.bool true), Fq.num m, Fq.num a, Fq.is (.int .i64 q2), Fq.num m, Fq.num a, Fq.is (.int .i64 q2), Fq.is (.bool true), Fq.is (.bool true), Fq.is (.bool true), Fq.is (.bool true), Fq.is (.bool true), Fq.is (.bool true)]) (ks := [none, none, none, none, none, none, none, none]) (new := []) E rfl (by kernel_rfl) rfl rfl (fun hp => ⟨?_, ?_, ?_, ?_, ?_, ?_, ?_, ?_, ?_, ?_, ?_, ?_, ?_, ?_, ?_, ?_, ?_, ?_, ?_, ?_, ?_, ?_, ?_, ?_, ?_, ?_, ?_, ?_, ?_, ?_, ?_, ?_, ?_, ?_, ?_, ?_, ?_, trivial⟩) ?_
  · exact q_loadInt (off := 0) hp (free_of rfl) trivial (List.mem_iff_getElem?.2 ⟨4, rfl⟩) (.inl rfl) (Nat.le_of_ble_eq_true rfl) (sq_out (s := 4) rfl rfl (fun _ _ => rfl)) (fun us w hl h => ld_num hl h)
  · exact q_loadInt (off := 0) hp (free_of rfl) trivial (List.mem_iff_getElem?.2 ⟨6, rfl⟩) (.inl rfl) (Nat.le_of_ble_eq_true rfl) (sq_out (s := 6) rfl rfl (fun _ _ => rfl)) (fun us w hl h => ld_num hl h)
  · exact q_call2 (F := (Fq.num a).P) (G := (Fq.num m).P) hp (free_of rfl) trivial (enq_V_inv) (sqi 0) (sqi 1) (fun v v' w h h' => HVI.out _ _ _ h h')
  · exact q_loadInt (off := 0) hp (free_of rfl) trivial (List.mem_iff_getElem?.2 ⟨1, rfl⟩) (.inl rfl) (Nat.le_of_ble_eq_true rfl) (sq_out (s := 11) rfl rfl (fun _ _ => rfl)) (fun us w hl h => ld_num hl h)
  · exact q_move hp (free_of rfl) trivial (sq_out (s := 12) rfl rfl (fun _ _ => rfl))
  · exact q_call3 (F := (Fq.got z2 e2).P) (G := (Fq.num z2).P) (F3 := (Fq.is (.int .i64 e2)).P) hp (free_of rfl) trivial (enq_V_sameGot) (sqi 2) (sqi 3) (sqi 4) (fun v v' u w h h' g => (by subst g; exact exSameGot h h'))
  · exact q_move hp (free_of rfl) trivial (sqi 5)
  · exact q_loadInt (off := 0) hp (free_of rfl) (gq_some rfl rfl (by simp) rfl (fun v w h => h)) (List.mem_iff_getElem?.2 ⟨4, rfl⟩) (.inl rfl) (Nat.le_of_ble_eq_true rfl) (sq_out (s := 4) rfl rfl (fun _ _ => rfl)) (fun us w hl h => ld_num hl h)
  · exact q_loadInt (off := 0) hp (free_of rfl) (gq_some rfl rfl (by simp) rfl (fun v w h => h)) (List.mem_iff_getElem?.2 ⟨5, rfl⟩) (.inl rfl) (Nat.le_of_ble_eq_true rfl) (sq_out (s := 5) rfl rfl (fun _ _ => rfl)) (fun us w hl h => ld_num hl h)
  · exact q_loadInt (off := 0) hp (free_of rfl) (gq_some rfl rfl (by simp) rfl (fun v w h => h)) (List.mem_iff_getElem?.2 ⟨6, rfl⟩) (.inl rfl) (Nat.le_of_ble_eq_true rfl) (sq_out (s := 6) rfl rfl (fun _ _ => rfl)) (fun us w hl h => ld_num hl h)
  · exact q_call3 (F := (Fq.num a).P) (G := (Fq.num n).P) (F3 := (Fq.num m).P) hp (free_of rfl) (gq_some rfl rfl (by simp) rfl (fun v w h => h)) (enq_V_pow) (sqi 7) (sqi 8) (sqi 9) (fun v v' u w h h' g => HVP.out _ _ _ _ h h' g)
  · exact q_loadInt (off := 0) hp (free_of rfl) (gq_some rfl rfl (by simp) rfl (fun v w h => h)) (List.mem_iff_getElem?.2 ⟨0, rfl⟩) (.inl rfl) (Nat.le_of_ble_eq_true rfl) (sq_out (s := 13) rfl rfl (fun _ _ => rfl)) (fun us w hl h => ld_num hl h)
  · exact q_move hp (free_of rfl) (gq_some rfl rfl (by simp) rfl (fun v w h => h)) (sq_out (s := 14) rfl rfl (fun _ _ => rfl))
  · exact q_call3 (F := (Fq.got z3 e3).P) (G := (Fq.num z3).P) (F3 := (Fq.is (.int .i64 e3)).P) hp (free_of rfl) (gq_some rfl rfl (by simp) rfl (fun v w h => h)) (enq_V_sameGot) (sqi 10) (sqi 11) (sqi 12) (fun v v' u w h h' g => (by subst g; exact exSameGot h h'))
  · exact q_two (F := fun v _ => v = .bool true) (G := fun v _ => v = .bool true) hp (free_of rfl) trivial (sqi 6) (sqi 13) (fun ρ w hc h h' => ⟨_, by simp [execOp, go_sem, h, h'], rfl⟩)
  · exact q_move hp (free_of rfl) trivial (sqi 14)
  · exact q_loadInt (off := 0) hp (free_of rfl) (gq_some rfl rfl (by simp) rfl (fun v w h => h)) (List.mem_iff_getElem?.2 ⟨4, rfl⟩) (.inl rfl) (Nat.le_of_ble_eq_true rfl) (sq_out (s := 4) rfl rfl (fun _ _ => rfl)) (fun us w hl h => ld_num hl h)
  · exact q_loadInt (off := 0) hp (free_of rfl) (gq_some rfl rfl (by simp) rfl (fun v w h => h)) (List.mem_iff_getElem?.2 ⟨6, rfl⟩) (.inl rfl) (Nat.le_of_ble_eq_true rfl) (sq_out (s := 6) rfl rfl (fun _ _ => rfl)) (fun us w hl h => ld_num hl h)
  · exact q_call2W (F := (Fq.num a).P) (G := (Fq.num m).P) hp (free_of rfl) (gq_some rfl rfl (by simp) rfl (fun v w h => h)) (enq_M_Kronecker) rfl (sqi 16) (sqi 17) (fun v v' w hbw h h' => exKronR h h' (hT.out.mono hbw) (Int.lt_of_lt_of_le Ba.out (pw_le (by omega))) (Int.lt_of_lt_of_le Bm.out (pw_le (by omega))) HQ1.out)
  · exact q_loadInt (off := 0) hp (free_of rfl) (gq_some rfl rfl (by simp) rfl (fun v w h => h)) (List.mem_iff_getElem?.2 ⟨4, rfl⟩) (.inl rfl) (Nat.le_of_ble_eq_true rfl) (sq_out (s := 4) rfl rfl (fun _ _ => rfl)) (fun us w hl h => ld_num hl h)
  · exact q_loadInt (off := 0) hp (free_of rfl) (gq_some rfl rfl (by simp) rfl (fun v w h => h)) (List.mem_iff_getElem?.2 ⟨6, rfl⟩) (.inl rfl) (Nat.le_of_ble_eq_true rfl) (sq_out (s := 6) rfl rfl (fun _ _ => rfl)) (fun us w hl h => ld_num hl h)
  · exact q_call2 (F := (Fq.num a).P) (G := (Fq.num m).P) hp (free_of rfl) (gq_some rfl rfl (by simp) rfl (fun v w h => h)) (enq_U_Kronecker) (sqi 19) (sqi 20) (fun v v' w h h' => (by rw [← HQ1.out]; exact exUKron h h' (Int.lt_of_lt_of_le Ba.out (pw_le (by omega))) (Int.lt_of_lt_of_le Bm.out (pw_le (by omega)))))
  · exact q_two (F := fun v _ => v = .int .i64 q1) (G := fun v _ => v = .int .i64 q1) hp (free_of rfl) (gq_some rfl rfl (by simp) rfl (fun v w h => h)) (sqi 18) (sqi 21) (fun ρ w hc h h' => ⟨.bool true, by simp [execOp, go_sem, h, h'], rfl⟩)
  · exact q_two (F := fun v _ => v = .bool true) (G := fun v _ => v = .bool true) hp (free_of rfl) trivial (sqi 15) (sqi 22) (fun ρ w hc h h' => ⟨_, by simp [execOp, go_sem, h, h'], rfl⟩)
  · exact q_move hp (free_of rfl) trivial (sqi 23)
  · exact q_loadInt (off := 0) hp (free_of rfl) (gq_some rfl rfl (by simp) rfl (fun v w h => h)) (List.mem_iff_getElem?.2 ⟨6, rfl⟩) (.inl rfl) (Nat.le_of_ble_eq_true rfl) (sq_out (s := 6) rfl rfl (fun _ _ => rfl)) (fun us w hl h => ld_num hl h)
  · exact q_loadInt (off := 0) hp (free_of rfl) (gq_some rfl rfl (by simp) rfl (fun v w h => h)) (List.mem_iff_getElem?.2 ⟨4, rfl⟩) (.inl rfl) (Nat.le_of_ble_eq_true rfl) (sq_out (s := 4) rfl rfl (fun _ _ => rfl)) (fun us w hl h => ld_num hl h)
  · exact q_call2W (F := (Fq.num m).P) (G := (Fq.num a).P) hp (free_of rfl) (gq_some rfl rfl (by simp) rfl (fun v w h => h)) (enq_M_Kronecker) rfl (sqi 25) (sqi 26) (fun v v' w hbw h h' => exKronR h h' (hT.out.mono hbw) (Int.lt_of_lt_of_le Bm.out (pw_le (by omega))) (Int.lt_of_lt_of_le Ba.out (pw_le (by omega))) HQ2.out)
  · exact q_loadInt (off := 0) hp (free_of rfl) (gq_some rfl rfl (by simp) rfl (fun v w h => h)) (List.mem_iff_getElem?.2 ⟨6, rfl⟩) (.inl rfl) (Nat.le_of_ble_eq_true rfl) (sq_out (s := 6) rfl rfl (fun _ _ => rfl)) (fun us w hl h => ld_num hl h)
  · exact q_loadInt (off := 0) hp (free_of rfl) (gq_some rfl rfl (by simp) rfl (fun v w h => h)) (List.mem_iff_getElem?.2 ⟨4, rfl⟩) (.inl rfl) (Nat.le_of_ble_eq_true rfl) (sq_out (s := 4) rfl rfl (fun _ _ => rfl)) (fun us w hl h => ld_num hl h)
  · exact q_call2 (F := (Fq.num m).P) (G := (Fq.num a).P) hp (free_of rfl) (gq_some rfl rfl (by simp) rfl (fun v w h => h)) (enq_U_Kronecker) (sqi 28) (sqi 29) (fun v v' w h h' => (by rw [← HQ2.out]; exact exUKron h h' (Int.lt_of_lt_of_le Bm.out (pw_le (by omega))) (Int.lt_of_lt_of_le Ba.out (pw_le (by omega)))))
  · exact q_two (F := fun v _ => v = .int .i64 q2) (G := fun v _ => v = .int .i64 q2) hp (free_of rfl) (gq_some rfl rfl (by simp) rfl (fun v w h => h)) (sqi 27) (sqi 30) (fun ρ w hc h h' => ⟨.bool true, by simp [execOp, go_sem, h, h'], rfl⟩)
  · exact q_two (F := fun v _ => v = .bool true) (G := fun v _ => v = .bool true) hp (free_of rfl) trivial (sqi 24) (sqi 31) (fun ρ w hc h h' => ⟨_, by simp [execOp, go_sem, h, h'], rfl⟩)
  · exact q_move hp (free_of rfl) trivial (sqi 32)
  · exact q_move hp (free_of rfl) (gq_some rfl rfl (by simp) rfl (fun v w h => h)) (sq_out (s := 3) rfl rfl (fun _ _ => rfl))
  · exact q_two (F := fun v _ => v = .bool true) (G := fun v _ => v = .bool true) hp (free_of rfl) trivial (sqi 33) (sqi 34) (fun ρ w hc h h' => ⟨_, by simp [execOp, go_sem, h, h'], rfl⟩)
  · exact q_assign hp (free_of rfl) trivial (sqi 35)
  intro L vs w10 nb hL hC hn E10
  have e4 : vs 4 = .int .i64 e2 := hC 4 (by simp)
  have e5 : vs 5 = .bool true := hC 5 (by simp)
  have e6 : vs 6 = .bool true := hC 6 (by simp)
  have e12 : vs 12 = .int .i64 e3 := hC 12 (by simp)
  have e13 : vs 13 = .bool true := hC 13 (by simp)
  have e14 : vs 14 = .bool true := hC 14 (by simp)
  have e15 : vs 15 = .bool true := hC 15 (by simp)
  have e18 : vs 18 = .int .i64 q1 := hC 18 (by simp)
  have e21 : vs 21 = .int .i64 q1 := hC 21 (by simp)
  have e22 : vs 22 = .bool true := hC 22 (by simp)
  have e23 : vs 23 = .bool true := hC 23 (by simp)
  have e24 : vs 24 = .bool true := hC 24 (by simp)
  have e27 : vs 27 = .int .i64 q2 := hC 27 (by simp)
  have e30 : vs 30 = .int .i64 q2 := hC 30 (by simp)
  have e31 : vs 31 = .bool true := hC 31 (by simp)
  have e32 : vs 32 = .bool true := hC 32 (by simp)
  have e33 : vs 33 = .bool true := hC 33 (by simp)
  have e34 : vs 34 = .bool true := hC 34 (by simp)
  have e35 : vs 35 = .bool true := hC 35 (by simp)
  have e36 : vs 36 = .bool true := hC 36 (by simp)
  have E : Fr w [(b9_7, 2, Fq.num z3), (b8_6, 2, Fq.num z2), (b6_6, 2, Fq.num z1), (b5_6, 2, Fq.num z1), (b4_9, 2, Fq.num a), (b4_10, 2, Fq.num n), (b4_11, 2, Fq.num m), (b1, 6, Fq.three n1 a1 k1 c1 xs1 n2 a2 k2 c2 xs2 n3 a3 k3 c3 xs3)] w10 := E10
  rw [lay_all hL]
  simp only [putAll, dstOf, List.length_cons, List.length_nil, Nat.zero_add, Nat.reduceAdd, List.getElem?_toArray, List.getElem?_cons_zero, List.getElem?_cons_succ, Option.bind_some, Act.put, List.setIfInBounds_toArray, List.set_cons_succ, List.set_cons_zero]
  rw [e4, e5, e6, e12, e13, e14, e15, e18, e21, e22, e23, e24, e27, e30, e31, e32, e33, e34, e35, e36]
  generalize vs 0 = u10_0
  generalize vs 1 = u10_1
  generalize vs 2 = u10_2
  generalize vs 3 = u10_3
  generalize vs 7 = u10_7
  generalize vs 8 = u10_8
  generalize vs 9 = u10_9
  generalize vs 10 = u10_10
  generalize vs 11 = u10_11
  generalize vs 16 = u10_16
  generalize vs 17 = u10_17
  generalize vs 19 = u10_19
  generalize vs 20 = u10_20
  generalize vs 25 = u10_25
  generalize vs 26 = u10_26
  generalize vs 28 = u10_28
  generalize vs 29 = u10_29
  clear e4 e5 e6 e12 e13 e14 e15 e18 e21 e22 e23 e24 e27 e30 e31 e32 e33 e34 e35 e36 hC hn E10 hL vs L nb
  clear HMM HUM HVI HUI HVP HUP HQ1 HQ2
  clear Ba Bn Bm hT
  go_wp2
  refine bodyPost_ret (v := .bool true) ?_ rfl ⟨rfl, E.below⟩
  simp [results, Tryz.results3, go_sem]

end Go.Proofs.YtieobgadihcgeaaGreatDoor
