/- Ug, Me, Oq. -/
import Derived.Test.YtdhkhedhnolcjaaCa3
namespace Go.Proofs.Ytdhkhedhnolcjaa
open Go Go.RowKit

theorem enq_f_algorist_quadratic_Apply (args : Array Value) (w : World) : (callFunc 12 args).run Try.prog w = .ok (.enter 12 args) w := enter_of Try.func12 (by kernel_rfl) rfl args w
theorem enq_f_algorist_quadratic_Times (args : Array Value) (w : World) : (callFunc 14 args).run Try.prog w = .ok (.enter 14 args) w := enter_of Try.func14 (by kernel_rfl) rfl args w
theorem enq_f_algorist_quadratic_Value (args : Array Value) (w : World) : (callFunc 18 args).run Try.prog w = .ok (.enter 18 args) w := enter_of Try.func18 (by kernel_rfl) rfl args w
theorem enq_f_algorist_quadratic_Det (args : Array Value) (w : World) : (callFunc 19 args).run Try.prog w = .ok (.enter 19 args) w := enter_of Try.func19 (by kernel_rfl) rfl args w
theorem enq_f_algorist_quadratic_Disc (args : Array Value) (w : World) : (callFunc 20 args).run Try.prog w = .ok (.enter 20 args) w := enter_of Try.func20 (by kernel_rfl) rfl args w
theorem enq_f_algorist_quadratic_Reduce (args : Array Value) (w : World) : (callFunc 21 args).run Try.prog w = .ok (.enter 21 args) w := enter_of Try.func21 (by kernel_rfl) rfl args w
theorem enq_f_algorist_quadratic_Reduced (args : Array Value) (w : World) : (callFunc 24 args).run Try.prog w = .ok (.enter 24 args) w := enter_of Try.func24 (by kernel_rfl) rfl args w
theorem enq_f_algorist_quadratic_Check (args : Array Value) (w : World) : (callFunc 36 args).run Try.prog w = .ok (.enter 36 args) w := enter_of Try.func36 (by kernel_rfl) rfl args w
theorem enq_f_algorist_quadratic_Principal (args : Array Value) (w : World) : (callFunc 38 args).run Try.prog w = .ok (.enter 38 args) w := enter_of Try.func38 (by kernel_rfl) rfl args w
theorem enq_f_algorist_quadratic_Inverse (args : Array Value) (w : World) : (callFunc 41 args).run Try.prog w = .ok (.enter 41 args) w := enter_of Try.func41 (by kernel_rfl) rfl args w
theorem enq_f_algorist_quadratic_twice (args : Array Value) (w : World) : (callFunc 47 args).run Try.prog w = .ok (.enter 47 args) w := enter_of Try.func47 (by kernel_rfl) rfl args w
theorem enq_f_algorist_quadratic_rows (args : Array Value) (w : World) : (callFunc 49 args).run Try.prog w = .ok (.enter 49 args) w := enter_of Try.func49 (by kernel_rfl) rfl args w
theorem enq_f_algorist_quadratic_checkDefinite (args : Array Value) (w : World) : (callFunc 56 args).run Try.prog w = .ok (.enter 56 args) w := enter_of Try.func56 (by kernel_rfl) rfl args w
theorem enq_f_algorist_quadratic_isReduced (args : Array Value) (w : World) : (callFunc 58 args).run Try.prog w = .ok (.enter 58 args) w := enter_of Try.func58 (by kernel_rfl) rfl args w
theorem enq_f_algorist_quadratic_isSquare (args : Array Value) (w : World) : (callFunc 72 args).run Try.prog w = .ok (.enter 72 args) w := enter_of Try.func72 (by kernel_rfl) rfl args w
theorem exPValidV {w : World} {v : Value} {z : Int} (h : Num w v z) : Calls Try.prog 71 #[v] w fun e w' => ∃ v', e = .returned v' ∧ Below w.heap.size w w' ∧ v' = .bool true := by
 obtain ⟨n, ao, k, c, rfl⟩ := h.parts
 refine (exValid h).mono ?_
 rintro e w' ⟨rfl, hb⟩
 exact ⟨_, rfl, hb, rfl⟩
theorem exPSqrt {n : Int} (h0 : 0 ≤ n) (hn : ab n < pw 40) : ∃ s : Int, (∀ (w : World) (v : Value), Num w v n → Calls Try.prog 97 #[v] w fun e w' => ∃ v', e = .returned v' ∧ Below w.heap.size w w' ∧ (Fq.tup3 (Fq.num s) (Fq.num (n - s * s)) (Fq.is (.int .i64 0))).P v' w') ∧ sqB n = decide (n - s * s = 0) := by
 obtain ⟨s, s0, s1, s2⟩ := isq_ex n.toNat
 have e : ((n.toNat : Nat) : Int) = n := by omega
 rw [e] at s1 s2
 refine ⟨s, fun w v hv => (SqrtV hv (Int.lt_of_lt_of_le hn (pw_le (by omega)))).mono fun e w' hh => ?_, sqB_root s0 s1 s2⟩
 obtain ⟨hB, ⟨h1, _⟩ | ⟨_, v1, v2, r, rfl, hr1, hr2, hr⟩⟩ := hh
 ·omega
 ·obtain ⟨q0, q1, q2⟩ := root_sq hr
  obtain rfl : r = s := isq_uniq q0 q1 q2 s0 s1 s2
  have hbr : ab r < pw 40 := by
   have h4 := hn
   have h5 : r ≤ r * r := by
    rcases Int.lt_or_le 0 r with h | h
    ·have := Int.mul_le_mul_of_nonneg_left (show 1 ≤ r by omega) s0; omega
    ·have := Int.mul_nonneg s0 s0; omega
   unfold ab at *
   generalize pw 40 = k at *
   omega
  have hbr2 : ab (n - r * r) < pw 40 := by
   have h4 := hn
   have := Int.mul_nonneg s0 s0
   unfold ab at *
   generalize pw 40 = k at *
   omega
  exact ⟨_, rfl, hB, v1, v2, _, rfl, num_of hr1 hbr (by omega), num_of hr2 hbr2 (by omega), rfl⟩
theorem exPSqrtN {w : World} {v : Value} {n : Int} (h : Num w v n) (hn : ab n < pw 40) (h0 : n < 0) : Calls Try.prog 97 #[v] w fun e w' => ∃ v', e = .returned v' ∧ Below w.heap.size w w' ∧ (Fq.tup3 (Fq.num 0) (Fq.num 0) (Fq.is (.int .i64 1))).P v' w' := by
 refine (SqrtV h (Int.lt_of_lt_of_le hn (pw_le (by omega)))).mono fun e w' hh => ?_
 obtain ⟨hB, ⟨_, rfl⟩ | ⟨h1, _⟩⟩ := hh
 ·exact ⟨_, rfl, hB, _, _, _, rfl, Num.zero w', Num.zero w', rfl⟩
 ·omega
theorem first_ne {a b c : Int} (hd : b * b - 4 * (a * c) < 0) : a ≠ 0 := by
 rintro rfl
 have := sq_pos b
 rw [Int.zero_mul] at hd
 omega
theorem redE_dfB (a b c : Int) : dfB a b c = decide (redE a b c = 0) := by
 unfold dfB redE
 by_cases hd : b * b - 4 * (a * c) < 0
 ·rw [if_neg (fun x => by omega)]
  by_cases hz : a < 0
  ·rw [chkF_neg hd hz, decide_eq_false (by omega)]; rfl
  ·rw [chkF_def hd hz, decide_eq_true (by omega)]; rfl
 ·rw [chkF_ind hd, decide_eq_false (by omega)]
  symm
  refine decide_eq_false ?_
  by_cases hq : sqB (b * b - 4 * (a * c)) = true
  ·rw [if_pos hq, if_neg (fun x => absurd x.1 (by decide))]; decide
  ·rw [if_neg hq, if_pos ⟨rfl, by
    rcases Int.lt_or_le 0 (b * b - 4 * (a * c)) with h | h
    ·exact h
    ·exfalso
     have e : b * b - 4 * (a * c) = 0 := by omega
     rw [e] at hq
     exact hq (sqB_iff.2 ⟨0, rfl⟩)⟩]
   decide
set_option maxRecDepth 100000 in
set_option maxHeartbeats 4000000 in
theorem exPIsSq_neg {w : World} {v : Value} {n : Int} (h : Num w v n) (hn : ab n < pw 40) (hc : n < 0) {t : Bool} (ht : sqB n = t) :
  Calls Try.prog 72 #[v] w fun e w' => ∃ v', e = .returned v' ∧ Below w.heap.size w w' ∧ v' = .bool t := by
 replace hn := hidd hn
 have ht2 : t = false := ht.symm.trans (sqB_neg hc)
 subst ht2
 clear ht
 have HC := hidd hc
 clear hc
 obtain ⟨n0, ao0, k0, c0, rfl⟩ := h.parts
 obtain ⟨w1, b1, hw1, hb1, hs1, E⟩ := fr_start w (F := Fq.num n) (us := [.bool n0, .slice ao0 k0 c0]) 31 rfl (by simp) (tame_int _ _ _ _) h
 go_enter Try.func72, Try.ntmps72
 go_upto_region 1 with (fail)
 rw [← hw1]
 rw [← hb1]
 clear hw1 hb1 hs1
 refine region_fr (C := [Fq.num n, Fq.tup3 (Fq.num 0) (Fq.num 0) (Fq.is (.int .i64 1)), Fq.tup3 (Fq.num 0) (Fq.num 0) (Fq.is (.int .i64 1)), Fq.num 0, Fq.num 0, Fq.is (.int .i64 1), Fq.any, Fq.any, Fq.any, Fq.any, Fq.is (.int .i64 1)]) (ks := [none]) (new := [⟨6, 8, 2, Fq.num 0, Fq.num 0, none⟩, ⟨7, 9, 2, Fq.num 0, Fq.num 0, none⟩]) E rfl (by kernel_rfl) rfl rfl (fun hp => ⟨?_, ?_, ?_, ?_, ?_, ?_, ?_, ?_, ?_, ?_, ?_, trivial⟩) ?_
 ·exact q_loadInt (off := 0) hp (free_of rfl) trivial (mq 0 rfl) (.inl rfl) (Nat.le_of_ble_eq_true rfl) (sqo 1) (fun us w hl h => ld_num hl h)
 ·exact q_call1 (F := (Fq.num n).P) hp (free_of rfl) trivial (enq_Sqrt) (sqi 0) (fun v w h => exPSqrtN h hn.out HC.out)
 ·exact q_move hp (free_of rfl) trivial (sqi 1)
 ·exact q_extract3 hp (free_of rfl) trivial (sqi 2) (fun v1 v2 v3 w h1 h2 h3 => ⟨_, rfl, h1⟩)
 ·exact q_extract3 hp (free_of rfl) trivial (sqi 2) (fun v1 v2 v3 w h1 h2 h3 => ⟨_, rfl, h2⟩)
 ·exact q_extract3 hp (free_of rfl) trivial (sqi 2) (fun v1 v2 v3 w h1 h2 h3 => ⟨_, rfl, h3⟩)
 ·exact q_allocInt hp (mq 0 rfl) rfl rfl rfl rfl (Nat.ne_of_beq_eq_false rfl) (fun _ _ => trivial) (old_ne rfl) (newk_ne rfl) (fun w => Num.zero w)
 ·exact q_allocInt hp (mq 1 rfl) rfl rfl rfl rfl (Nat.ne_of_beq_eq_false rfl) (fun _ _ => trivial) (old_ne rfl) (newk_ne rfl) (fun w => Num.zero w)
 ·exact q_storeNewInt hp (mq 0 rfl) rfl rfl rfl (own_ptr rfl rfl (by simp) rfl) (sq_in 3 rfl rfl (by simp) rfl (fun v w h => intV_num h)) (fun _ _ => trivial) (old_ne rfl) (newi_ne rfl)
 ·exact q_storeNewInt hp (mq 1 rfl) rfl rfl rfl (own_ptr rfl rfl (by simp) rfl) (sq_in 4 rfl rfl (by simp) rfl (fun v w h => intV_num h)) (fun _ _ => trivial) (old_ne rfl) (newi_ne rfl)
 ·exact q_assign hp (free_of rfl) trivial (sqi 5)
 intro L vs w2 nb hL hC hn E2
 have e5 : vs 5 = .int .i64 1 := hC 5 (by simp)
 have e10 : vs 10 = .int .i64 1 := hC 10 (by simp)
 have e6 : vs 6 = .pointer (some ⟨nb 6, 0, none⟩) := hn _ (mq 0 rfl)
 have e7 : vs 7 = .pointer (some ⟨nb 7, 0, none⟩) := hn _ (mq 1 rfl)
 have E : Fr w [(nb 6, 2, Fq.num 0), (nb 7, 2, Fq.num 0), (b1, 2, Fq.num n)] w2 := E2
 rw [lay_all hL]
 simp only [putAll, dstOf, List.length_cons, List.length_nil, Nat.zero_add, Nat.reduceAdd, List.getElem?_toArray, List.getElem?_cons_zero, List.getElem?_cons_succ, Option.bind_some, Act.put, List.setIfInBounds_toArray, List.set_cons_succ, List.set_cons_zero]
 rw [e5, e10, e6, e7]
 generalize nb 6 = b2_6 at E ⊢
 generalize nb 7 = b2_7 at E ⊢
 generalize vs 0 = u2_0
 generalize vs 1 = u2_1
 generalize vs 2 = u2_2
 generalize vs 3 = u2_3
 generalize vs 4 = u2_4
 clear e5 e10 e6 e7 hC hn E2 hL vs L nb
 clear HC
 go_upto_region 2 with (fail)
 refine region_fr (C := [Fq.is (.int .i64 1), Fq.is (.bool false), Fq.is (.bool false), Fq.is (undef), Fq.is (undef), Fq.is (undef), Fq.is (.bool false), Fq.is (.bool false)]) (ks := [none, none, none]) (new := []) E rfl (by kernel_rfl) rfl rfl (fun hp => ⟨?_, ?_, ?_, ?_, ?_, ?_, ?_, ?_, trivial⟩) ?_
 ·exact q_move hp (free_of rfl) trivial (sqo 5)
 ·exact q_one (F := fun v _ => v = .int .i64 1) hp (free_of rfl) trivial (sqi 0) (fun ρ w hc h => ⟨.bool false, by simp [execOp, go_sem, h, hc], rfl⟩)
 ·exact q_move hp (free_of rfl) trivial (sqi 1)
 ·exact q_skip hp (free_of rfl) rfl gqi (fun _ => rfl)
 ·exact q_skip hp (free_of rfl) rfl gqi (fun _ => rfl)
 ·exact q_skip hp (free_of rfl) rfl gqi (fun _ => rfl)
 ·exact q_two (F := fun v _ => v = .bool false) (G := fun v _ => v = .bool false) hp (free_of rfl) trivial (sqi 2) (sq_const (fun _ => rfl)) (fun ρ w hc h h' => ⟨_, by simp [execOp, go_sem, h, h'], rfl⟩)
 ·exact q_assign hp (free_of rfl) trivial (sqi 6)
 intro L vs w3 nb hL hC hn E3
 have e0 : vs 0 = .int .i64 1 := hC 0 (by simp)
 have e1 : vs 1 = .bool false := hC 1 (by simp)
 have e2 : vs 2 = .bool false := hC 2 (by simp)
 have e3 : vs 3 = undef := hC 3 (by simp)
 have e4 : vs 4 = undef := hC 4 (by simp)
 have e5 : vs 5 = undef := hC 5 (by simp)
 have e6 : vs 6 = .bool false := hC 6 (by simp)
 have e7 : vs 7 = .bool false := hC 7 (by simp)
 have E : Fr w [(b2_6, 2, Fq.num 0), (b2_7, 2, Fq.num 0), (b1, 2, Fq.num n)] w3 := E3
 rw [lay_all hL]
 simp only [putAll, dstOf, List.length_cons, List.length_nil, Nat.zero_add, Nat.reduceAdd, List.getElem?_toArray, List.getElem?_cons_zero, List.getElem?_cons_succ, Option.bind_some, Act.put, List.setIfInBounds_toArray, List.set_cons_succ, List.set_cons_zero]
 rw [e0, e1, e2, e3, e4, e5, e6, e7]
 clear e0 e1 e2 e3 e4 e5 e6 e7 hC hn E3 hL vs L nb
 clear hn
 go_wp2
 refine bodyPost_ret (v := .bool false) ?_ rfl ⟨_, rfl, E.below, rfl⟩
 simp [results, Try.results72, go_sem]

set_option maxRecDepth 100000 in
set_option maxHeartbeats 4000000 in
theorem exPIsSq_pos {w : World} {v : Value} {n : Int} (h : Num w v n) (hn : ab n < pw 40) (hc : ¬ n < 0) {t : Bool} (ht : sqB n = t) :
  Calls Try.prog 72 #[v] w fun e w' => ∃ v', e = .returned v' ∧ Below w.heap.size w w' ∧ v' = .bool t := by
 replace hn := hidd hn
 obtain ⟨s, hS, hq⟩ := exPSqrt (by omega) hn.out
 have HS := hidd hS
 have ht3 : t = decide (n - s * s = 0) := ht.symm.trans hq
 clear hc hS hq ht
 have HT : Hid (t = decide (n - s * s = 0)) := ht3
 clear ht3
 obtain ⟨n0, ao0, k0, c0, rfl⟩ := h.parts
 obtain ⟨w1, b1, hw1, hb1, hs1, E⟩ := fr_start w (F := Fq.num n) (us := [.bool n0, .slice ao0 k0 c0]) 31 rfl (by simp) (tame_int _ _ _ _) h
 go_enter Try.func72, Try.ntmps72
 go_upto_region 1 with (fail)
 rw [← hw1]
 rw [← hb1]
 clear hw1 hb1 hs1
 refine region_fr (C := [Fq.num n, Fq.tup3 (Fq.num s) (Fq.num (n - s * s)) (Fq.is (.int .i64 0)), Fq.tup3 (Fq.num s) (Fq.num (n - s * s)) (Fq.is (.int .i64 0)), Fq.num s, Fq.num (n - s * s), Fq.is (.int .i64 0), Fq.any, Fq.any, Fq.any, Fq.any, Fq.is (.int .i64 0)]) (ks := [none]) (new := [⟨6, 8, 2, Fq.num 0, Fq.num s, none⟩, ⟨7, 9, 2, Fq.num 0, Fq.num (n - s * s), none⟩]) E rfl (by kernel_rfl) rfl rfl (fun hp => ⟨?_, ?_, ?_, ?_, ?_, ?_, ?_, ?_, ?_, ?_, ?_, trivial⟩) ?_
 ·exact q_loadInt (off := 0) hp (free_of rfl) trivial (mq 0 rfl) (.inl rfl) (Nat.le_of_ble_eq_true rfl) (sqo 1) (fun us w hl h => ld_num hl h)
 ·exact q_call1 (F := (Fq.num n).P) hp (free_of rfl) trivial (enq_Sqrt) (sqi 0) (fun v w h => HS.out _ _ h)
 ·exact q_move hp (free_of rfl) trivial (sqi 1)
 ·exact q_extract3 hp (free_of rfl) trivial (sqi 2) (fun v1 v2 v3 w h1 h2 h3 => ⟨_, rfl, h1⟩)
 ·exact q_extract3 hp (free_of rfl) trivial (sqi 2) (fun v1 v2 v3 w h1 h2 h3 => ⟨_, rfl, h2⟩)
 ·exact q_extract3 hp (free_of rfl) trivial (sqi 2) (fun v1 v2 v3 w h1 h2 h3 => ⟨_, rfl, h3⟩)
 ·exact q_allocInt hp (mq 0 rfl) rfl rfl rfl rfl (Nat.ne_of_beq_eq_false rfl) (fun _ _ => trivial) (old_ne rfl) (newk_ne rfl) (fun w => Num.zero w)
 ·exact q_allocInt hp (mq 1 rfl) rfl rfl rfl rfl (Nat.ne_of_beq_eq_false rfl) (fun _ _ => trivial) (old_ne rfl) (newk_ne rfl) (fun w => Num.zero w)
 ·exact q_storeNewInt hp (mq 0 rfl) rfl rfl rfl (own_ptr rfl rfl (by simp) rfl) (sq_in 3 rfl rfl (by simp) rfl (fun v w h => intV_num h)) (fun _ _ => trivial) (old_ne rfl) (newi_ne rfl)
 ·exact q_storeNewInt hp (mq 1 rfl) rfl rfl rfl (own_ptr rfl rfl (by simp) rfl) (sq_in 4 rfl rfl (by simp) rfl (fun v w h => intV_num h)) (fun _ _ => trivial) (old_ne rfl) (newi_ne rfl)
 ·exact q_assign hp (free_of rfl) trivial (sqi 5)
 intro L vs w2 nb hL hC hn E2
 have e5 : vs 5 = .int .i64 0 := hC 5 (by simp)
 have e10 : vs 10 = .int .i64 0 := hC 10 (by simp)
 have e6 : vs 6 = .pointer (some ⟨nb 6, 0, none⟩) := hn _ (mq 0 rfl)
 have e7 : vs 7 = .pointer (some ⟨nb 7, 0, none⟩) := hn _ (mq 1 rfl)
 have E : Fr w [(nb 6, 2, Fq.num s), (nb 7, 2, Fq.num (n - s * s)), (b1, 2, Fq.num n)] w2 := E2
 rw [lay_all hL]
 simp only [putAll, dstOf, List.length_cons, List.length_nil, Nat.zero_add, Nat.reduceAdd, List.getElem?_toArray, List.getElem?_cons_zero, List.getElem?_cons_succ, Option.bind_some, Act.put, List.setIfInBounds_toArray, List.set_cons_succ, List.set_cons_zero]
 rw [e5, e10, e6, e7]
 generalize nb 6 = b2_6 at E ⊢
 generalize nb 7 = b2_7 at E ⊢
 generalize vs 0 = u2_0
 generalize vs 1 = u2_1
 generalize vs 2 = u2_2
 generalize vs 3 = u2_3
 generalize vs 4 = u2_4
 clear e5 e10 e6 e7 hC hn E2 hL vs L nb
 go_upto_region 2 with (fail)
 by_cases hz : n - s * s = 0
 ·have T2 : Hid (cmpI (n - s * s) 0 = 0) := cmpIq0.2 hz
  have ht2 : t = true := HT.out.trans (decide_eq_true hz)
  subst ht2
  clear hz HT
  refine region_fr (C := [Fq.is (.int .i64 0), Fq.is (.bool true), Fq.is (.bool true), Fq.num (n - s * s), Fq.is (.int .i64 (cmpI (n - s * s) 0)), Fq.is (.bool true), Fq.is (.bool true), Fq.is (.bool true)]) (ks := [none, none, none]) (new := []) E rfl (by kernel_rfl) rfl rfl (fun hp => ⟨?_, ?_, ?_, ?_, ?_, ?_, ?_, ?_, trivial⟩) ?_
  ·exact q_move hp (free_of rfl) trivial (sqo 5)
  ·exact q_one (F := fun v _ => v = .int .i64 0) hp (free_of rfl) trivial (sqi 0) (fun ρ w hc h => ⟨.bool true, by simp [execOp, go_sem, h, hc], rfl⟩)
  ·exact q_move hp (free_of rfl) trivial (sqi 1)
  ·exact q_loadInt (off := 0) hp (free_of rfl) gqi (mq 1 rfl) (.inl rfl) (Nat.le_of_ble_eq_true rfl) (sqo 4) (fun us w hl h => ld_num hl h)
  ·exact q_call1 (F := (Fq.num (n - s * s)).P) hp (free_of rfl) gqi (enq_Sign) (sqi 3) (fun v w h => exSign h)
  ·exact q_one (F := fun v _ => v = .int .i64 (cmpI (n - s * s) 0)) hp (free_of rfl) gqi (sqi 4) (fun ρ w hc h => ⟨.bool true, by simp [execOp, go_sem, h, hc, T2.out], rfl⟩)
  ·exact q_two (F := fun v _ => v = .bool true) (G := fun v _ => v = .bool true) hp (free_of rfl) trivial (sqi 2) (sqi 5) (fun ρ w hc h h' => ⟨_, by simp [execOp, go_sem, h, h'], rfl⟩)
  ·exact q_assign hp (free_of rfl) trivial (sqi 6)
  intro L vs w3 nb hL hC hn E3
  have e0 : vs 0 = .int .i64 0 := hC 0 (by simp)
  have e1 : vs 1 = .bool true := hC 1 (by simp)
  have e2 : vs 2 = .bool true := hC 2 (by simp)
  have e4 : vs 4 = .int .i64 (cmpI (n - s * s) 0) := hC 4 (by simp)
  have e5 : vs 5 = .bool true := hC 5 (by simp)
  have e6 : vs 6 = .bool true := hC 6 (by simp)
  have e7 : vs 7 = .bool true := hC 7 (by simp)
  have E : Fr w [(b2_6, 2, Fq.num s), (b2_7, 2, Fq.num (n - s * s)), (b1, 2, Fq.num n)] w3 := E3
  rw [lay_all hL]
  simp only [putAll, dstOf, List.length_cons, List.length_nil, Nat.zero_add, Nat.reduceAdd, List.getElem?_toArray, List.getElem?_cons_zero, List.getElem?_cons_succ, Option.bind_some, Act.put, List.setIfInBounds_toArray, List.set_cons_succ, List.set_cons_zero]
  rw [e0, e1, e2, e4, e5, e6, e7]
  generalize vs 3 = u3_3
  clear e0 e1 e2 e4 e5 e6 e7 hC hn E3 hL vs L nb
  clear T2 HS
  clear hn
  go_wp2
  refine bodyPost_ret (v := .bool true) ?_ rfl ⟨_, rfl, E.below, rfl⟩
  simp [results, Try.results72, go_sem]
 ·have T2 : Hid (¬ cmpI (n - s * s) 0 = 0) := fun e => hz (cmpIq0.1 e)
  have ht2 : t = false := HT.out.trans (decide_eq_false hz)
  subst ht2
  clear hz HT
  refine region_fr (C := [Fq.is (.int .i64 0), Fq.is (.bool true), Fq.is (.bool true), Fq.num (n - s * s), Fq.is (.int .i64 (cmpI (n - s * s) 0)), Fq.is (.bool false), Fq.is (.bool false), Fq.is (.bool false)]) (ks := [none, none, none]) (new := []) E rfl (by kernel_rfl) rfl rfl (fun hp => ⟨?_, ?_, ?_, ?_, ?_, ?_, ?_, ?_, trivial⟩) ?_
  ·exact q_move hp (free_of rfl) trivial (sqo 5)
  ·exact q_one (F := fun v _ => v = .int .i64 0) hp (free_of rfl) trivial (sqi 0) (fun ρ w hc h => ⟨.bool true, by simp [execOp, go_sem, h, hc], rfl⟩)
  ·exact q_move hp (free_of rfl) trivial (sqi 1)
  ·exact q_loadInt (off := 0) hp (free_of rfl) gqi (mq 1 rfl) (.inl rfl) (Nat.le_of_ble_eq_true rfl) (sqo 4) (fun us w hl h => ld_num hl h)
  ·exact q_call1 (F := (Fq.num (n - s * s)).P) hp (free_of rfl) gqi (enq_Sign) (sqi 3) (fun v w h => exSign h)
  ·exact q_one (F := fun v _ => v = .int .i64 (cmpI (n - s * s) 0)) hp (free_of rfl) gqi (sqi 4) (fun ρ w hc h => ⟨.bool false, by simp [execOp, go_sem, h, hc, T2.out], rfl⟩)
  ·exact q_two (F := fun v _ => v = .bool true) (G := fun v _ => v = .bool false) hp (free_of rfl) trivial (sqi 2) (sqi 5) (fun ρ w hc h h' => ⟨_, by simp [execOp, go_sem, h, h'], rfl⟩)
  ·exact q_assign hp (free_of rfl) trivial (sqi 6)
  intro L vs w4 nb hL hC hn E4
  have e0 : vs 0 = .int .i64 0 := hC 0 (by simp)
  have e1 : vs 1 = .bool true := hC 1 (by simp)
  have e2 : vs 2 = .bool true := hC 2 (by simp)
  have e4 : vs 4 = .int .i64 (cmpI (n - s * s) 0) := hC 4 (by simp)
  have e5 : vs 5 = .bool false := hC 5 (by simp)
  have e6 : vs 6 = .bool false := hC 6 (by simp)
  have e7 : vs 7 = .bool false := hC 7 (by simp)
  have E : Fr w [(b2_6, 2, Fq.num s), (b2_7, 2, Fq.num (n - s * s)), (b1, 2, Fq.num n)] w4 := E4
  rw [lay_all hL]
  simp only [putAll, dstOf, List.length_cons, List.length_nil, Nat.zero_add, Nat.reduceAdd, List.getElem?_toArray, List.getElem?_cons_zero, List.getElem?_cons_succ, Option.bind_some, Act.put, List.setIfInBounds_toArray, List.set_cons_succ, List.set_cons_zero]
  rw [e0, e1, e2, e4, e5, e6, e7]
  generalize vs 3 = u4_3
  clear e0 e1 e2 e4 e5 e6 e7 hC hn E4 hL vs L nb
  clear T2 HS
  clear hn
  go_wp2
  refine bodyPost_ret (v := .bool false) ?_ rfl ⟨_, rfl, E.below, rfl⟩
  simp [results, Try.results72, go_sem]

theorem exPIsSq {w : World} {v : Value} {n : Int} (h : Num w v n) (hn : ab n < pw 40) {t : Bool} (ht : sqB n = t) :
  Calls Try.prog 72 #[v] w fun e w' => ∃ v', e = .returned v' ∧ Below w.heap.size w w' ∧ v' = .bool t := by
 by_cases hc : n < 0
 ·exact exPIsSq_neg h hn hc ht
 ·exact exPIsSq_pos h hn hc ht

set_option maxRecDepth 100000 in
set_option maxHeartbeats 4000000 in
theorem exPDisc0 {w : World} {v : Value} {a b c : Int} (h : (Fq.st [.n a, .n b, .n c]).P v w) (ha : ab a < pw 60) (hb : ab b < pw 60) (hc : ab c < pw 60) :
  Calls Try.prog 20 #[v] w fun e w' => ∃ v', e = .returned v' ∧ Below w.heap.size w w' ∧ Num w' v' (((b * b) - ((4) * (a * c)))) := by
 replace ha := hidd ha
 replace hb := hidd hb
 replace hc := hidd hc
 obtain ⟨_, rfl, hf0⟩ := h
 have hF0 := hf0
 obtain ⟨y0_p0, y0_q0, _, rfl, _y0_n0, y0_p1, y0_q1, _, rfl, _y0_n1, y0_p2, y0_q2, _, rfl, _y0_n2, rfl⟩ := hf0
 obtain ⟨w1, b1, hw1, hb1, hs1, E⟩ := fr_start w (F := Fq.st [.n a, .n b, .n c]) (us := [y0_p0, y0_q0, y0_p1, y0_q1, y0_p2, y0_q2]) 33 rfl (by simp) (hF0.tame) (show (Fq.st [.n a, .n b, .n c]).P _ w from ⟨_, rfl, hF0⟩)
 obtain ⟨w2, b2, hw2, hb2, hs2, E⟩ := fr_more E hs1 (F := Fq.num 0) (us := [.bool false, .slice none 0 0]) 31 rfl (by simp) (tame_int _ _ _ _) (Num.zero _)
 go_enter Try.func20, Try.ntmps20
 go_upto_region 1 with (fail)
 rw [← hw1]
 rw [← hw2]
 rw [← hb2]
 rw [← hb1]
 clear hw1 hw2 hb1 hb2 hs2 hs1
 have B3 : Hid (ab ((4)) < pw 3) := ab_lit (by decide)
 refine region_fr (C := [Fq.num (4), Fq.any, Fq.any]) (ks := [none, none]) (new := [⟨1, 2, 2, Fq.num 0, Fq.num (4), none⟩]) E rfl (by kernel_rfl) rfl rfl (fun hp => ⟨?_, ?_, ?_, trivial⟩) ?_
 ·exact q_call1 (F := (Fq.is (.int .i64 4)).P) hp (free_of rfl) trivial (enq_Of) (sq_const (fun _ => rfl)) (fun v w h => (by subst h; exact OfK w (4) (by omega) (by omega)))
 ·exact q_allocInt hp (mq 0 rfl) rfl rfl rfl rfl (Nat.ne_of_beq_eq_false rfl) (fun _ _ => trivial) (old_ne rfl) (newk_ne rfl) (fun w => Num.zero w)
 ·exact q_storeNewInt hp (mq 0 rfl) rfl rfl rfl (own_ptr rfl rfl (by simp) rfl) (sq_in 0 rfl rfl (by simp) rfl (fun v w h => intV_num h)) (fun _ _ => trivial) (old_ne rfl) (newi_ne rfl)
 intro L vs w4 nb hL hC hn E4
 have e1 : vs 1 = .pointer (some ⟨nb 1, 0, none⟩) := hn _ (mq 0 rfl)
 have E : Fr w [(nb 1, 2, Fq.num (4)), (b2, 2, Fq.num 0), (b1, 6, Fq.st [.n a, .n b, .n c])] w4 := E4
 rw [lay_all hL]
 simp only [putAll, dstOf, List.length_cons, List.length_nil, Nat.zero_add, Nat.reduceAdd, List.getElem?_toArray, List.getElem?_cons_zero, List.getElem?_cons_succ, Option.bind_some, Act.put, List.setIfInBounds_toArray, List.set_cons_succ, List.set_cons_zero]
 rw [e1]
 generalize nb 1 = b4_1 at E ⊢
 generalize vs 0 = u4_0
 clear e1 hC hn E4 hL vs L nb
 go_upto_region 2 with (fail)
 have B5 : Hid (ab ((b * b)) < pw 120) := ab_mulM hb.out hb.out (by omega)
 have B6 : Hid (ab ((a * c)) < pw 120) := ab_mulM ha.out hc.out (by omega)
 have B7 : Hid (ab (((4) * (a * c))) < pw 123) := ab_mulM B3.out B6.out (by omega)
 have B8 : Hid (ab (((b * b) - ((4) * (a * c)))) < pw 124) := ab_subB B5.out B7.out (by omega) (by omega)
 refine region_fr (C := [Fq.is (.pointer (some ⟨b1, 2, none⟩)), Fq.num b, Fq.is (.pointer (some ⟨b1, 2, none⟩)), Fq.num b, Fq.num (b * b), Fq.num (4), Fq.is (.pointer (some ⟨b1, 0, none⟩)), Fq.num a, Fq.is (.pointer (some ⟨b1, 4, none⟩)), Fq.num c, Fq.num (a * c), Fq.num ((4) * (a * c)), Fq.num ((b * b) - ((4) * (a * c))), Fq.any]) (ks := [none, some (13, Fq.num ((b * b) - ((4) * (a * c)))), none]) (new := []) E rfl (by kernel_rfl) rfl rfl (fun hp => ⟨?_, ?_, ?_, ?_, ?_, ?_, ?_, ?_, ?_, ?_, ?_, ?_, ?_, ?_, trivial⟩) ?_
 ·exact q_addr (b := b1) (off := 0) (off' := 2) hp (free_of rfl) trivial (sqo 1) (fun ρ w h => by simp [execOp, go_sem, h]) (fun _ => rfl)
 ·exact q_loadSt (off := 2) (l := 2) (fs := [.n a, .n b, .n c]) (gs := [.n b]) hp (free_of rfl) trivial (mq 2 rfl) (.inl rfl) rfl row_api_Int rfl (sqi 0) (fun v w h => st_num h)
 ·exact q_addr (b := b1) (off := 0) (off' := 2) hp (free_of rfl) trivial (sqo 1) (fun ρ w h => by simp [execOp, go_sem, h]) (fun _ => rfl)
 ·exact q_loadSt (off := 2) (l := 2) (fs := [.n a, .n b, .n c]) (gs := [.n b]) hp (free_of rfl) trivial (mq 2 rfl) (.inl rfl) rfl row_api_Int rfl (sqi 2) (fun v w h => st_num h)
 ·exact q_call2 (F := (Fq.num b).P) (G := (Fq.num b).P) hp (free_of rfl) trivial (enq_Mul) (sqi 1) (sqi 3) (fun v v' w h h' => exK (MulV h h') B5.out (by omega))
 ·exact q_loadInt (off := 0) hp (free_of rfl) trivial (mq 0 rfl) (.inl rfl) (Nat.le_of_ble_eq_true rfl) (sqo 3) (fun us w hl h => ld_num hl h)
 ·exact q_addr (b := b1) (off := 0) (off' := 0) hp (free_of rfl) trivial (sqo 1) (fun ρ w h => by simp [execOp, go_sem, h]) (fun _ => rfl)
 ·exact q_loadSt (off := 0) (l := 2) (fs := [.n a, .n b, .n c]) (gs := [.n a]) hp (free_of rfl) trivial (mq 2 rfl) (.inl rfl) rfl row_api_Int rfl (sqi 6) (fun v w h => st_num h)
 ·exact q_addr (b := b1) (off := 0) (off' := 4) hp (free_of rfl) trivial (sqo 1) (fun ρ w h => by simp [execOp, go_sem, h]) (fun _ => rfl)
 ·exact q_loadSt (off := 4) (l := 2) (fs := [.n a, .n b, .n c]) (gs := [.n c]) hp (free_of rfl) trivial (mq 2 rfl) (.inl rfl) rfl row_api_Int rfl (sqi 8) (fun v w h => st_num h)
 ·exact q_call2 (F := (Fq.num a).P) (G := (Fq.num c).P) hp (free_of rfl) trivial (enq_Mul) (sqi 7) (sqi 9) (fun v v' w h h' => exK (MulV h h') B6.out (by omega))
 ·exact q_call2 (F := (Fq.num (4)).P) (G := (Fq.num (a * c)).P) hp (free_of rfl) trivial (enq_Mul) (sqi 5) (sqi 10) (fun v v' w h h' => exK (MulV h h') B7.out (by omega))
 ·exact q_call2 (F := (Fq.num (b * b)).P) (G := (Fq.num ((4) * (a * c))).P) hp (free_of rfl) trivial (enq_Sub) (sqi 4) (sqi 11) (fun v v' w h h' => exK (SubV h h') B8.out (by omega))
 ·exact q_storeOldInt hp (mq 1 rfl) rfl rfl (sqo 2) (sq_in 12 rfl rfl (by simp) rfl (fun v w h => intV_num h)) (fun _ _ => trivial) (newik_ne rfl)
 intro L vs w9 nb hL hC hn E9
 have e0 : vs 0 = .pointer (some ⟨b1, 2, none⟩) := hC 0 (by simp)
 have e2 : vs 2 = .pointer (some ⟨b1, 2, none⟩) := hC 2 (by simp)
 have e6 : vs 6 = .pointer (some ⟨b1, 0, none⟩) := hC 6 (by simp)
 have e8 : vs 8 = .pointer (some ⟨b1, 4, none⟩) := hC 8 (by simp)
 have E : Fr w [(b4_1, 2, Fq.num (4)), (b2, 2, Fq.num ((b * b) - ((4) * (a * c)))), (b1, 6, Fq.st [.n a, .n b, .n c])] w9 := E9
 rw [lay_all hL]
 simp only [putAll, dstOf, List.length_cons, List.length_nil, Nat.zero_add, Nat.reduceAdd, List.getElem?_toArray, List.getElem?_cons_zero, List.getElem?_cons_succ, Option.bind_some, Act.put, List.setIfInBounds_toArray, List.set_cons_succ, List.set_cons_zero]
 rw [e0, e2, e6, e8]
 generalize vs 1 = u9_1
 generalize vs 3 = u9_3
 generalize vs 4 = u9_4
 generalize vs 5 = u9_5
 generalize vs 7 = u9_7
 generalize vs 9 = u9_9
 generalize vs 10 = u9_10
 generalize vs 11 = u9_11
 generalize vs 12 = u9_12
 clear e0 e2 e6 e8 hC hn E9 hL vs L nb
 obtain ⟨p0_0, p0_1, c0_0, c0_1, hP0⟩ := box_num (E.box 1 rfl)
 clear B3 B5 B6 B7 B8 ha hb hc
 go_wp2
 refine bodyPost_ret (v := .agg #[p0_0, p0_1]) ?_ rfl ⟨_, rfl, E.below, hP0⟩
 simp [results, Try.results20, go_sem, c0_0, c0_1]

theorem exPDisc {w : World} {v : Value} {a b c : Int} (h : (Fq.st [.n a, .n b, .n c]).P v w) (ha : ab a < pw 60) (hb : ab b < pw 60) (hc : ab c < pw 60) :
  Calls Try.prog 20 #[v] w fun e w' => ∃ v', e = .returned v' ∧ Below w.heap.size w w' ∧ Num w' v' (b * b - 4 * (a * c)) := exPDisc0 h ha hb hc

set_option maxRecDepth 100000 in
set_option maxHeartbeats 4000000 in
theorem exPCheck_sq {w : World} {v : Value} {a b c : Int} (h : (Fq.st [.n a, .n b, .n c]).P v w) (ha : ab a < pw 15) (hb : ab b < pw 15) (hc : ab c < pw 15) (hq : sqB (b * b - 4 * (a * c)) = true) :
  Calls Try.prog 36 #[v] w fun e w' => ∃ v', e = .returned v' ∧ Below w.heap.size w w' ∧ v' = .int .i64 5 := by
 replace ha := hidd ha
 replace hb := hidd hb
 replace hc := hidd hc
 have HQ := hidd hq
 clear hq
 have HDB := hidd (disc_ab ha.out hb.out hc.out)
 obtain ⟨_, rfl, hf0⟩ := h
 have hF0 := hf0
 obtain ⟨y0_p0, y0_q0, _, rfl, _y0_n0, y0_p1, y0_q1, _, rfl, _y0_n1, y0_p2, y0_q2, _, rfl, _y0_n2, rfl⟩ := hf0
 obtain ⟨w1, b1, hw1, hb1, hs1, E⟩ := fr_start w (F := Fq.st [.n a, .n b, .n c]) (us := [y0_p0, y0_q0, y0_p1, y0_q1, y0_p2, y0_q2]) 33 rfl (by simp) (hF0.tame) (show (Fq.st [.n a, .n b, .n c]).P _ w from ⟨_, rfl, hF0⟩)
 go_enter Try.func36, Try.ntmps36
 go_upto_region 1 with (fail)
 rw [← hw1]
 rw [← hb1]
 clear hw1 hb1 hs1
 refine region_fr (C := [Fq.is (.pointer (some ⟨b1, 0, none⟩)), Fq.num a, Fq.is (.bool true), Fq.is (.bool false), Fq.is (.bool false), Fq.is (.pointer (some ⟨b1, 2, none⟩)), Fq.num b, Fq.is (.bool true), Fq.is (.bool false), Fq.is (.bool false), Fq.is (.bool false), Fq.is (.pointer (some ⟨b1, 4, none⟩)), Fq.num c, Fq.is (.bool true), Fq.is (.bool false), Fq.is (.bool false)]) (ks := [none]) (new := []) E rfl (by kernel_rfl) rfl rfl (fun hp => ⟨?_, ?_, ?_, ?_, ?_, ?_, ?_, ?_, ?_, ?_, ?_, ?_, ?_, ?_, ?_, ?_, trivial⟩) ?_
 ·exact q_addr (b := b1) (off := 0) (off' := 0) hp (free_of rfl) trivial (sqo 1) (fun ρ w h => by simp [execOp, go_sem, h]) (fun _ => rfl)
 ·exact q_loadSt (off := 0) (l := 2) (fs := [.n a, .n b, .n c]) (gs := [.n a]) hp (free_of rfl) trivial (mq 0 rfl) (.inl rfl) rfl row_api_Int rfl (sqi 0) (fun v w h => st_num h)
 ·exact q_call1 (F := (Fq.num a).P) hp (free_of rfl) trivial (enq_Valid) (sqi 1) (fun v w h => exPValidV h)
 ·exact q_one (F := fun v _ => v = .bool true) hp (free_of rfl) trivial (sqi 2) (fun ρ w _ h => ⟨.bool false, by simp [execOp, go_sem, h], rfl⟩)
 ·exact q_move hp (free_of rfl) trivial (sqi 3)
 ·exact q_addr (b := b1) (off := 0) (off' := 2) hp (free_of rfl) gqi (sqo 1) (fun ρ w h => by simp [execOp, go_sem, h]) (fun _ => rfl)
 ·exact q_loadSt (off := 2) (l := 2) (fs := [.n a, .n b, .n c]) (gs := [.n b]) hp (free_of rfl) gqi (mq 0 rfl) (.inl rfl) rfl row_api_Int rfl (sqi 5) (fun v w h => st_num h)
 ·exact q_call1 (F := (Fq.num b).P) hp (free_of rfl) gqi (enq_Valid) (sqi 6) (fun v w h => exPValidV h)
 ·exact q_one (F := fun v _ => v = .bool true) hp (free_of rfl) gqi (sqi 7) (fun ρ w _ h => ⟨.bool false, by simp [execOp, go_sem, h], rfl⟩)
 ·exact q_two (F := fun v _ => v = .bool false) (G := fun v _ => v = .bool false) hp (free_of rfl) trivial (sqi 4) (sqi 8) (fun ρ w hc h h' => ⟨_, by simp [execOp, go_sem, h, h'], rfl⟩)
 ·exact q_move hp (free_of rfl) trivial (sqi 9)
 ·exact q_addr (b := b1) (off := 0) (off' := 4) hp (free_of rfl) gqi (sqo 1) (fun ρ w h => by simp [execOp, go_sem, h]) (fun _ => rfl)
 ·exact q_loadSt (off := 4) (l := 2) (fs := [.n a, .n b, .n c]) (gs := [.n c]) hp (free_of rfl) gqi (mq 0 rfl) (.inl rfl) rfl row_api_Int rfl (sqi 11) (fun v w h => st_num h)
 ·exact q_call1 (F := (Fq.num c).P) hp (free_of rfl) gqi (enq_Valid) (sqi 12) (fun v w h => exPValidV h)
 ·exact q_one (F := fun v _ => v = .bool true) hp (free_of rfl) gqi (sqi 13) (fun ρ w _ h => ⟨.bool false, by simp [execOp, go_sem, h], rfl⟩)
 ·exact q_two (F := fun v _ => v = .bool false) (G := fun v _ => v = .bool false) hp (free_of rfl) trivial (sqi 10) (sqi 14) (fun ρ w hc h h' => ⟨_, by simp [execOp, go_sem, h, h'], rfl⟩)
 intro L vs w2 nb hL hC hn E2
 have e0 : vs 0 = .pointer (some ⟨b1, 0, none⟩) := hC 0 (by simp)
 have e2 : vs 2 = .bool true := hC 2 (by simp)
 have e3 : vs 3 = .bool false := hC 3 (by simp)
 have e4 : vs 4 = .bool false := hC 4 (by simp)
 have e5 : vs 5 = .pointer (some ⟨b1, 2, none⟩) := hC 5 (by simp)
 have e7 : vs 7 = .bool true := hC 7 (by simp)
 have e8 : vs 8 = .bool false := hC 8 (by simp)
 have e9 : vs 9 = .bool false := hC 9 (by simp)
 have e10 : vs 10 = .bool false := hC 10 (by simp)
 have e11 : vs 11 = .pointer (some ⟨b1, 4, none⟩) := hC 11 (by simp)
 have e13 : vs 13 = .bool true := hC 13 (by simp)
 have e14 : vs 14 = .bool false := hC 14 (by simp)
 have e15 : vs 15 = .bool false := hC 15 (by simp)
 have E : Fr w [(b1, 6, Fq.st [.n a, .n b, .n c])] w2 := E2
 rw [lay_all hL]
 simp only [putAll, dstOf, List.length_cons, List.length_nil, Nat.zero_add, Nat.reduceAdd, List.getElem?_toArray, List.getElem?_cons_zero, List.getElem?_cons_succ, Option.bind_some, Act.put, List.setIfInBounds_toArray, List.set_cons_succ, List.set_cons_zero]
 rw [e0, e2, e3, e4, e5, e7, e8, e9, e10, e11, e13, e14, e15]
 generalize vs 1 = u2_1
 generalize vs 6 = u2_6
 generalize vs 12 = u2_12
 clear e0 e2 e3 e4 e5 e7 e8 e9 e10 e11 e13 e14 e15 hC hn E2 hL vs L nb
 go_upto_region 3 with (fail)
 refine region_fr (C := [Fq.st [.n a, .n b, .n c], Fq.num (b * b - 4 * (a * c)), Fq.any, Fq.any]) (ks := [none]) (new := [⟨2, 3, 2, Fq.num 0, Fq.num (b * b - 4 * (a * c)), none⟩]) E rfl (by kernel_rfl) rfl rfl (fun hp => ⟨?_, ?_, ?_, ?_, trivial⟩) ?_
 ·exact q_loadSt (off := 0) (l := 6) (fs := [.n a, .n b, .n c]) (gs := [.n a, .n b, .n c]) hp (free_of rfl) trivial (mq 0 rfl) (.inl rfl) rfl row_api_Form rfl (sqo 1) (fun v w h => h)
 ·exact q_call1 (F := (Fq.st [.n a, .n b, .n c]).P) hp (free_of rfl) trivial (enq_f_algorist_quadratic_Disc) (sqi 0) (fun v w h => exPDisc h (Int.lt_of_lt_of_le ha.out (pw_le (by omega))) (Int.lt_of_lt_of_le hb.out (pw_le (by omega))) (Int.lt_of_lt_of_le hc.out (pw_le (by omega))))
 ·exact q_allocInt hp (mq 0 rfl) rfl rfl rfl rfl (Nat.ne_of_beq_eq_false rfl) (fun _ _ => trivial) (old_ne rfl) (newk_ne rfl) (fun w => Num.zero w)
 ·exact q_storeNewInt hp (mq 0 rfl) rfl rfl rfl (own_ptr rfl rfl (by simp) rfl) (sq_in 1 rfl rfl (by simp) rfl (fun v w h => intV_num h)) (fun _ _ => trivial) (old_ne rfl) (newi_ne rfl)
 intro L vs w3 nb hL hC hn E3
 have e2 : vs 2 = .pointer (some ⟨nb 2, 0, none⟩) := hn _ (mq 0 rfl)
 have E : Fr w [(nb 2, 2, Fq.num (b * b - 4 * (a * c))), (b1, 6, Fq.st [.n a, .n b, .n c])] w3 := E3
 rw [lay_all hL]
 simp only [putAll, dstOf, List.length_cons, List.length_nil, Nat.zero_add, Nat.reduceAdd, List.getElem?_toArray, List.getElem?_cons_zero, List.getElem?_cons_succ, Option.bind_some, Act.put, List.setIfInBounds_toArray, List.set_cons_succ, List.set_cons_zero]
 rw [e2]
 generalize nb 2 = b3_2 at E ⊢
 generalize vs 0 = u3_0
 generalize vs 1 = u3_1
 clear e2 hC hn E3 hL vs L nb
 go_upto_region 4 with (fail)
 refine region_fr (C := [Fq.num (b * b - 4 * (a * c)), Fq.is (.bool true), Fq.is (.bool true)]) (ks := [none, none]) (new := []) E rfl (by kernel_rfl) rfl rfl (fun hp => ⟨?_, ?_, ?_, trivial⟩) ?_
 ·exact q_loadInt (off := 0) hp (free_of rfl) trivial (mq 0 rfl) (.inl rfl) (Nat.le_of_ble_eq_true rfl) (sqo 3) (fun us w hl h => ld_num hl h)
 ·exact q_call1 (F := (Fq.num (b * b - 4 * (a * c))).P) hp (free_of rfl) trivial (enq_f_algorist_quadratic_isSquare) (sqi 0) (fun v w h => exPIsSq h HDB.out HQ.out)
 ·exact q_assign hp (free_of rfl) trivial (sqi 1)
 intro L vs w4 nb hL hC hn E4
 have e1 : vs 1 = .bool true := hC 1 (by simp)
 have e2 : vs 2 = .bool true := hC 2 (by simp)
 have E : Fr w [(b3_2, 2, Fq.num (b * b - 4 * (a * c))), (b1, 6, Fq.st [.n a, .n b, .n c])] w4 := E4
 rw [lay_all hL]
 simp only [putAll, dstOf, List.length_cons, List.length_nil, Nat.zero_add, Nat.reduceAdd, List.getElem?_toArray, List.getElem?_cons_zero, List.getElem?_cons_succ, Option.bind_some, Act.put, List.setIfInBounds_toArray, List.set_cons_succ, List.set_cons_zero]
 rw [e1, e2]
 generalize vs 0 = u4_0
 clear e1 e2 hC hn E4 hL vs L nb
 go_upto_region 5 with (fail)
 refine region_fr (C := [Fq.is (.int .i64 5)]) (ks := [none, none]) (new := []) E rfl (by kernel_rfl) rfl rfl (fun hp => ⟨?_, trivial⟩) ?_
 ·exact q_assign hp (free_of rfl) trivial (sq_const (fun _ => rfl))
 intro L vs w5 nb hL hC hn E5
 have e0 : vs 0 = .int .i64 5 := hC 0 (by simp)
 have E : Fr w [(b3_2, 2, Fq.num (b * b - 4 * (a * c))), (b1, 6, Fq.st [.n a, .n b, .n c])] w5 := E5
 rw [lay_all hL]
 simp only [putAll, dstOf, List.length_cons, List.length_nil, Nat.zero_add, List.getElem?_toArray, List.getElem?_cons_zero, Option.bind_some, Act.put, List.setIfInBounds_toArray, List.set_cons_succ, List.set_cons_zero]
 rw [e0]
 clear e0 hC hn E5 hL vs L nb
 clear HQ
 clear ha hb hc HDB
 go_wp2
 refine bodyPost_ret (v := .int .i64 5) ?_ rfl ⟨_, rfl, E.below, rfl⟩
 simp [results, Try.results36, go_sem]

set_option maxRecDepth 100000 in
set_option maxHeartbeats 4000000 in
theorem exPCheck_neg {w : World} {v : Value} {a b c : Int} (h : (Fq.st [.n a, .n b, .n c]).P v w) (ha : ab a < pw 15) (hb : ab b < pw 15) (hc : ab c < pw 15) (hq : sqB (b * b - 4 * (a * c)) = false) (hd : (b * b - 4 * (a * c)) < 0) (hz : a < 0) :
  Calls Try.prog 36 #[v] w fun e w' => ∃ v', e = .returned v' ∧ Below w.heap.size w w' ∧ v' = .int .i64 1 := by
 replace ha := hidd ha
 replace hb := hidd hb
 replace hc := hidd hc
 have HQ := hidd hq
 clear hq
 have HDB := hidd (disc_ab ha.out hb.out hc.out)
 have T1 : Hid (cmpI (b * b - 4 * (a * c)) 0 < 0) := cmpIqlt.2 hd
 clear hd
 have T2 : Hid (cmpI a 0 ≤ 0) := by have := cmpIqlt.2 hz; show _ ≤ _; omega
 clear hz
 obtain ⟨_, rfl, hf0⟩ := h
 have hF0 := hf0
 obtain ⟨y0_p0, y0_q0, _, rfl, _y0_n0, y0_p1, y0_q1, _, rfl, _y0_n1, y0_p2, y0_q2, _, rfl, _y0_n2, rfl⟩ := hf0
 obtain ⟨w1, b1, hw1, hb1, hs1, E⟩ := fr_start w (F := Fq.st [.n a, .n b, .n c]) (us := [y0_p0, y0_q0, y0_p1, y0_q1, y0_p2, y0_q2]) 33 rfl (by simp) (hF0.tame) (show (Fq.st [.n a, .n b, .n c]).P _ w from ⟨_, rfl, hF0⟩)
 go_enter Try.func36, Try.ntmps36
 go_upto_region 1 with (fail)
 rw [← hw1]
 rw [← hb1]
 clear hw1 hb1 hs1
 refine region_fr (C := [Fq.is (.pointer (some ⟨b1, 0, none⟩)), Fq.num a, Fq.is (.bool true), Fq.is (.bool false), Fq.is (.bool false), Fq.is (.pointer (some ⟨b1, 2, none⟩)), Fq.num b, Fq.is (.bool true), Fq.is (.bool false), Fq.is (.bool false), Fq.is (.bool false), Fq.is (.pointer (some ⟨b1, 4, none⟩)), Fq.num c, Fq.is (.bool true), Fq.is (.bool false), Fq.is (.bool false)]) (ks := [none]) (new := []) E rfl (by kernel_rfl) rfl rfl (fun hp => ⟨?_, ?_, ?_, ?_, ?_, ?_, ?_, ?_, ?_, ?_, ?_, ?_, ?_, ?_, ?_, ?_, trivial⟩) ?_
 ·exact q_addr (b := b1) (off := 0) (off' := 0) hp (free_of rfl) trivial (sqo 1) (fun ρ w h => by simp [execOp, go_sem, h]) (fun _ => rfl)
 ·exact q_loadSt (off := 0) (l := 2) (fs := [.n a, .n b, .n c]) (gs := [.n a]) hp (free_of rfl) trivial (mq 0 rfl) (.inl rfl) rfl row_api_Int rfl (sqi 0) (fun v w h => st_num h)
 ·exact q_call1 (F := (Fq.num a).P) hp (free_of rfl) trivial (enq_Valid) (sqi 1) (fun v w h => exPValidV h)
 ·exact q_one (F := fun v _ => v = .bool true) hp (free_of rfl) trivial (sqi 2) (fun ρ w _ h => ⟨.bool false, by simp [execOp, go_sem, h], rfl⟩)
 ·exact q_move hp (free_of rfl) trivial (sqi 3)
 ·exact q_addr (b := b1) (off := 0) (off' := 2) hp (free_of rfl) gqi (sqo 1) (fun ρ w h => by simp [execOp, go_sem, h]) (fun _ => rfl)
 ·exact q_loadSt (off := 2) (l := 2) (fs := [.n a, .n b, .n c]) (gs := [.n b]) hp (free_of rfl) gqi (mq 0 rfl) (.inl rfl) rfl row_api_Int rfl (sqi 5) (fun v w h => st_num h)
 ·exact q_call1 (F := (Fq.num b).P) hp (free_of rfl) gqi (enq_Valid) (sqi 6) (fun v w h => exPValidV h)
 ·exact q_one (F := fun v _ => v = .bool true) hp (free_of rfl) gqi (sqi 7) (fun ρ w _ h => ⟨.bool false, by simp [execOp, go_sem, h], rfl⟩)
 ·exact q_two (F := fun v _ => v = .bool false) (G := fun v _ => v = .bool false) hp (free_of rfl) trivial (sqi 4) (sqi 8) (fun ρ w hc h h' => ⟨_, by simp [execOp, go_sem, h, h'], rfl⟩)
 ·exact q_move hp (free_of rfl) trivial (sqi 9)
 ·exact q_addr (b := b1) (off := 0) (off' := 4) hp (free_of rfl) gqi (sqo 1) (fun ρ w h => by simp [execOp, go_sem, h]) (fun _ => rfl)
 ·exact q_loadSt (off := 4) (l := 2) (fs := [.n a, .n b, .n c]) (gs := [.n c]) hp (free_of rfl) gqi (mq 0 rfl) (.inl rfl) rfl row_api_Int rfl (sqi 11) (fun v w h => st_num h)
 ·exact q_call1 (F := (Fq.num c).P) hp (free_of rfl) gqi (enq_Valid) (sqi 12) (fun v w h => exPValidV h)
 ·exact q_one (F := fun v _ => v = .bool true) hp (free_of rfl) gqi (sqi 13) (fun ρ w _ h => ⟨.bool false, by simp [execOp, go_sem, h], rfl⟩)
 ·exact q_two (F := fun v _ => v = .bool false) (G := fun v _ => v = .bool false) hp (free_of rfl) trivial (sqi 10) (sqi 14) (fun ρ w hc h h' => ⟨_, by simp [execOp, go_sem, h, h'], rfl⟩)
 intro L vs w2 nb hL hC hn E2
 have e0 : vs 0 = .pointer (some ⟨b1, 0, none⟩) := hC 0 (by simp)
 have e2 : vs 2 = .bool true := hC 2 (by simp)
 have e3 : vs 3 = .bool false := hC 3 (by simp)
 have e4 : vs 4 = .bool false := hC 4 (by simp)
 have e5 : vs 5 = .pointer (some ⟨b1, 2, none⟩) := hC 5 (by simp)
 have e7 : vs 7 = .bool true := hC 7 (by simp)
 have e8 : vs 8 = .bool false := hC 8 (by simp)
 have e9 : vs 9 = .bool false := hC 9 (by simp)
 have e10 : vs 10 = .bool false := hC 10 (by simp)
 have e11 : vs 11 = .pointer (some ⟨b1, 4, none⟩) := hC 11 (by simp)
 have e13 : vs 13 = .bool true := hC 13 (by simp)
 have e14 : vs 14 = .bool false := hC 14 (by simp)
 have e15 : vs 15 = .bool false := hC 15 (by simp)
 have E : Fr w [(b1, 6, Fq.st [.n a, .n b, .n c])] w2 := E2
 rw [lay_all hL]
 simp only [putAll, dstOf, List.length_cons, List.length_nil, Nat.zero_add, Nat.reduceAdd, List.getElem?_toArray, List.getElem?_cons_zero, List.getElem?_cons_succ, Option.bind_some, Act.put, List.setIfInBounds_toArray, List.set_cons_succ, List.set_cons_zero]
 rw [e0, e2, e3, e4, e5, e7, e8, e9, e10, e11, e13, e14, e15]
 generalize vs 1 = u2_1
 generalize vs 6 = u2_6
 generalize vs 12 = u2_12
 clear e0 e2 e3 e4 e5 e7 e8 e9 e10 e11 e13 e14 e15 hC hn E2 hL vs L nb
 go_upto_region 3 with (fail)
 refine region_fr (C := [Fq.st [.n a, .n b, .n c], Fq.num (b * b - 4 * (a * c)), Fq.any, Fq.any]) (ks := [none]) (new := [⟨2, 3, 2, Fq.num 0, Fq.num (b * b - 4 * (a * c)), none⟩]) E rfl (by kernel_rfl) rfl rfl (fun hp => ⟨?_, ?_, ?_, ?_, trivial⟩) ?_
 ·exact q_loadSt (off := 0) (l := 6) (fs := [.n a, .n b, .n c]) (gs := [.n a, .n b, .n c]) hp (free_of rfl) trivial (mq 0 rfl) (.inl rfl) rfl row_api_Form rfl (sqo 1) (fun v w h => h)
 ·exact q_call1 (F := (Fq.st [.n a, .n b, .n c]).P) hp (free_of rfl) trivial (enq_f_algorist_quadratic_Disc) (sqi 0) (fun v w h => exPDisc h (Int.lt_of_lt_of_le ha.out (pw_le (by omega))) (Int.lt_of_lt_of_le hb.out (pw_le (by omega))) (Int.lt_of_lt_of_le hc.out (pw_le (by omega))))
 ·exact q_allocInt hp (mq 0 rfl) rfl rfl rfl rfl (Nat.ne_of_beq_eq_false rfl) (fun _ _ => trivial) (old_ne rfl) (newk_ne rfl) (fun w => Num.zero w)
 ·exact q_storeNewInt hp (mq 0 rfl) rfl rfl rfl (own_ptr rfl rfl (by simp) rfl) (sq_in 1 rfl rfl (by simp) rfl (fun v w h => intV_num h)) (fun _ _ => trivial) (old_ne rfl) (newi_ne rfl)
 intro L vs w3 nb hL hC hn E3
 have e2 : vs 2 = .pointer (some ⟨nb 2, 0, none⟩) := hn _ (mq 0 rfl)
 have E : Fr w [(nb 2, 2, Fq.num (b * b - 4 * (a * c))), (b1, 6, Fq.st [.n a, .n b, .n c])] w3 := E3
 rw [lay_all hL]
 simp only [putAll, dstOf, List.length_cons, List.length_nil, Nat.zero_add, Nat.reduceAdd, List.getElem?_toArray, List.getElem?_cons_zero, List.getElem?_cons_succ, Option.bind_some, Act.put, List.setIfInBounds_toArray, List.set_cons_succ, List.set_cons_zero]
 rw [e2]
 generalize nb 2 = b3_2 at E ⊢
 generalize vs 0 = u3_0
 generalize vs 1 = u3_1
 clear e2 hC hn E3 hL vs L nb
 go_upto_region 4 with (fail)
 refine region_fr (C := [Fq.num (b * b - 4 * (a * c)), Fq.is (.bool false), Fq.is (.bool false)]) (ks := [none, none]) (new := []) E rfl (by kernel_rfl) rfl rfl (fun hp => ⟨?_, ?_, ?_, trivial⟩) ?_
 ·exact q_loadInt (off := 0) hp (free_of rfl) trivial (mq 0 rfl) (.inl rfl) (Nat.le_of_ble_eq_true rfl) (sqo 3) (fun us w hl h => ld_num hl h)
 ·exact q_call1 (F := (Fq.num (b * b - 4 * (a * c))).P) hp (free_of rfl) trivial (enq_f_algorist_quadratic_isSquare) (sqi 0) (fun v w h => exPIsSq h HDB.out HQ.out)
 ·exact q_assign hp (free_of rfl) trivial (sqi 1)
 intro L vs w4 nb hL hC hn E4
 have e1 : vs 1 = .bool false := hC 1 (by simp)
 have e2 : vs 2 = .bool false := hC 2 (by simp)
 have E : Fr w [(b3_2, 2, Fq.num (b * b - 4 * (a * c))), (b1, 6, Fq.st [.n a, .n b, .n c])] w4 := E4
 rw [lay_all hL]
 simp only [putAll, dstOf, List.length_cons, List.length_nil, Nat.zero_add, Nat.reduceAdd, List.getElem?_toArray, List.getElem?_cons_zero, List.getElem?_cons_succ, Option.bind_some, Act.put, List.setIfInBounds_toArray, List.set_cons_succ, List.set_cons_zero]
 rw [e1, e2]
 generalize vs 0 = u4_0
 clear e1 e2 hC hn E4 hL vs L nb
 go_upto_region 6 with (fail)
 refine region_fr (C := [Fq.num (b * b - 4 * (a * c)), Fq.is (.int .i64 (cmpI (b * b - 4 * (a * c)) 0)), Fq.is (.bool true), Fq.is (.bool true), Fq.is (.pointer (some ⟨b1, 0, none⟩)), Fq.num a, Fq.is (.int .i64 (cmpI a 0)), Fq.is (.bool true), Fq.is (.bool true), Fq.is (.bool true)]) (ks := [none, none]) (new := []) E rfl (by kernel_rfl) rfl rfl (fun hp => ⟨?_, ?_, ?_, ?_, ?_, ?_, ?_, ?_, ?_, ?_, trivial⟩) ?_
 ·exact q_loadInt (off := 0) hp (free_of rfl) trivial (mq 0 rfl) (.inl rfl) (Nat.le_of_ble_eq_true rfl) (sqo 3) (fun us w hl h => ld_num hl h)
 ·exact q_call1 (F := (Fq.num (b * b - 4 * (a * c))).P) hp (free_of rfl) trivial (enq_Sign) (sqi 0) (fun v w h => exSign h)
 ·exact q_one (F := fun v _ => v = .int .i64 (cmpI (b * b - 4 * (a * c)) 0)) hp (free_of rfl) trivial (sqi 1) (fun ρ w hc h => ⟨.bool true, by simp [execOp, go_sem, h, hc, T1.out], rfl⟩)
 ·exact q_move hp (free_of rfl) trivial (sqi 2)
 ·exact q_addr (b := b1) (off := 0) (off' := 0) hp (free_of rfl) gqi (sqo 1) (fun ρ w h => by simp [execOp, go_sem, h]) (fun _ => rfl)
 ·exact q_loadSt (off := 0) (l := 2) (fs := [.n a, .n b, .n c]) (gs := [.n a]) hp (free_of rfl) gqi (mq 1 rfl) (.inl rfl) rfl row_api_Int rfl (sqi 4) (fun v w h => st_num h)
 ·exact q_call1 (F := (Fq.num a).P) hp (free_of rfl) gqi (enq_Sign) (sqi 5) (fun v w h => exSign h)
 ·exact q_one (F := fun v _ => v = .int .i64 (cmpI a 0)) hp (free_of rfl) gqi (sqi 6) (fun ρ w hc h => ⟨.bool true, by simp [execOp, go_sem, h, hc, T2.out], rfl⟩)
 ·exact q_two (F := fun v _ => v = .bool true) (G := fun v _ => v = .bool true) hp (free_of rfl) trivial (sqi 3) (sqi 7) (fun ρ w hc h h' => ⟨_, by simp [execOp, go_sem, h, h'], rfl⟩)
 ·exact q_assign hp (free_of rfl) trivial (sqi 8)
 intro L vs w5 nb hL hC hn E5
 have e1 : vs 1 = .int .i64 (cmpI (b * b - 4 * (a * c)) 0) := hC 1 (by simp)
 have e2 : vs 2 = .bool true := hC 2 (by simp)
 have e3 : vs 3 = .bool true := hC 3 (by simp)
 have e4 : vs 4 = .pointer (some ⟨b1, 0, none⟩) := hC 4 (by simp)
 have e6 : vs 6 = .int .i64 (cmpI a 0) := hC 6 (by simp)
 have e7 : vs 7 = .bool true := hC 7 (by simp)
 have e8 : vs 8 = .bool true := hC 8 (by simp)
 have e9 : vs 9 = .bool true := hC 9 (by simp)
 have E : Fr w [(b3_2, 2, Fq.num (b * b - 4 * (a * c))), (b1, 6, Fq.st [.n a, .n b, .n c])] w5 := E5
 rw [lay_all hL]
 simp only [putAll, dstOf, List.length_cons, List.length_nil, Nat.zero_add, Nat.reduceAdd, List.getElem?_toArray, List.getElem?_cons_zero, List.getElem?_cons_succ, Option.bind_some, Act.put, List.setIfInBounds_toArray, List.set_cons_succ, List.set_cons_zero]
 rw [e1, e2, e3, e4, e6, e7, e8, e9]
 generalize vs 0 = u5_0
 generalize vs 5 = u5_5
 clear e1 e2 e3 e4 e6 e7 e8 e9 hC hn E5 hL vs L nb
 go_upto_region 7 with (fail)
 refine region_fr (C := [Fq.is (.int .i64 1)]) (ks := [none, none]) (new := []) E rfl (by kernel_rfl) rfl rfl (fun hp => ⟨?_, trivial⟩) ?_
 ·exact q_assign hp (free_of rfl) trivial (sq_const (fun _ => rfl))
 intro L vs w6 nb hL hC hn E6
 have e0 : vs 0 = .int .i64 1 := hC 0 (by simp)
 have E : Fr w [(b3_2, 2, Fq.num (b * b - 4 * (a * c))), (b1, 6, Fq.st [.n a, .n b, .n c])] w6 := E6
 rw [lay_all hL]
 simp only [putAll, dstOf, List.length_cons, List.length_nil, Nat.zero_add, List.getElem?_toArray, List.getElem?_cons_zero, Option.bind_some, Act.put, List.setIfInBounds_toArray, List.set_cons_succ, List.set_cons_zero]
 rw [e0]
 clear e0 hC hn E6 hL vs L nb
 clear HQ T1 T2
 clear ha hb hc HDB
 go_wp2
 refine bodyPost_ret (v := .int .i64 1) ?_ rfl ⟨_, rfl, E.below, rfl⟩
 simp [results, Try.results36, go_sem]

set_option maxRecDepth 100000 in
set_option maxHeartbeats 4000000 in
theorem exPCheck_def {w : World} {v : Value} {a b c : Int} (h : (Fq.st [.n a, .n b, .n c]).P v w) (ha : ab a < pw 15) (hb : ab b < pw 15) (hc : ab c < pw 15) (hq : sqB (b * b - 4 * (a * c)) = false) (hd : (b * b - 4 * (a * c)) < 0) (hz : 0 < a) :
  Calls Try.prog 36 #[v] w fun e w' => ∃ v', e = .returned v' ∧ Below w.heap.size w w' ∧ v' = .int .i64 0 := by
 replace ha := hidd ha
 replace hb := hidd hb
 replace hc := hidd hc
 have HQ := hidd hq
 clear hq
 have HDB := hidd (disc_ab ha.out hb.out hc.out)
 have T1 : Hid (cmpI (b * b - 4 * (a * c)) 0 < 0) := cmpIqlt.2 hd
 clear hd
 have T2 : Hid (¬ cmpI a 0 ≤ 0) := by have := cmpIqgt.2 hz; show ¬ _ ≤ _; omega
 clear hz
 obtain ⟨_, rfl, hf0⟩ := h
 have hF0 := hf0
 obtain ⟨y0_p0, y0_q0, _, rfl, _y0_n0, y0_p1, y0_q1, _, rfl, _y0_n1, y0_p2, y0_q2, _, rfl, _y0_n2, rfl⟩ := hf0
 obtain ⟨w1, b1, hw1, hb1, hs1, E⟩ := fr_start w (F := Fq.st [.n a, .n b, .n c]) (us := [y0_p0, y0_q0, y0_p1, y0_q1, y0_p2, y0_q2]) 33 rfl (by simp) (hF0.tame) (show (Fq.st [.n a, .n b, .n c]).P _ w from ⟨_, rfl, hF0⟩)
 go_enter Try.func36, Try.ntmps36
 go_upto_region 1 with (fail)
 rw [← hw1]
 rw [← hb1]
 clear hw1 hb1 hs1
 refine region_fr (C := [Fq.is (.pointer (some ⟨b1, 0, none⟩)), Fq.num a, Fq.is (.bool true), Fq.is (.bool false), Fq.is (.bool false), Fq.is (.pointer (some ⟨b1, 2, none⟩)), Fq.num b, Fq.is (.bool true), Fq.is (.bool false), Fq.is (.bool false), Fq.is (.bool false), Fq.is (.pointer (some ⟨b1, 4, none⟩)), Fq.num c, Fq.is (.bool true), Fq.is (.bool false), Fq.is (.bool false)]) (ks := [none]) (new := []) E rfl (by kernel_rfl) rfl rfl (fun hp => ⟨?_, ?_, ?_, ?_, ?_, ?_, ?_, ?_, ?_, ?_, ?_, ?_, ?_, ?_, ?_, ?_, trivial⟩) ?_
 ·exact q_addr (b := b1) (off := 0) (off' := 0) hp (free_of rfl) trivial (sqo 1) (fun ρ w h => by simp [execOp, go_sem, h]) (fun _ => rfl)
 ·exact q_loadSt (off := 0) (l := 2) (fs := [.n a, .n b, .n c]) (gs := [.n a]) hp (free_of rfl) trivial (mq 0 rfl) (.inl rfl) rfl row_api_Int rfl (sqi 0) (fun v w h => st_num h)
 ·exact q_call1 (F := (Fq.num a).P) hp (free_of rfl) trivial (enq_Valid) (sqi 1) (fun v w h => exPValidV h)
 ·exact q_one (F := fun v _ => v = .bool true) hp (free_of rfl) trivial (sqi 2) (fun ρ w _ h => ⟨.bool false, by simp [execOp, go_sem, h], rfl⟩)
 ·exact q_move hp (free_of rfl) trivial (sqi 3)
 ·exact q_addr (b := b1) (off := 0) (off' := 2) hp (free_of rfl) gqi (sqo 1) (fun ρ w h => by simp [execOp, go_sem, h]) (fun _ => rfl)
 ·exact q_loadSt (off := 2) (l := 2) (fs := [.n a, .n b, .n c]) (gs := [.n b]) hp (free_of rfl) gqi (mq 0 rfl) (.inl rfl) rfl row_api_Int rfl (sqi 5) (fun v w h => st_num h)
 ·exact q_call1 (F := (Fq.num b).P) hp (free_of rfl) gqi (enq_Valid) (sqi 6) (fun v w h => exPValidV h)
 ·exact q_one (F := fun v _ => v = .bool true) hp (free_of rfl) gqi (sqi 7) (fun ρ w _ h => ⟨.bool false, by simp [execOp, go_sem, h], rfl⟩)
 ·exact q_two (F := fun v _ => v = .bool false) (G := fun v _ => v = .bool false) hp (free_of rfl) trivial (sqi 4) (sqi 8) (fun ρ w hc h h' => ⟨_, by simp [execOp, go_sem, h, h'], rfl⟩)
 ·exact q_move hp (free_of rfl) trivial (sqi 9)
 ·exact q_addr (b := b1) (off := 0) (off' := 4) hp (free_of rfl) gqi (sqo 1) (fun ρ w h => by simp [execOp, go_sem, h]) (fun _ => rfl)
 ·exact q_loadSt (off := 4) (l := 2) (fs := [.n a, .n b, .n c]) (gs := [.n c]) hp (free_of rfl) gqi (mq 0 rfl) (.inl rfl) rfl row_api_Int rfl (sqi 11) (fun v w h => st_num h)
 ·exact q_call1 (F := (Fq.num c).P) hp (free_of rfl) gqi (enq_Valid) (sqi 12) (fun v w h => exPValidV h)
 ·exact q_one (F := fun v _ => v = .bool true) hp (free_of rfl) gqi (sqi 13) (fun ρ w _ h => ⟨.bool false, by simp [execOp, go_sem, h], rfl⟩)
 ·exact q_two (F := fun v _ => v = .bool false) (G := fun v _ => v = .bool false) hp (free_of rfl) trivial (sqi 10) (sqi 14) (fun ρ w hc h h' => ⟨_, by simp [execOp, go_sem, h, h'], rfl⟩)
 intro L vs w2 nb hL hC hn E2
 have e0 : vs 0 = .pointer (some ⟨b1, 0, none⟩) := hC 0 (by simp)
 have e2 : vs 2 = .bool true := hC 2 (by simp)
 have e3 : vs 3 = .bool false := hC 3 (by simp)
 have e4 : vs 4 = .bool false := hC 4 (by simp)
 have e5 : vs 5 = .pointer (some ⟨b1, 2, none⟩) := hC 5 (by simp)
 have e7 : vs 7 = .bool true := hC 7 (by simp)
 have e8 : vs 8 = .bool false := hC 8 (by simp)
 have e9 : vs 9 = .bool false := hC 9 (by simp)
 have e10 : vs 10 = .bool false := hC 10 (by simp)
 have e11 : vs 11 = .pointer (some ⟨b1, 4, none⟩) := hC 11 (by simp)
 have e13 : vs 13 = .bool true := hC 13 (by simp)
 have e14 : vs 14 = .bool false := hC 14 (by simp)
 have e15 : vs 15 = .bool false := hC 15 (by simp)
 have E : Fr w [(b1, 6, Fq.st [.n a, .n b, .n c])] w2 := E2
 rw [lay_all hL]
 simp only [putAll, dstOf, List.length_cons, List.length_nil, Nat.zero_add, Nat.reduceAdd, List.getElem?_toArray, List.getElem?_cons_zero, List.getElem?_cons_succ, Option.bind_some, Act.put, List.setIfInBounds_toArray, List.set_cons_succ, List.set_cons_zero]
 rw [e0, e2, e3, e4, e5, e7, e8, e9, e10, e11, e13, e14, e15]
 generalize vs 1 = u2_1
 generalize vs 6 = u2_6
 generalize vs 12 = u2_12
 clear e0 e2 e3 e4 e5 e7 e8 e9 e10 e11 e13 e14 e15 hC hn E2 hL vs L nb
 go_upto_region 3 with (fail)
 refine region_fr (C := [Fq.st [.n a, .n b, .n c], Fq.num (b * b - 4 * (a * c)), Fq.any, Fq.any]) (ks := [none]) (new := [⟨2, 3, 2, Fq.num 0, Fq.num (b * b - 4 * (a * c)), none⟩]) E rfl (by kernel_rfl) rfl rfl (fun hp => ⟨?_, ?_, ?_, ?_, trivial⟩) ?_
 ·exact q_loadSt (off := 0) (l := 6) (fs := [.n a, .n b, .n c]) (gs := [.n a, .n b, .n c]) hp (free_of rfl) trivial (mq 0 rfl) (.inl rfl) rfl row_api_Form rfl (sqo 1) (fun v w h => h)
 ·exact q_call1 (F := (Fq.st [.n a, .n b, .n c]).P) hp (free_of rfl) trivial (enq_f_algorist_quadratic_Disc) (sqi 0) (fun v w h => exPDisc h (Int.lt_of_lt_of_le ha.out (pw_le (by omega))) (Int.lt_of_lt_of_le hb.out (pw_le (by omega))) (Int.lt_of_lt_of_le hc.out (pw_le (by omega))))
 ·exact q_allocInt hp (mq 0 rfl) rfl rfl rfl rfl (Nat.ne_of_beq_eq_false rfl) (fun _ _ => trivial) (old_ne rfl) (newk_ne rfl) (fun w => Num.zero w)
 ·exact q_storeNewInt hp (mq 0 rfl) rfl rfl rfl (own_ptr rfl rfl (by simp) rfl) (sq_in 1 rfl rfl (by simp) rfl (fun v w h => intV_num h)) (fun _ _ => trivial) (old_ne rfl) (newi_ne rfl)
 intro L vs w3 nb hL hC hn E3
 have e2 : vs 2 = .pointer (some ⟨nb 2, 0, none⟩) := hn _ (mq 0 rfl)
 have E : Fr w [(nb 2, 2, Fq.num (b * b - 4 * (a * c))), (b1, 6, Fq.st [.n a, .n b, .n c])] w3 := E3
 rw [lay_all hL]
 simp only [putAll, dstOf, List.length_cons, List.length_nil, Nat.zero_add, Nat.reduceAdd, List.getElem?_toArray, List.getElem?_cons_zero, List.getElem?_cons_succ, Option.bind_some, Act.put, List.setIfInBounds_toArray, List.set_cons_succ, List.set_cons_zero]
 rw [e2]
 generalize nb 2 = b3_2 at E ⊢
 generalize vs 0 = u3_0
 generalize vs 1 = u3_1
 clear e2 hC hn E3 hL vs L nb
 go_upto_region 4 with (fail)
 refine region_fr (C := [Fq.num (b * b - 4 * (a * c)), Fq.is (.bool false), Fq.is (.bool false)]) (ks := [none, none]) (new := []) E rfl (by kernel_rfl) rfl rfl (fun hp => ⟨?_, ?_, ?_, trivial⟩) ?_
 ·exact q_loadInt (off := 0) hp (free_of rfl) trivial (mq 0 rfl) (.inl rfl) (Nat.le_of_ble_eq_true rfl) (sqo 3) (fun us w hl h => ld_num hl h)
 ·exact q_call1 (F := (Fq.num (b * b - 4 * (a * c))).P) hp (free_of rfl) trivial (enq_f_algorist_quadratic_isSquare) (sqi 0) (fun v w h => exPIsSq h HDB.out HQ.out)
 ·exact q_assign hp (free_of rfl) trivial (sqi 1)
 intro L vs w4 nb hL hC hn E4
 have e1 : vs 1 = .bool false := hC 1 (by simp)
 have e2 : vs 2 = .bool false := hC 2 (by simp)
 have E : Fr w [(b3_2, 2, Fq.num (b * b - 4 * (a * c))), (b1, 6, Fq.st [.n a, .n b, .n c])] w4 := E4
 rw [lay_all hL]
 simp only [putAll, dstOf, List.length_cons, List.length_nil, Nat.zero_add, Nat.reduceAdd, List.getElem?_toArray, List.getElem?_cons_zero, List.getElem?_cons_succ, Option.bind_some, Act.put, List.setIfInBounds_toArray, List.set_cons_succ, List.set_cons_zero]
 rw [e1, e2]
 generalize vs 0 = u4_0
 clear e1 e2 hC hn E4 hL vs L nb
 go_upto_region 6 with (fail)
 refine region_fr (C := [Fq.num (b * b - 4 * (a * c)), Fq.is (.int .i64 (cmpI (b * b - 4 * (a * c)) 0)), Fq.is (.bool true), Fq.is (.bool true), Fq.is (.pointer (some ⟨b1, 0, none⟩)), Fq.num a, Fq.is (.int .i64 (cmpI a 0)), Fq.is (.bool false), Fq.is (.bool false), Fq.is (.bool false)]) (ks := [none, none]) (new := []) E rfl (by kernel_rfl) rfl rfl (fun hp => ⟨?_, ?_, ?_, ?_, ?_, ?_, ?_, ?_, ?_, ?_, trivial⟩) ?_
 ·exact q_loadInt (off := 0) hp (free_of rfl) trivial (mq 0 rfl) (.inl rfl) (Nat.le_of_ble_eq_true rfl) (sqo 3) (fun us w hl h => ld_num hl h)
 ·exact q_call1 (F := (Fq.num (b * b - 4 * (a * c))).P) hp (free_of rfl) trivial (enq_Sign) (sqi 0) (fun v w h => exSign h)
 ·exact q_one (F := fun v _ => v = .int .i64 (cmpI (b * b - 4 * (a * c)) 0)) hp (free_of rfl) trivial (sqi 1) (fun ρ w hc h => ⟨.bool true, by simp [execOp, go_sem, h, hc, T1.out], rfl⟩)
 ·exact q_move hp (free_of rfl) trivial (sqi 2)
 ·exact q_addr (b := b1) (off := 0) (off' := 0) hp (free_of rfl) gqi (sqo 1) (fun ρ w h => by simp [execOp, go_sem, h]) (fun _ => rfl)
 ·exact q_loadSt (off := 0) (l := 2) (fs := [.n a, .n b, .n c]) (gs := [.n a]) hp (free_of rfl) gqi (mq 1 rfl) (.inl rfl) rfl row_api_Int rfl (sqi 4) (fun v w h => st_num h)
 ·exact q_call1 (F := (Fq.num a).P) hp (free_of rfl) gqi (enq_Sign) (sqi 5) (fun v w h => exSign h)
 ·exact q_one (F := fun v _ => v = .int .i64 (cmpI a 0)) hp (free_of rfl) gqi (sqi 6) (fun ρ w hc h => ⟨.bool false, by simp [execOp, go_sem, h, hc, T2.out], rfl⟩)
 ·exact q_two (F := fun v _ => v = .bool true) (G := fun v _ => v = .bool false) hp (free_of rfl) trivial (sqi 3) (sqi 7) (fun ρ w hc h h' => ⟨_, by simp [execOp, go_sem, h, h'], rfl⟩)
 ·exact q_assign hp (free_of rfl) trivial (sqi 8)
 intro L vs w5 nb hL hC hn E5
 have e1 : vs 1 = .int .i64 (cmpI (b * b - 4 * (a * c)) 0) := hC 1 (by simp)
 have e2 : vs 2 = .bool true := hC 2 (by simp)
 have e3 : vs 3 = .bool true := hC 3 (by simp)
 have e4 : vs 4 = .pointer (some ⟨b1, 0, none⟩) := hC 4 (by simp)
 have e6 : vs 6 = .int .i64 (cmpI a 0) := hC 6 (by simp)
 have e7 : vs 7 = .bool false := hC 7 (by simp)
 have e8 : vs 8 = .bool false := hC 8 (by simp)
 have e9 : vs 9 = .bool false := hC 9 (by simp)
 have E : Fr w [(b3_2, 2, Fq.num (b * b - 4 * (a * c))), (b1, 6, Fq.st [.n a, .n b, .n c])] w5 := E5
 rw [lay_all hL]
 simp only [putAll, dstOf, List.length_cons, List.length_nil, Nat.zero_add, Nat.reduceAdd, List.getElem?_toArray, List.getElem?_cons_zero, List.getElem?_cons_succ, Option.bind_some, Act.put, List.setIfInBounds_toArray, List.set_cons_succ, List.set_cons_zero]
 rw [e1, e2, e3, e4, e6, e7, e8, e9]
 generalize vs 0 = u5_0
 generalize vs 5 = u5_5
 clear e1 e2 e3 e4 e6 e7 e8 e9 hC hn E5 hL vs L nb
 go_upto_region 8 with (fail)
 refine region_fr (C := [Fq.is (.int .i64 0)]) (ks := [none, none]) (new := []) E rfl (by kernel_rfl) rfl rfl (fun hp => ⟨?_, trivial⟩) ?_
 ·exact q_assign hp (free_of rfl) trivial (sq_const (fun _ => rfl))
 intro L vs w6 nb hL hC hn E6
 have e0 : vs 0 = .int .i64 0 := hC 0 (by simp)
 have E : Fr w [(b3_2, 2, Fq.num (b * b - 4 * (a * c))), (b1, 6, Fq.st [.n a, .n b, .n c])] w6 := E6
 rw [lay_all hL]
 simp only [putAll, dstOf, List.length_cons, List.length_nil, Nat.zero_add, List.getElem?_toArray, List.getElem?_cons_zero, Option.bind_some, Act.put, List.setIfInBounds_toArray, List.set_cons_succ, List.set_cons_zero]
 rw [e0]
 clear e0 hC hn E6 hL vs L nb
 clear HQ T1 T2
 clear ha hb hc HDB
 go_wp2
 refine bodyPost_ret (v := .int .i64 0) ?_ rfl ⟨_, rfl, E.below, rfl⟩
 simp [results, Try.results36, go_sem]

set_option maxRecDepth 100000 in
set_option maxHeartbeats 4000000 in
theorem exPCheck_ind {w : World} {v : Value} {a b c : Int} (h : (Fq.st [.n a, .n b, .n c]).P v w) (ha : ab a < pw 15) (hb : ab b < pw 15) (hc : ab c < pw 15) (hq : sqB (b * b - 4 * (a * c)) = false) (hd : ¬ (b * b - 4 * (a * c)) < 0) :
  Calls Try.prog 36 #[v] w fun e w' => ∃ v', e = .returned v' ∧ Below w.heap.size w w' ∧ v' = .int .i64 0 := by
 replace ha := hidd ha
 replace hb := hidd hb
 replace hc := hidd hc
 have HQ := hidd hq
 clear hq
 have HDB := hidd (disc_ab ha.out hb.out hc.out)
 have T1 : Hid (¬ cmpI (b * b - 4 * (a * c)) 0 < 0) := fun e => hd (cmpIqlt.1 e)
 clear hd
 obtain ⟨_, rfl, hf0⟩ := h
 have hF0 := hf0
 obtain ⟨y0_p0, y0_q0, _, rfl, _y0_n0, y0_p1, y0_q1, _, rfl, _y0_n1, y0_p2, y0_q2, _, rfl, _y0_n2, rfl⟩ := hf0
 obtain ⟨w1, b1, hw1, hb1, hs1, E⟩ := fr_start w (F := Fq.st [.n a, .n b, .n c]) (us := [y0_p0, y0_q0, y0_p1, y0_q1, y0_p2, y0_q2]) 33 rfl (by simp) (hF0.tame) (show (Fq.st [.n a, .n b, .n c]).P _ w from ⟨_, rfl, hF0⟩)
 go_enter Try.func36, Try.ntmps36
 go_upto_region 1 with (fail)
 rw [← hw1]
 rw [← hb1]
 clear hw1 hb1 hs1
 refine region_fr (C := [Fq.is (.pointer (some ⟨b1, 0, none⟩)), Fq.num a, Fq.is (.bool true), Fq.is (.bool false), Fq.is (.bool false), Fq.is (.pointer (some ⟨b1, 2, none⟩)), Fq.num b, Fq.is (.bool true), Fq.is (.bool false), Fq.is (.bool false), Fq.is (.bool false), Fq.is (.pointer (some ⟨b1, 4, none⟩)), Fq.num c, Fq.is (.bool true), Fq.is (.bool false), Fq.is (.bool false)]) (ks := [none]) (new := []) E rfl (by kernel_rfl) rfl rfl (fun hp => ⟨?_, ?_, ?_, ?_, ?_, ?_, ?_, ?_, ?_, ?_, ?_, ?_, ?_, ?_, ?_, ?_, trivial⟩) ?_
 ·exact q_addr (b := b1) (off := 0) (off' := 0) hp (free_of rfl) trivial (sqo 1) (fun ρ w h => by simp [execOp, go_sem, h]) (fun _ => rfl)
 ·exact q_loadSt (off := 0) (l := 2) (fs := [.n a, .n b, .n c]) (gs := [.n a]) hp (free_of rfl) trivial (mq 0 rfl) (.inl rfl) rfl row_api_Int rfl (sqi 0) (fun v w h => st_num h)
 ·exact q_call1 (F := (Fq.num a).P) hp (free_of rfl) trivial (enq_Valid) (sqi 1) (fun v w h => exPValidV h)
 ·exact q_one (F := fun v _ => v = .bool true) hp (free_of rfl) trivial (sqi 2) (fun ρ w _ h => ⟨.bool false, by simp [execOp, go_sem, h], rfl⟩)
 ·exact q_move hp (free_of rfl) trivial (sqi 3)
 ·exact q_addr (b := b1) (off := 0) (off' := 2) hp (free_of rfl) gqi (sqo 1) (fun ρ w h => by simp [execOp, go_sem, h]) (fun _ => rfl)
 ·exact q_loadSt (off := 2) (l := 2) (fs := [.n a, .n b, .n c]) (gs := [.n b]) hp (free_of rfl) gqi (mq 0 rfl) (.inl rfl) rfl row_api_Int rfl (sqi 5) (fun v w h => st_num h)
 ·exact q_call1 (F := (Fq.num b).P) hp (free_of rfl) gqi (enq_Valid) (sqi 6) (fun v w h => exPValidV h)
 ·exact q_one (F := fun v _ => v = .bool true) hp (free_of rfl) gqi (sqi 7) (fun ρ w _ h => ⟨.bool false, by simp [execOp, go_sem, h], rfl⟩)
 ·exact q_two (F := fun v _ => v = .bool false) (G := fun v _ => v = .bool false) hp (free_of rfl) trivial (sqi 4) (sqi 8) (fun ρ w hc h h' => ⟨_, by simp [execOp, go_sem, h, h'], rfl⟩)
 ·exact q_move hp (free_of rfl) trivial (sqi 9)
 ·exact q_addr (b := b1) (off := 0) (off' := 4) hp (free_of rfl) gqi (sqo 1) (fun ρ w h => by simp [execOp, go_sem, h]) (fun _ => rfl)
 ·exact q_loadSt (off := 4) (l := 2) (fs := [.n a, .n b, .n c]) (gs := [.n c]) hp (free_of rfl) gqi (mq 0 rfl) (.inl rfl) rfl row_api_Int rfl (sqi 11) (fun v w h => st_num h)
 ·exact q_call1 (F := (Fq.num c).P) hp (free_of rfl) gqi (enq_Valid) (sqi 12) (fun v w h => exPValidV h)
 ·exact q_one (F := fun v _ => v = .bool true) hp (free_of rfl) gqi (sqi 13) (fun ρ w _ h => ⟨.bool false, by simp [execOp, go_sem, h], rfl⟩)
 ·exact q_two (F := fun v _ => v = .bool false) (G := fun v _ => v = .bool false) hp (free_of rfl) trivial (sqi 10) (sqi 14) (fun ρ w hc h h' => ⟨_, by simp [execOp, go_sem, h, h'], rfl⟩)
 intro L vs w2 nb hL hC hn E2
 have e0 : vs 0 = .pointer (some ⟨b1, 0, none⟩) := hC 0 (by simp)
 have e2 : vs 2 = .bool true := hC 2 (by simp)
 have e3 : vs 3 = .bool false := hC 3 (by simp)
 have e4 : vs 4 = .bool false := hC 4 (by simp)
 have e5 : vs 5 = .pointer (some ⟨b1, 2, none⟩) := hC 5 (by simp)
 have e7 : vs 7 = .bool true := hC 7 (by simp)
 have e8 : vs 8 = .bool false := hC 8 (by simp)
 have e9 : vs 9 = .bool false := hC 9 (by simp)
 have e10 : vs 10 = .bool false := hC 10 (by simp)
 have e11 : vs 11 = .pointer (some ⟨b1, 4, none⟩) := hC 11 (by simp)
 have e13 : vs 13 = .bool true := hC 13 (by simp)
 have e14 : vs 14 = .bool false := hC 14 (by simp)
 have e15 : vs 15 = .bool false := hC 15 (by simp)
 have E : Fr w [(b1, 6, Fq.st [.n a, .n b, .n c])] w2 := E2
 rw [lay_all hL]
 simp only [putAll, dstOf, List.length_cons, List.length_nil, Nat.zero_add, Nat.reduceAdd, List.getElem?_toArray, List.getElem?_cons_zero, List.getElem?_cons_succ, Option.bind_some, Act.put, List.setIfInBounds_toArray, List.set_cons_succ, List.set_cons_zero]
 rw [e0, e2, e3, e4, e5, e7, e8, e9, e10, e11, e13, e14, e15]
 generalize vs 1 = u2_1
 generalize vs 6 = u2_6
 generalize vs 12 = u2_12
 clear e0 e2 e3 e4 e5 e7 e8 e9 e10 e11 e13 e14 e15 hC hn E2 hL vs L nb
 go_upto_region 3 with (fail)
 refine region_fr (C := [Fq.st [.n a, .n b, .n c], Fq.num (b * b - 4 * (a * c)), Fq.any, Fq.any]) (ks := [none]) (new := [⟨2, 3, 2, Fq.num 0, Fq.num (b * b - 4 * (a * c)), none⟩]) E rfl (by kernel_rfl) rfl rfl (fun hp => ⟨?_, ?_, ?_, ?_, trivial⟩) ?_
 ·exact q_loadSt (off := 0) (l := 6) (fs := [.n a, .n b, .n c]) (gs := [.n a, .n b, .n c]) hp (free_of rfl) trivial (mq 0 rfl) (.inl rfl) rfl row_api_Form rfl (sqo 1) (fun v w h => h)
 ·exact q_call1 (F := (Fq.st [.n a, .n b, .n c]).P) hp (free_of rfl) trivial (enq_f_algorist_quadratic_Disc) (sqi 0) (fun v w h => exPDisc h (Int.lt_of_lt_of_le ha.out (pw_le (by omega))) (Int.lt_of_lt_of_le hb.out (pw_le (by omega))) (Int.lt_of_lt_of_le hc.out (pw_le (by omega))))
 ·exact q_allocInt hp (mq 0 rfl) rfl rfl rfl rfl (Nat.ne_of_beq_eq_false rfl) (fun _ _ => trivial) (old_ne rfl) (newk_ne rfl) (fun w => Num.zero w)
 ·exact q_storeNewInt hp (mq 0 rfl) rfl rfl rfl (own_ptr rfl rfl (by simp) rfl) (sq_in 1 rfl rfl (by simp) rfl (fun v w h => intV_num h)) (fun _ _ => trivial) (old_ne rfl) (newi_ne rfl)
 intro L vs w3 nb hL hC hn E3
 have e2 : vs 2 = .pointer (some ⟨nb 2, 0, none⟩) := hn _ (mq 0 rfl)
 have E : Fr w [(nb 2, 2, Fq.num (b * b - 4 * (a * c))), (b1, 6, Fq.st [.n a, .n b, .n c])] w3 := E3
 rw [lay_all hL]
 simp only [putAll, dstOf, List.length_cons, List.length_nil, Nat.zero_add, Nat.reduceAdd, List.getElem?_toArray, List.getElem?_cons_zero, List.getElem?_cons_succ, Option.bind_some, Act.put, List.setIfInBounds_toArray, List.set_cons_succ, List.set_cons_zero]
 rw [e2]
 generalize nb 2 = b3_2 at E ⊢
 generalize vs 0 = u3_0
 generalize vs 1 = u3_1
 clear e2 hC hn E3 hL vs L nb
 go_upto_region 4 with (fail)
 refine region_fr (C := [Fq.num (b * b - 4 * (a * c)), Fq.is (.bool false), Fq.is (.bool false)]) (ks := [none, none]) (new := []) E rfl (by kernel_rfl) rfl rfl (fun hp => ⟨?_, ?_, ?_, trivial⟩) ?_
 ·exact q_loadInt (off := 0) hp (free_of rfl) trivial (mq 0 rfl) (.inl rfl) (Nat.le_of_ble_eq_true rfl) (sqo 3) (fun us w hl h => ld_num hl h)
 ·exact q_call1 (F := (Fq.num (b * b - 4 * (a * c))).P) hp (free_of rfl) trivial (enq_f_algorist_quadratic_isSquare) (sqi 0) (fun v w h => exPIsSq h HDB.out HQ.out)
 ·exact q_assign hp (free_of rfl) trivial (sqi 1)
 intro L vs w4 nb hL hC hn E4
 have e1 : vs 1 = .bool false := hC 1 (by simp)
 have e2 : vs 2 = .bool false := hC 2 (by simp)
 have E : Fr w [(b3_2, 2, Fq.num (b * b - 4 * (a * c))), (b1, 6, Fq.st [.n a, .n b, .n c])] w4 := E4
 rw [lay_all hL]
 simp only [putAll, dstOf, List.length_cons, List.length_nil, Nat.zero_add, Nat.reduceAdd, List.getElem?_toArray, List.getElem?_cons_zero, List.getElem?_cons_succ, Option.bind_some, Act.put, List.setIfInBounds_toArray, List.set_cons_succ, List.set_cons_zero]
 rw [e1, e2]
 generalize vs 0 = u4_0
 clear e1 e2 hC hn E4 hL vs L nb
 go_upto_region 6 with (fail)
 refine region_fr (C := [Fq.num (b * b - 4 * (a * c)), Fq.is (.int .i64 (cmpI (b * b - 4 * (a * c)) 0)), Fq.is (.bool false), Fq.is (.bool false), Fq.is (undef), Fq.is (undef), Fq.is (undef), Fq.is (undef), Fq.is (.bool false), Fq.is (.bool false)]) (ks := [none, none]) (new := []) E rfl (by kernel_rfl) rfl rfl (fun hp => ⟨?_, ?_, ?_, ?_, ?_, ?_, ?_, ?_, ?_, ?_, trivial⟩) ?_
 ·exact q_loadInt (off := 0) hp (free_of rfl) trivial (mq 0 rfl) (.inl rfl) (Nat.le_of_ble_eq_true rfl) (sqo 3) (fun us w hl h => ld_num hl h)
 ·exact q_call1 (F := (Fq.num (b * b - 4 * (a * c))).P) hp (free_of rfl) trivial (enq_Sign) (sqi 0) (fun v w h => exSign h)
 ·exact q_one (F := fun v _ => v = .int .i64 (cmpI (b * b - 4 * (a * c)) 0)) hp (free_of rfl) trivial (sqi 1) (fun ρ w hc h => ⟨.bool false, by simp [execOp, go_sem, h, hc, T1.out], rfl⟩)
 ·exact q_move hp (free_of rfl) trivial (sqi 2)
 ·exact q_skip hp (free_of rfl) rfl gqi (fun _ => rfl)
 ·exact q_skip hp (free_of rfl) rfl gqi (fun _ => rfl)
 ·exact q_skip hp (free_of rfl) rfl gqi (fun _ => rfl)
 ·exact q_skip hp (free_of rfl) rfl gqi (fun _ => rfl)
 ·exact q_two (F := fun v _ => v = .bool false) (G := fun v _ => v = .bool false) hp (free_of rfl) trivial (sqi 3) (sq_const (fun _ => rfl)) (fun ρ w hc h h' => ⟨_, by simp [execOp, go_sem, h, h'], rfl⟩)
 ·exact q_assign hp (free_of rfl) trivial (sqi 8)
 intro L vs w5 nb hL hC hn E5
 have e1 : vs 1 = .int .i64 (cmpI (b * b - 4 * (a * c)) 0) := hC 1 (by simp)
 have e2 : vs 2 = .bool false := hC 2 (by simp)
 have e3 : vs 3 = .bool false := hC 3 (by simp)
 have e4 : vs 4 = undef := hC 4 (by simp)
 have e5 : vs 5 = undef := hC 5 (by simp)
 have e6 : vs 6 = undef := hC 6 (by simp)
 have e7 : vs 7 = undef := hC 7 (by simp)
 have e8 : vs 8 = .bool false := hC 8 (by simp)
 have e9 : vs 9 = .bool false := hC 9 (by simp)
 have E : Fr w [(b3_2, 2, Fq.num (b * b - 4 * (a * c))), (b1, 6, Fq.st [.n a, .n b, .n c])] w5 := E5
 rw [lay_all hL]
 simp only [putAll, dstOf, List.length_cons, List.length_nil, Nat.zero_add, Nat.reduceAdd, List.getElem?_toArray, List.getElem?_cons_zero, List.getElem?_cons_succ, Option.bind_some, Act.put, List.setIfInBounds_toArray, List.set_cons_succ, List.set_cons_zero]
 rw [e1, e2, e3, e4, e5, e6, e7, e8, e9]
 generalize vs 0 = u5_0
 clear e1 e2 e3 e4 e5 e6 e7 e8 e9 hC hn E5 hL vs L nb
 go_upto_region 8 with (fail)
 refine region_fr (C := [Fq.is (.int .i64 0)]) (ks := [none, none]) (new := []) E rfl (by kernel_rfl) rfl rfl (fun hp => ⟨?_, trivial⟩) ?_
 ·exact q_assign hp (free_of rfl) trivial (sq_const (fun _ => rfl))
 intro L vs w6 nb hL hC hn E6
 have e0 : vs 0 = .int .i64 0 := hC 0 (by simp)
 have E : Fr w [(b3_2, 2, Fq.num (b * b - 4 * (a * c))), (b1, 6, Fq.st [.n a, .n b, .n c])] w6 := E6
 rw [lay_all hL]
 simp only [putAll, dstOf, List.length_cons, List.length_nil, Nat.zero_add, List.getElem?_toArray, List.getElem?_cons_zero, Option.bind_some, Act.put, List.setIfInBounds_toArray, List.set_cons_succ, List.set_cons_zero]
 rw [e0]
 clear e0 hC hn E6 hL vs L nb
 clear HQ T1
 clear ha hb hc HDB
 go_wp2
 refine bodyPost_ret (v := .int .i64 0) ?_ rfl ⟨_, rfl, E.below, rfl⟩
 simp [results, Try.results36, go_sem]

theorem exPCheck {w : World} {v : Value} {a b c : Int} (h : (Fq.st [.n a, .n b, .n c]).P v w) (ha : ab a < pw 15) (hb : ab b < pw 15) (hc : ab c < pw 15) {e0 : Int} (he : chkF a b c = e0) :
  Calls Try.prog 36 #[v] w fun e w' => ∃ v', e = .returned v' ∧ Below w.heap.size w w' ∧ v' = .int .i64 e0 := by
 subst he
 unfold chkF
 cases hq : sqB (b * b - 4 * (a * c)) with
 | true => rw [if_pos rfl]; exact exPCheck_sq h ha hb hc hq
 | false =>
  rw [if_neg (by decide)]
  by_cases hd : (b * b - 4 * (a * c)) < 0
  ·have hne := first_ne hd
   by_cases hz : a < 0
   ·rw [if_pos ⟨hd, hz⟩]; exact exPCheck_neg h ha hb hc hq hd hz
   ·rw [if_neg fun x => hz x.2]; exact exPCheck_def h ha hb hc hq hd (by omega)
  ·rw [if_neg fun x => hd x.1]; exact exPCheck_ind h ha hb hc hq hd

set_option maxRecDepth 100000 in
set_option maxHeartbeats 4000000 in
theorem exPValue0 {w : World} {v v' u : Value} {a b c x y : Int} (h : (Fq.st [.n a, .n b, .n c]).P v w) (h' : Num w v' x) (g : Num w u y) (ha : ab a < pw 60) (hb : ab b < pw 60) (hc : ab c < pw 60) (hx : ab x < pw 60) (hy : ab y < pw 60) :
  Calls Try.prog 18 #[v, v', u] w fun e w' => ∃ v', e = .returned v' ∧ Below w.heap.size w w' ∧ Num w' v' (((((a * x) + (b * y)) * x) + ((c * y) * y))) := by
 replace ha := hidd ha
 replace hb := hidd hb
 replace hc := hidd hc
 replace hx := hidd hx
 replace hy := hidd hy
 obtain ⟨_, rfl, hf0⟩ := h
 have hF0 := hf0
 obtain ⟨y0_p0, y0_q0, _, rfl, _y0_n0, y0_p1, y0_q1, _, rfl, _y0_n1, y0_p2, y0_q2, _, rfl, _y0_n2, rfl⟩ := hf0
 obtain ⟨n1, ao1, k1, c1, rfl⟩ := h'.parts
 obtain ⟨n2, ao2, k2, c2, rfl⟩ := g.parts
 obtain ⟨w1, b1, hw1, hb1, hs1, E⟩ := fr_start w (F := Fq.st [.n a, .n b, .n c]) (us := [y0_p0, y0_q0, y0_p1, y0_q1, y0_p2, y0_q2]) 33 rfl (by simp) (hF0.tame) (show (Fq.st [.n a, .n b, .n c]).P _ w from ⟨_, rfl, hF0⟩)
 obtain ⟨w2, b2, hw2, hb2, hs2, E⟩ := fr_more E hs1 (F := Fq.num x) (us := [.bool n1, .slice ao1 k1 c1]) 31 rfl (by simp) (tame_int _ _ _ _) (h'.mono E.below)
 obtain ⟨w3, b3, hw3, hb3, hs3, E⟩ := fr_more E hs2 (F := Fq.num y) (us := [.bool n2, .slice ao2 k2 c2]) 31 rfl (by simp) (tame_int _ _ _ _) (g.mono E.below)
 obtain ⟨w4, b4, hw4, hb4, hs4, E⟩ := fr_more E hs3 (F := Fq.num 0) (us := [.bool false, .slice none 0 0]) 31 rfl (by simp) (tame_int _ _ _ _) (Num.zero _)
 go_enter Try.func18, Try.ntmps18
 go_upto_region 1 with (fail)
 rw [← hw1]
 rw [← hw2]
 rw [← hw3]
 rw [← hw4]
 rw [← hb4]
 rw [← hb3]
 rw [← hb2]
 rw [← hb1]
 clear hw1 hw2 hw3 hw4 hb1 hb2 hb3 hb4 hs4 hs1 hs2 hs3
 have B5 : Hid (ab ((a * x)) < pw 120) := ab_mulM ha.out hx.out (by omega)
 have B6 : Hid (ab ((b * y)) < pw 120) := ab_mulM hb.out hy.out (by omega)
 have B7 : Hid (ab (((a * x) + (b * y))) < pw 121) := ab_addB B5.out B6.out (by omega) (by omega)
 refine region_fr (C := [Fq.is (.pointer (some ⟨b1, 0, none⟩)), Fq.num a, Fq.num x, Fq.num (a * x), Fq.is (.pointer (some ⟨b1, 2, none⟩)), Fq.num b, Fq.num y, Fq.num (b * y), Fq.num ((a * x) + (b * y)), Fq.any, Fq.any]) (ks := [none, none, none, none]) (new := [⟨9, 10, 2, Fq.num 0, Fq.num ((a * x) + (b * y)), none⟩]) E rfl (by kernel_rfl) rfl rfl (fun hp => ⟨?_, ?_, ?_, ?_, ?_, ?_, ?_, ?_, ?_, ?_, ?_, trivial⟩) ?_
 ·exact q_addr (b := b1) (off := 0) (off' := 0) hp (free_of rfl) trivial (sqo 3) (fun ρ w h => by simp [execOp, go_sem, h]) (fun _ => rfl)
 ·exact q_loadSt (off := 0) (l := 2) (fs := [.n a, .n b, .n c]) (gs := [.n a]) hp (free_of rfl) trivial (mq 3 rfl) (.inl rfl) rfl row_api_Int rfl (sqi 0) (fun v w h => st_num h)
 ·exact q_loadInt (off := 0) hp (free_of rfl) trivial (mq 2 rfl) (.inl rfl) (Nat.le_of_ble_eq_true rfl) (sqo 4) (fun us w hl h => ld_num hl h)
 ·exact q_call2 (F := (Fq.num a).P) (G := (Fq.num x).P) hp (free_of rfl) trivial (enq_Mul) (sqi 1) (sqi 2) (fun v v' w h h' => exK (MulV h h') B5.out (by omega))
 ·exact q_addr (b := b1) (off := 0) (off' := 2) hp (free_of rfl) trivial (sqo 3) (fun ρ w h => by simp [execOp, go_sem, h]) (fun _ => rfl)
 ·exact q_loadSt (off := 2) (l := 2) (fs := [.n a, .n b, .n c]) (gs := [.n b]) hp (free_of rfl) trivial (mq 3 rfl) (.inl rfl) rfl row_api_Int rfl (sqi 4) (fun v w h => st_num h)
 ·exact q_loadInt (off := 0) hp (free_of rfl) trivial (mq 1 rfl) (.inl rfl) (Nat.le_of_ble_eq_true rfl) (sqo 5) (fun us w hl h => ld_num hl h)
 ·exact q_call2 (F := (Fq.num b).P) (G := (Fq.num y).P) hp (free_of rfl) trivial (enq_Mul) (sqi 5) (sqi 6) (fun v v' w h h' => exK (MulV h h') B6.out (by omega))
 ·exact q_call2 (F := (Fq.num (a * x)).P) (G := (Fq.num (b * y)).P) hp (free_of rfl) trivial (enq_Add) (sqi 3) (sqi 7) (fun v v' w h h' => exK (AddV h h') B7.out (by omega))
 ·exact q_allocInt hp (mq 0 rfl) rfl rfl rfl rfl (Nat.ne_of_beq_eq_false rfl) (fun _ _ => trivial) (old_ne rfl) (newk_ne rfl) (fun w => Num.zero w)
 ·exact q_storeNewInt hp (mq 0 rfl) rfl rfl rfl (own_ptr rfl rfl (by simp) rfl) (sq_in 8 rfl rfl (by simp) rfl (fun v w h => intV_num h)) (fun _ _ => trivial) (old_ne rfl) (newi_ne rfl)
 intro L vs w8 nb hL hC hn E8
 have e0 : vs 0 = .pointer (some ⟨b1, 0, none⟩) := hC 0 (by simp)
 have e4 : vs 4 = .pointer (some ⟨b1, 2, none⟩) := hC 4 (by simp)
 have e9 : vs 9 = .pointer (some ⟨nb 9, 0, none⟩) := hn _ (mq 0 rfl)
 have E : Fr w [(nb 9, 2, Fq.num ((a * x) + (b * y))), (b4, 2, Fq.num 0), (b3, 2, Fq.num y), (b2, 2, Fq.num x), (b1, 6, Fq.st [.n a, .n b, .n c])] w8 := E8
 rw [lay_all hL]
 simp only [putAll, dstOf, List.length_cons, List.length_nil, Nat.zero_add, Nat.reduceAdd, List.getElem?_toArray, List.getElem?_cons_zero, List.getElem?_cons_succ, Option.bind_some, Act.put, List.setIfInBounds_toArray, List.set_cons_succ, List.set_cons_zero]
 rw [e0, e4, e9]
 generalize nb 9 = b8_9 at E ⊢
 generalize vs 1 = u8_1
 generalize vs 2 = u8_2
 generalize vs 3 = u8_3
 generalize vs 5 = u8_5
 generalize vs 6 = u8_6
 generalize vs 7 = u8_7
 generalize vs 8 = u8_8
 clear e0 e4 e9 hC hn E8 hL vs L nb
 go_upto_region 2 with (fail)
 have B9 : Hid (ab ((((a * x) + (b * y)) * x)) < pw 181) := ab_mulM B7.out hx.out (by omega)
 have B10 : Hid (ab ((c * y)) < pw 120) := ab_mulM hc.out hy.out (by omega)
 have B11 : Hid (ab (((c * y) * y)) < pw 180) := ab_mulM B10.out hy.out (by omega)
 have B12 : Hid (ab (((((a * x) + (b * y)) * x) + ((c * y) * y))) < pw 182) := ab_addB B9.out B11.out (by omega) (by omega)
 refine region_fr (C := [Fq.num ((a * x) + (b * y)), Fq.num x, Fq.num (((a * x) + (b * y)) * x), Fq.is (.pointer (some ⟨b1, 4, none⟩)), Fq.num c, Fq.num y, Fq.num (c * y), Fq.num y, Fq.num ((c * y) * y), Fq.num ((((a * x) + (b * y)) * x) + ((c * y) * y)), Fq.any]) (ks := [none, some (10, Fq.num ((((a * x) + (b * y)) * x) + ((c * y) * y))), none, none, none]) (new := []) E rfl (by kernel_rfl) rfl rfl (fun hp => ⟨?_, ?_, ?_, ?_, ?_, ?_, ?_, ?_, ?_, ?_, ?_, trivial⟩) ?_
 ·exact q_loadInt (off := 0) hp (free_of rfl) trivial (mq 0 rfl) (.inl rfl) (Nat.le_of_ble_eq_true rfl) (sqo 7) (fun us w hl h => ld_num hl h)
 ·exact q_loadInt (off := 0) hp (free_of rfl) trivial (mq 3 rfl) (.inl rfl) (Nat.le_of_ble_eq_true rfl) (sqo 4) (fun us w hl h => ld_num hl h)
 ·exact q_call2 (F := (Fq.num ((a * x) + (b * y))).P) (G := (Fq.num x).P) hp (free_of rfl) trivial (enq_Mul) (sqi 0) (sqi 1) (fun v v' w h h' => exK (MulV h h') B9.out (by omega))
 ·exact q_addr (b := b1) (off := 0) (off' := 4) hp (free_of rfl) trivial (sqo 3) (fun ρ w h => by simp [execOp, go_sem, h]) (fun _ => rfl)
 ·exact q_loadSt (off := 4) (l := 2) (fs := [.n a, .n b, .n c]) (gs := [.n c]) hp (free_of rfl) trivial (mq 4 rfl) (.inl rfl) rfl row_api_Int rfl (sqi 3) (fun v w h => st_num h)
 ·exact q_loadInt (off := 0) hp (free_of rfl) trivial (mq 2 rfl) (.inl rfl) (Nat.le_of_ble_eq_true rfl) (sqo 5) (fun us w hl h => ld_num hl h)
 ·exact q_call2 (F := (Fq.num c).P) (G := (Fq.num y).P) hp (free_of rfl) trivial (enq_Mul) (sqi 4) (sqi 5) (fun v v' w h h' => exK (MulV h h') B10.out (by omega))
 ·exact q_loadInt (off := 0) hp (free_of rfl) trivial (mq 2 rfl) (.inl rfl) (Nat.le_of_ble_eq_true rfl) (sqo 5) (fun us w hl h => ld_num hl h)
 ·exact q_call2 (F := (Fq.num (c * y)).P) (G := (Fq.num y).P) hp (free_of rfl) trivial (enq_Mul) (sqi 6) (sqi 7) (fun v v' w h h' => exK (MulV h h') B11.out (by omega))
 ·exact q_call2 (F := (Fq.num (((a * x) + (b * y)) * x)).P) (G := (Fq.num ((c * y) * y)).P) hp (free_of rfl) trivial (enq_Add) (sqi 2) (sqi 8) (fun v v' w h h' => exK (AddV h h') B12.out (by omega))
 ·exact q_storeOldInt hp (mq 1 rfl) rfl rfl (sqo 6) (sq_in 9 rfl rfl (by simp) rfl (fun v w h => intV_num h)) (fun _ _ => trivial) (newik_ne rfl)
 intro L vs w13 nb hL hC hn E13
 have e3 : vs 3 = .pointer (some ⟨b1, 4, none⟩) := hC 3 (by simp)
 have E : Fr w [(b8_9, 2, Fq.num ((a * x) + (b * y))), (b4, 2, Fq.num ((((a * x) + (b * y)) * x) + ((c * y) * y))), (b3, 2, Fq.num y), (b2, 2, Fq.num x), (b1, 6, Fq.st [.n a, .n b, .n c])] w13 := E13
 rw [lay_all hL]
 simp only [putAll, dstOf, List.length_cons, List.length_nil, Nat.zero_add, Nat.reduceAdd, List.getElem?_toArray, List.getElem?_cons_zero, List.getElem?_cons_succ, Option.bind_some, Act.put, List.setIfInBounds_toArray, List.set_cons_succ, List.set_cons_zero]
 rw [e3]
 generalize vs 0 = u13_0
 generalize vs 1 = u13_1
 generalize vs 2 = u13_2
 generalize vs 4 = u13_4
 generalize vs 5 = u13_5
 generalize vs 6 = u13_6
 generalize vs 7 = u13_7
 generalize vs 8 = u13_8
 generalize vs 9 = u13_9
 clear e3 hC hn E13 hL vs L nb
 obtain ⟨p0_0, p0_1, c0_0, c0_1, hP0⟩ := box_num (E.box 1 rfl)
 clear B5 B6 B7 B9 B10 B11 B12 ha hb hc hx hy
 go_wp2
 refine bodyPost_ret (v := .agg #[p0_0, p0_1]) ?_ rfl ⟨_, rfl, E.below, hP0⟩
 simp [results, Try.results18, go_sem, c0_0, c0_1]

theorem qv_eqP (a b c x y : Int) : qv a b c x y = ((((a * x) + (b * y)) * x) + ((c * y) * y)) := by
 unfold qv
 rw [Int.add_mul, Int.mul_assoc, Int.mul_assoc, Int.mul_assoc, Int.mul_comm y x]
theorem exPValue {w : World} {v v' u : Value} {a b c x y : Int} (h : (Fq.st [.n a, .n b, .n c]).P v w) (h' : Num w v' x) (g : Num w u y) (ha : ab a < pw 60) (hb : ab b < pw 60) (hc : ab c < pw 60) (hx : ab x < pw 60) (hy : ab y < pw 60) :
  Calls Try.prog 18 #[v, v', u] w fun e w' => ∃ v', e = .returned v' ∧ Below w.heap.size w w' ∧ Num w' v' (qv a b c x y) := by
 rw [qv_eqP]
 exact exPValue0 h h' g ha hb hc hx hy

set_option maxRecDepth 100000 in
set_option maxHeartbeats 4000000 in
theorem exPTwice0 {w : World} {v : Value} {z : Int} (h : Num w v z) (hz : ab z < pw 600) :
  Calls Try.prog 47 #[v] w fun e w' => ∃ v', e = .returned v' ∧ Below w.heap.size w w' ∧ Num w' v' ((z + z)) := by
 replace hz := hidd hz
 obtain ⟨n0, ao0, k0, c0, rfl⟩ := h.parts
 obtain ⟨w1, b1, hw1, hb1, hs1, E⟩ := fr_start w (F := Fq.num z) (us := [.bool n0, .slice ao0 k0 c0]) 31 rfl (by simp) (tame_int _ _ _ _) h
 obtain ⟨w2, b2, hw2, hb2, hs2, E⟩ := fr_more E hs1 (F := Fq.num 0) (us := [.bool false, .slice none 0 0]) 31 rfl (by simp) (tame_int _ _ _ _) (Num.zero _)
 go_enter Try.func47, Try.ntmps47
 go_upto_region 1 with (fail)
 rw [← hw1]
 rw [← hw2]
 rw [← hb2]
 rw [← hb1]
 clear hw1 hw2 hb1 hb2 hs2 hs1
 have B3 : Hid (ab ((z + z)) < pw 601) := ab_addB hz.out hz.out (by omega) (by omega)
 refine region_fr (C := [Fq.num z, Fq.num z, Fq.num (z + z), Fq.any]) (ks := [some (3, Fq.num (z + z)), none]) (new := []) E rfl (by kernel_rfl) rfl rfl (fun hp => ⟨?_, ?_, ?_, ?_, trivial⟩) ?_
 ·exact q_loadInt (off := 0) hp (free_of rfl) trivial (mq 1 rfl) (.inl rfl) (Nat.le_of_ble_eq_true rfl) (sqo 1) (fun us w hl h => ld_num hl h)
 ·exact q_loadInt (off := 0) hp (free_of rfl) trivial (mq 1 rfl) (.inl rfl) (Nat.le_of_ble_eq_true rfl) (sqo 1) (fun us w hl h => ld_num hl h)
 ·exact q_call2 (F := (Fq.num z).P) (G := (Fq.num z).P) hp (free_of rfl) trivial (enq_Add) (sqi 0) (sqi 1) (fun v v' w h h' => exK (AddV h h') B3.out (by omega))
 ·exact q_storeOldInt hp (mq 0 rfl) rfl rfl (sqo 2) (sq_in 2 rfl rfl (by simp) rfl (fun v w h => intV_num h)) (fun _ _ => trivial) (newik_ne rfl)
 intro L vs w4 nb hL hC hn E4
 have E : Fr w [(b2, 2, Fq.num (z + z)), (b1, 2, Fq.num z)] w4 := E4
 rw [lay_all hL]
 simp only [putAll, dstOf, List.length_cons, List.length_nil, Nat.zero_add, Nat.reduceAdd, List.getElem?_toArray, List.getElem?_cons_zero, List.getElem?_cons_succ, Option.bind_some, Act.put, List.setIfInBounds_toArray, List.set_cons_succ, List.set_cons_zero]
 generalize vs 0 = u4_0
 generalize vs 1 = u4_1
 generalize vs 2 = u4_2
 clear  hC hn E4 hL vs L nb
 obtain ⟨p0_0, p0_1, c0_0, c0_1, hP0⟩ := box_num (E.box 0 rfl)
 clear B3 hz
 go_wp2
 refine bodyPost_ret (v := .agg #[p0_0, p0_1]) ?_ rfl ⟨_, rfl, E.below, hP0⟩
 simp [results, Try.results47, go_sem, c0_0, c0_1]

theorem exPTwice {w : World} {v : Value} {z : Int} (h : Num w v z) (hz : ab z < pw 600) : Calls Try.prog 47 #[v] w fun e w' => ∃ v', e = .returned v' ∧ Below w.heap.size w w' ∧ Num w' v' (2 * z) := by
 have e : 2 * z = (z + z) := by omega
 rw [e]
 exact exPTwice0 h hz

set_option maxRecDepth 100000 in
set_option maxHeartbeats 4000000 in
theorem exPApply0 {w : World} {v v' : Value} {a b c x1 x2 x3 x4 : Int} (h : (Fq.st [.n a, .n b, .n c]).P v w) (h' : (Fq.st [.n x1, .n x2, .n x3, .n x4]).P v' w) (ha : ab a < pw 60) (hb : ab b < pw 60) (hc : ab c < pw 60) (hx1 : ab x1 < pw 60) (hx2 : ab x2 < pw 60) (hx3 : ab x3 < pw 60) (hx4 : ab x4 < pw 60) :
  Calls Try.prog 12 #[v, v'] w fun e w' => ∃ v', e = .returned v' ∧ Below w.heap.size w w' ∧ (Fq.st [.n (qv a b c x1 x3), .n (((((2 * (a * x1)) + (b * x3)) * x2) + (((b * x1) + (2 * (c * x3))) * x4))), .n (qv a b c x2 x4)]).P v' w' := by
 replace ha := hidd ha
 replace hb := hidd hb
 replace hc := hidd hc
 replace hx1 := hidd hx1
 replace hx2 := hidd hx2
 replace hx3 := hidd hx3
 replace hx4 := hidd hx4
 obtain ⟨_, rfl, hf0⟩ := h
 have hF0 := hf0
 obtain ⟨y0_p0, y0_q0, _, rfl, _y0_n0, y0_p1, y0_q1, _, rfl, _y0_n1, y0_p2, y0_q2, _, rfl, _y0_n2, rfl⟩ := hf0
 obtain ⟨_, rfl, hf1⟩ := h'
 have hF1 := hf1
 obtain ⟨y1_p0, y1_q0, _, rfl, _y1_n0, y1_p1, y1_q1, _, rfl, _y1_n1, y1_p2, y1_q2, _, rfl, _y1_n2, y1_p3, y1_q3, _, rfl, _y1_n3, rfl⟩ := hf1
 obtain ⟨w1, b1, hw1, hb1, hs1, E⟩ := fr_start w (F := Fq.st [.n a, .n b, .n c]) (us := [y0_p0, y0_q0, y0_p1, y0_q1, y0_p2, y0_q2]) 33 rfl (by simp) (hF0.tame) (show (Fq.st [.n a, .n b, .n c]).P _ w from ⟨_, rfl, hF0⟩)
 obtain ⟨w2, b2, hw2, hb2, hs2, E⟩ := fr_more E hs1 (F := Fq.st [.n x1, .n x2, .n x3, .n x4]) (us := [y1_p0, y1_q0, y1_p1, y1_q1, y1_p2, y1_q2, y1_p3, y1_q3]) 36 rfl (by simp) (hF1.tame) ((Fq.st [.n x1, .n x2, .n x3, .n x4]).mono (show (Fq.st [.n x1, .n x2, .n x3, .n x4]).P _ w from ⟨_, rfl, hF1⟩) E.below)
 obtain ⟨w3, b3, hw3, hb3, hs3, E⟩ := fr_more E hs2 (F := Fq.st [.n 0, .n 0, .n 0]) (us := [.bool false, .slice none 0 0, .bool false, .slice none 0 0, .bool false, .slice none 0 0]) 33 rfl (by simp) ((Fits.tame (fits0_api_Form w))) (fits0P_api_Form _)
 go_enter Try.func12, Try.ntmps12
 go_upto_region 1 with (fail)
 rw [← hw1]
 rw [← hw2]
 rw [← hw3]
 rw [← hb3]
 rw [← hb2]
 rw [← hb1]
 clear hw1 hw2 hw3 hb1 hb2 hb3 hs3 hs1 hs2
 have B4 : Hid (ab ((a * x1)) < pw 120) := ab_mulM ha.out hx1.out (by omega)
 have B5 : Hid (ab ((2 * (a * x1))) < pw 123) := Int.lt_of_lt_of_le (ab_mulB (ab_i64 (x := 2) (by decide) (by decide)) B4.out) (pw_le (by omega))
 have B6 : Hid (ab ((b * x3)) < pw 120) := ab_mulM hb.out hx3.out (by omega)
 have B7 : Hid (ab (((2 * (a * x1)) + (b * x3))) < pw 124) := ab_addB B5.out B6.out (by omega) (by omega)
 refine region_fr (C := [Fq.is (.pointer (some ⟨b1, 0, none⟩)), Fq.num a, Fq.is (.pointer (some ⟨b2, 0, none⟩)), Fq.num x1, Fq.num (a * x1), Fq.num (2 * (a * x1)), Fq.is (.pointer (some ⟨b1, 2, none⟩)), Fq.num b, Fq.is (.pointer (some ⟨b2, 4, none⟩)), Fq.num x3, Fq.num (b * x3), Fq.num ((2 * (a * x1)) + (b * x3)), Fq.any, Fq.any]) (ks := [none, none, none]) (new := [⟨12, 13, 2, Fq.num 0, Fq.num ((2 * (a * x1)) + (b * x3)), none⟩]) E rfl (by kernel_rfl) rfl rfl (fun hp => ⟨?_, ?_, ?_, ?_, ?_, ?_, ?_, ?_, ?_, ?_, ?_, ?_, ?_, ?_, trivial⟩) ?_
 ·exact q_addr (b := b1) (off := 0) (off' := 0) hp (free_of rfl) trivial (sqo 2) (fun ρ w h => by simp [execOp, go_sem, h]) (fun _ => rfl)
 ·exact q_loadSt (off := 0) (l := 2) (fs := [.n a, .n b, .n c]) (gs := [.n a]) hp (free_of rfl) trivial (mq 2 rfl) (.inl rfl) rfl row_api_Int rfl (sqi 0) (fun v w h => st_num h)
 ·exact q_addr (b := b2) (off := 0) (off' := 0) hp (free_of rfl) trivial (sqo 3) (fun ρ w h => by simp [execOp, go_sem, h]) (fun _ => rfl)
 ·exact q_loadSt (off := 0) (l := 2) (fs := [.n x1, .n x2, .n x3, .n x4]) (gs := [.n x1]) hp (free_of rfl) trivial (mq 1 rfl) (.inl rfl) rfl row_api_Int rfl (sqi 2) (fun v w h => st_num h)
 ·exact q_call2 (F := (Fq.num a).P) (G := (Fq.num x1).P) hp (free_of rfl) trivial (enq_Mul) (sqi 1) (sqi 3) (fun v v' w h h' => exK (MulV h h') B4.out (by omega))
 ·exact q_call1 (F := (Fq.num (a * x1)).P) hp (free_of rfl) trivial (enq_f_algorist_quadratic_twice) (sqi 4) (fun v w h => exPTwice h (Int.lt_of_lt_of_le B4.out (pw_le (by omega))))
 ·exact q_addr (b := b1) (off := 0) (off' := 2) hp (free_of rfl) trivial (sqo 2) (fun ρ w h => by simp [execOp, go_sem, h]) (fun _ => rfl)
 ·exact q_loadSt (off := 2) (l := 2) (fs := [.n a, .n b, .n c]) (gs := [.n b]) hp (free_of rfl) trivial (mq 2 rfl) (.inl rfl) rfl row_api_Int rfl (sqi 6) (fun v w h => st_num h)
 ·exact q_addr (b := b2) (off := 0) (off' := 4) hp (free_of rfl) trivial (sqo 3) (fun ρ w h => by simp [execOp, go_sem, h]) (fun _ => rfl)
 ·exact q_loadSt (off := 4) (l := 2) (fs := [.n x1, .n x2, .n x3, .n x4]) (gs := [.n x3]) hp (free_of rfl) trivial (mq 1 rfl) (.inl rfl) rfl row_api_Int rfl (sqi 8) (fun v w h => st_num h)
 ·exact q_call2 (F := (Fq.num b).P) (G := (Fq.num x3).P) hp (free_of rfl) trivial (enq_Mul) (sqi 7) (sqi 9) (fun v v' w h h' => exK (MulV h h') B6.out (by omega))
 ·exact q_call2 (F := (Fq.num (2 * (a * x1))).P) (G := (Fq.num (b * x3)).P) hp (free_of rfl) trivial (enq_Add) (sqi 5) (sqi 10) (fun v v' w h h' => exK (AddV h h') B7.out (by omega))
 ·exact q_allocInt hp (mq 0 rfl) rfl rfl rfl rfl (Nat.ne_of_beq_eq_false rfl) (fun _ _ => trivial) (old_ne rfl) (newk_ne rfl) (fun w => Num.zero w)
 ·exact q_storeNewInt hp (mq 0 rfl) rfl rfl rfl (own_ptr rfl rfl (by simp) rfl) (sq_in 11 rfl rfl (by simp) rfl (fun v w h => intV_num h)) (fun _ _ => trivial) (old_ne rfl) (newi_ne rfl)
 intro L vs w8 nb hL hC hn E8
 have e0 : vs 0 = .pointer (some ⟨b1, 0, none⟩) := hC 0 (by simp)
 have e2 : vs 2 = .pointer (some ⟨b2, 0, none⟩) := hC 2 (by simp)
 have e6 : vs 6 = .pointer (some ⟨b1, 2, none⟩) := hC 6 (by simp)
 have e8 : vs 8 = .pointer (some ⟨b2, 4, none⟩) := hC 8 (by simp)
 have e12 : vs 12 = .pointer (some ⟨nb 12, 0, none⟩) := hn _ (mq 0 rfl)
 have E : Fr w [(nb 12, 2, Fq.num ((2 * (a * x1)) + (b * x3))), (b3, 6, Fq.st [.n 0, .n 0, .n 0]), (b2, 8, Fq.st [.n x1, .n x2, .n x3, .n x4]), (b1, 6, Fq.st [.n a, .n b, .n c])] w8 := E8
 rw [lay_all hL]
 simp only [putAll, dstOf, List.length_cons, List.length_nil, Nat.zero_add, Nat.reduceAdd, List.getElem?_toArray, List.getElem?_cons_zero, List.getElem?_cons_succ, Option.bind_some, Act.put, List.setIfInBounds_toArray, List.set_cons_succ, List.set_cons_zero]
 rw [e0, e2, e6, e8, e12]
 generalize nb 12 = b8_12 at E ⊢
 generalize vs 1 = u8_1
 generalize vs 3 = u8_3
 generalize vs 4 = u8_4
 generalize vs 5 = u8_5
 generalize vs 7 = u8_7
 generalize vs 9 = u8_9
 generalize vs 10 = u8_10
 generalize vs 11 = u8_11
 clear e0 e2 e6 e8 e12 hC hn E8 hL vs L nb
 go_upto_region 2 with (fail)
 have B9 : Hid (ab ((b * x1)) < pw 120) := ab_mulM hb.out hx1.out (by omega)
 have B10 : Hid (ab ((c * x3)) < pw 120) := ab_mulM hc.out hx3.out (by omega)
 have B11 : Hid (ab ((2 * (c * x3))) < pw 123) := Int.lt_of_lt_of_le (ab_mulB (ab_i64 (x := 2) (by decide) (by decide)) B10.out) (pw_le (by omega))
 have B12 : Hid (ab (((b * x1) + (2 * (c * x3)))) < pw 124) := ab_addB B9.out B11.out (by omega) (by omega)
 refine region_fr (C := [Fq.is (.pointer (some ⟨b1, 2, none⟩)), Fq.num b, Fq.is (.pointer (some ⟨b2, 0, none⟩)), Fq.num x1, Fq.num (b * x1), Fq.is (.pointer (some ⟨b1, 4, none⟩)), Fq.num c, Fq.is (.pointer (some ⟨b2, 4, none⟩)), Fq.num x3, Fq.num (c * x3), Fq.num (2 * (c * x3)), Fq.num ((b * x1) + (2 * (c * x3))), Fq.any, Fq.any]) (ks := [none, none, none, none]) (new := [⟨12, 13, 2, Fq.num 0, Fq.num ((b * x1) + (2 * (c * x3))), none⟩]) E rfl (by kernel_rfl) rfl rfl (fun hp => ⟨?_, ?_, ?_, ?_, ?_, ?_, ?_, ?_, ?_, ?_, ?_, ?_, ?_, ?_, trivial⟩) ?_
 ·exact q_addr (b := b1) (off := 0) (off' := 2) hp (free_of rfl) trivial (sqo 2) (fun ρ w h => by simp [execOp, go_sem, h]) (fun _ => rfl)
 ·exact q_loadSt (off := 2) (l := 2) (fs := [.n a, .n b, .n c]) (gs := [.n b]) hp (free_of rfl) trivial (mq 3 rfl) (.inl rfl) rfl row_api_Int rfl (sqi 0) (fun v w h => st_num h)
 ·exact q_addr (b := b2) (off := 0) (off' := 0) hp (free_of rfl) trivial (sqo 3) (fun ρ w h => by simp [execOp, go_sem, h]) (fun _ => rfl)
 ·exact q_loadSt (off := 0) (l := 2) (fs := [.n x1, .n x2, .n x3, .n x4]) (gs := [.n x1]) hp (free_of rfl) trivial (mq 2 rfl) (.inl rfl) rfl row_api_Int rfl (sqi 2) (fun v w h => st_num h)
 ·exact q_call2 (F := (Fq.num b).P) (G := (Fq.num x1).P) hp (free_of rfl) trivial (enq_Mul) (sqi 1) (sqi 3) (fun v v' w h h' => exK (MulV h h') B9.out (by omega))
 ·exact q_addr (b := b1) (off := 0) (off' := 4) hp (free_of rfl) trivial (sqo 2) (fun ρ w h => by simp [execOp, go_sem, h]) (fun _ => rfl)
 ·exact q_loadSt (off := 4) (l := 2) (fs := [.n a, .n b, .n c]) (gs := [.n c]) hp (free_of rfl) trivial (mq 3 rfl) (.inl rfl) rfl row_api_Int rfl (sqi 5) (fun v w h => st_num h)
 ·exact q_addr (b := b2) (off := 0) (off' := 4) hp (free_of rfl) trivial (sqo 3) (fun ρ w h => by simp [execOp, go_sem, h]) (fun _ => rfl)
 ·exact q_loadSt (off := 4) (l := 2) (fs := [.n x1, .n x2, .n x3, .n x4]) (gs := [.n x3]) hp (free_of rfl) trivial (mq 2 rfl) (.inl rfl) rfl row_api_Int rfl (sqi 7) (fun v w h => st_num h)
 ·exact q_call2 (F := (Fq.num c).P) (G := (Fq.num x3).P) hp (free_of rfl) trivial (enq_Mul) (sqi 6) (sqi 8) (fun v v' w h h' => exK (MulV h h') B10.out (by omega))
 ·exact q_call1 (F := (Fq.num (c * x3)).P) hp (free_of rfl) trivial (enq_f_algorist_quadratic_twice) (sqi 9) (fun v w h => exPTwice h (Int.lt_of_lt_of_le B10.out (pw_le (by omega))))
 ·exact q_call2 (F := (Fq.num (b * x1)).P) (G := (Fq.num (2 * (c * x3))).P) hp (free_of rfl) trivial (enq_Add) (sqi 4) (sqi 10) (fun v v' w h h' => exK (AddV h h') B12.out (by omega))
 ·exact q_allocInt hp (mq 0 rfl) rfl rfl rfl rfl (Nat.ne_of_beq_eq_false rfl) (fun _ _ => trivial) (old_ne rfl) (newk_ne rfl) (fun w => Num.zero w)
 ·exact q_storeNewInt hp (mq 0 rfl) rfl rfl rfl (own_ptr rfl rfl (by simp) rfl) (sq_in 11 rfl rfl (by simp) rfl (fun v w h => intV_num h)) (fun _ _ => trivial) (old_ne rfl) (newi_ne rfl)
 intro L vs w13 nb hL hC hn E13
 have e0 : vs 0 = .pointer (some ⟨b1, 2, none⟩) := hC 0 (by simp)
 have e2 : vs 2 = .pointer (some ⟨b2, 0, none⟩) := hC 2 (by simp)
 have e5 : vs 5 = .pointer (some ⟨b1, 4, none⟩) := hC 5 (by simp)
 have e7 : vs 7 = .pointer (some ⟨b2, 4, none⟩) := hC 7 (by simp)
 have e12 : vs 12 = .pointer (some ⟨nb 12, 0, none⟩) := hn _ (mq 0 rfl)
 have E : Fr w [(nb 12, 2, Fq.num ((b * x1) + (2 * (c * x3)))), (b8_12, 2, Fq.num ((2 * (a * x1)) + (b * x3))), (b3, 6, Fq.st [.n 0, .n 0, .n 0]), (b2, 8, Fq.st [.n x1, .n x2, .n x3, .n x4]), (b1, 6, Fq.st [.n a, .n b, .n c])] w13 := E13
 rw [lay_all hL]
 simp only [putAll, dstOf, List.length_cons, List.length_nil, Nat.zero_add, Nat.reduceAdd, List.getElem?_toArray, List.getElem?_cons_zero, List.getElem?_cons_succ, Option.bind_some, Act.put, List.setIfInBounds_toArray, List.set_cons_succ, List.set_cons_zero]
 rw [e0, e2, e5, e7, e12]
 generalize nb 12 = b13_12 at E ⊢
 generalize vs 1 = u13_1
 generalize vs 3 = u13_3
 generalize vs 4 = u13_4
 generalize vs 6 = u13_6
 generalize vs 8 = u13_8
 generalize vs 9 = u13_9
 generalize vs 10 = u13_10
 generalize vs 11 = u13_11
 clear e0 e2 e5 e7 e12 hC hn E13 hL vs L nb
 go_upto_region 3 with (fail)
 have B14 : Hid (ab ((((2 * (a * x1)) + (b * x3)) * x2)) < pw 184) := ab_mulM B7.out hx2.out (by omega)
 have B15 : Hid (ab ((((b * x1) + (2 * (c * x3))) * x4)) < pw 184) := ab_mulM B12.out hx4.out (by omega)
 have B16 : Hid (ab (((((2 * (a * x1)) + (b * x3)) * x2) + (((b * x1) + (2 * (c * x3))) * x4))) < pw 185) := ab_addB B14.out B15.out (by omega) (by omega)
 refine region_fr (C := [Fq.st [.n a, .n b, .n c], Fq.is (.pointer (some ⟨b2, 0, none⟩)), Fq.num x1, Fq.is (.pointer (some ⟨b2, 4, none⟩)), Fq.num x3, Fq.num (qv a b c x1 x3), Fq.num ((2 * (a * x1)) + (b * x3)), Fq.is (.pointer (some ⟨b2, 2, none⟩)), Fq.num x2, Fq.num (((2 * (a * x1)) + (b * x3)) * x2), Fq.num ((b * x1) + (2 * (c * x3))), Fq.is (.pointer (some ⟨b2, 6, none⟩)), Fq.num x4, Fq.num (((b * x1) + (2 * (c * x3))) * x4), Fq.num ((((2 * (a * x1)) + (b * x3)) * x2) + (((b * x1) + (2 * (c * x3))) * x4)), Fq.st [.n a, .n b, .n c], Fq.is (.pointer (some ⟨b2, 2, none⟩)), Fq.num x2, Fq.is (.pointer (some ⟨b2, 6, none⟩)), Fq.num x4, Fq.num (qv a b c x2 x4), Fq.st [.n (qv a b c x1 x3), .n ((((2 * (a * x1)) + (b * x3)) * x2) + (((b * x1) + (2 * (c * x3))) * x4)), .n (qv a b c x2 x4)], Fq.any]) (ks := [none, none, some (22, Fq.st [.n (qv a b c x1 x3), .n ((((2 * (a * x1)) + (b * x3)) * x2) + (((b * x1) + (2 * (c * x3))) * x4)), .n (qv a b c x2 x4)]), none, none]) (new := []) E rfl (by kernel_rfl) rfl rfl (fun hp => ⟨?_, ?_, ?_, ?_, ?_, ?_, ?_, ?_, ?_, ?_, ?_, ?_, ?_, ?_, ?_, ?_, ?_, ?_, ?_, ?_, ?_, ?_, ?_, trivial⟩) ?_
 ·exact q_loadSt (off := 0) (l := 6) (fs := [.n a, .n b, .n c]) (gs := [.n a, .n b, .n c]) hp (free_of rfl) trivial (mq 4 rfl) (.inl rfl) rfl row_api_Form rfl (sqo 2) (fun v w h => h)
 ·exact q_addr (b := b2) (off := 0) (off' := 0) hp (free_of rfl) trivial (sqo 3) (fun ρ w h => by simp [execOp, go_sem, h]) (fun _ => rfl)
 ·exact q_loadSt (off := 0) (l := 2) (fs := [.n x1, .n x2, .n x3, .n x4]) (gs := [.n x1]) hp (free_of rfl) trivial (mq 3 rfl) (.inl rfl) rfl row_api_Int rfl (sqi 1) (fun v w h => st_num h)
 ·exact q_addr (b := b2) (off := 0) (off' := 4) hp (free_of rfl) trivial (sqo 3) (fun ρ w h => by simp [execOp, go_sem, h]) (fun _ => rfl)
 ·exact q_loadSt (off := 4) (l := 2) (fs := [.n x1, .n x2, .n x3, .n x4]) (gs := [.n x3]) hp (free_of rfl) trivial (mq 3 rfl) (.inl rfl) rfl row_api_Int rfl (sqi 3) (fun v w h => st_num h)
 ·exact q_call3 (F := (Fq.st [.n a, .n b, .n c]).P) (G := (Fq.num x1).P) (F3 := (Fq.num x3).P) hp (free_of rfl) trivial (enq_f_algorist_quadratic_Value) (sqi 0) (sqi 2) (sqi 4) (fun v v' u w h h' g => exPValue h h' g ha.out hb.out hc.out hx1.out hx3.out)
 ·exact q_loadInt (off := 0) hp (free_of rfl) trivial (mq 1 rfl) (.inl rfl) (Nat.le_of_ble_eq_true rfl) (sqo 5) (fun us w hl h => ld_num hl h)
 ·exact q_addr (b := b2) (off := 0) (off' := 2) hp (free_of rfl) trivial (sqo 3) (fun ρ w h => by simp [execOp, go_sem, h]) (fun _ => rfl)
 ·exact q_loadSt (off := 2) (l := 2) (fs := [.n x1, .n x2, .n x3, .n x4]) (gs := [.n x2]) hp (free_of rfl) trivial (mq 3 rfl) (.inl rfl) rfl row_api_Int rfl (sqi 7) (fun v w h => st_num h)
 ·exact q_call2 (F := (Fq.num ((2 * (a * x1)) + (b * x3))).P) (G := (Fq.num x2).P) hp (free_of rfl) trivial (enq_Mul) (sqi 6) (sqi 8) (fun v v' w h h' => exK (MulV h h') B14.out (by omega))
 ·exact q_loadInt (off := 0) hp (free_of rfl) trivial (mq 0 rfl) (.inl rfl) (Nat.le_of_ble_eq_true rfl) (sqo 6) (fun us w hl h => ld_num hl h)
 ·exact q_addr (b := b2) (off := 0) (off' := 6) hp (free_of rfl) trivial (sqo 3) (fun ρ w h => by simp [execOp, go_sem, h]) (fun _ => rfl)
 ·exact q_loadSt (off := 6) (l := 2) (fs := [.n x1, .n x2, .n x3, .n x4]) (gs := [.n x4]) hp (free_of rfl) trivial (mq 3 rfl) (.inl rfl) rfl row_api_Int rfl (sqi 11) (fun v w h => st_num h)
 ·exact q_call2 (F := (Fq.num ((b * x1) + (2 * (c * x3)))).P) (G := (Fq.num x4).P) hp (free_of rfl) trivial (enq_Mul) (sqi 10) (sqi 12) (fun v v' w h h' => exK (MulV h h') B15.out (by omega))
 ·exact q_call2 (F := (Fq.num (((2 * (a * x1)) + (b * x3)) * x2)).P) (G := (Fq.num (((b * x1) + (2 * (c * x3))) * x4)).P) hp (free_of rfl) trivial (enq_Add) (sqi 9) (sqi 13) (fun v v' w h h' => exK (AddV h h') B16.out (by omega))
 ·exact q_loadSt (off := 0) (l := 6) (fs := [.n a, .n b, .n c]) (gs := [.n a, .n b, .n c]) hp (free_of rfl) trivial (mq 4 rfl) (.inl rfl) rfl row_api_Form rfl (sqo 2) (fun v w h => h)
 ·exact q_addr (b := b2) (off := 0) (off' := 2) hp (free_of rfl) trivial (sqo 3) (fun ρ w h => by simp [execOp, go_sem, h]) (fun _ => rfl)
 ·exact q_loadSt (off := 2) (l := 2) (fs := [.n x1, .n x2, .n x3, .n x4]) (gs := [.n x2]) hp (free_of rfl) trivial (mq 3 rfl) (.inl rfl) rfl row_api_Int rfl (sqi 16) (fun v w h => st_num h)
 ·exact q_addr (b := b2) (off := 0) (off' := 6) hp (free_of rfl) trivial (sqo 3) (fun ρ w h => by simp [execOp, go_sem, h]) (fun _ => rfl)
 ·exact q_loadSt (off := 6) (l := 2) (fs := [.n x1, .n x2, .n x3, .n x4]) (gs := [.n x4]) hp (free_of rfl) trivial (mq 3 rfl) (.inl rfl) rfl row_api_Int rfl (sqi 18) (fun v w h => st_num h)
 ·exact q_call3 (F := (Fq.st [.n a, .n b, .n c]).P) (G := (Fq.num x2).P) (F3 := (Fq.num x4).P) hp (free_of rfl) trivial (enq_f_algorist_quadratic_Value) (sqi 15) (sqi 17) (sqi 19) (fun v v' u w h h' g => exPValue h h' g ha.out hb.out hc.out hx2.out hx4.out)
 ·exact q_build_api_Form_012 (z0 := (qv a b c x1 x3)) (z1 := ((((2 * (a * x1)) + (b * x3)) * x2) + (((b * x1) + (2 * (c * x3))) * x4))) (z2 := (qv a b c x2 x4)) hp (free_of rfl) trivial (sqi 5) (sqi 14) (sqi 20) (fun v w h => h)
 ·exact q_storeOldSt (off := 0) (fs := [.n 0, .n 0, .n 0]) (gs := [.n (qv a b c x1 x3), .n ((((2 * (a * x1)) + (b * x3)) * x2) + (((b * x1) + (2 * (c * x3))) * x4)), .n (qv a b c x2 x4)]) (fs' := [.n (qv a b c x1 x3), .n ((((2 * (a * x1)) + (b * x3)) * x2) + (((b * x1) + (2 * (c * x3))) * x4)), .n (qv a b c x2 x4)]) hp (mq 2 rfl) rfl rfl rfl size_api_Form rfl (sqo 4) (sq_in 21 rfl rfl (by simp) rfl (fun v w h => fitv_st h)) (fun _ _ => trivial) (newik_ne rfl)
 intro L vs w17 nb hL hC hn E17
 have e1 : vs 1 = .pointer (some ⟨b2, 0, none⟩) := hC 1 (by simp)
 have e3 : vs 3 = .pointer (some ⟨b2, 4, none⟩) := hC 3 (by simp)
 have e7 : vs 7 = .pointer (some ⟨b2, 2, none⟩) := hC 7 (by simp)
 have e11 : vs 11 = .pointer (some ⟨b2, 6, none⟩) := hC 11 (by simp)
 have e16 : vs 16 = .pointer (some ⟨b2, 2, none⟩) := hC 16 (by simp)
 have e18 : vs 18 = .pointer (some ⟨b2, 6, none⟩) := hC 18 (by simp)
 have E : Fr w [(b13_12, 2, Fq.num ((b * x1) + (2 * (c * x3)))), (b8_12, 2, Fq.num ((2 * (a * x1)) + (b * x3))), (b3, 6, Fq.st [.n (qv a b c x1 x3), .n ((((2 * (a * x1)) + (b * x3)) * x2) + (((b * x1) + (2 * (c * x3))) * x4)), .n (qv a b c x2 x4)]), (b2, 8, Fq.st [.n x1, .n x2, .n x3, .n x4]), (b1, 6, Fq.st [.n a, .n b, .n c])] w17 := E17
 rw [lay_all hL]
 simp only [putAll, dstOf, List.length_cons, List.length_nil, Nat.zero_add, Nat.reduceAdd, List.getElem?_toArray, List.getElem?_cons_zero, List.getElem?_cons_succ, Option.bind_some, Act.put, List.setIfInBounds_toArray, List.set_cons_succ, List.set_cons_zero]
 rw [e1, e3, e7, e11, e16, e18]
 generalize vs 0 = u17_0
 generalize vs 2 = u17_2
 generalize vs 4 = u17_4
 generalize vs 5 = u17_5
 generalize vs 6 = u17_6
 generalize vs 8 = u17_8
 generalize vs 9 = u17_9
 generalize vs 10 = u17_10
 generalize vs 12 = u17_12
 generalize vs 13 = u17_13
 generalize vs 14 = u17_14
 generalize vs 15 = u17_15
 generalize vs 17 = u17_17
 generalize vs 19 = u17_19
 generalize vs 20 = u17_20
 generalize vs 21 = u17_21
 clear e1 e3 e7 e11 e16 e18 hC hn E17 hL vs L nb
 obtain ⟨_, _, hc0, hf0⟩ := box_st (E.box 2 rfl)
 have hP0 := hf0
 obtain ⟨r0_p0, r0_q0, _, rfl, _r0_n0, r0_p1, r0_q1, _, rfl, _r0_n1, r0_p2, r0_q2, _, rfl, _r0_n2, rfl⟩ := hf0
 have c0_0 := hc0 0 (by simp)
 have c0_1 := hc0 1 (by simp)
 have c0_2 := hc0 2 (by simp)
 have c0_3 := hc0 3 (by simp)
 have c0_4 := hc0 4 (by simp)
 have c0_5 := hc0 5 (by simp)
 simp only [List.getD_cons_zero, List.getD_cons_succ] at c0_0 c0_1 c0_2 c0_3 c0_4 c0_5
 clear hc0
 clear B4 B5 B6 B7 B9 B10 B11 B12 B14 B15 B16 ha hb hc hx1 hx2 hx3 hx4
 go_wp2
 refine bodyPost_ret (v := .agg #[r0_p0, r0_q0, r0_p1, r0_q1, r0_p2, r0_q2]) ?_ rfl ⟨_, rfl, E.below, ⟨_, rfl, hP0⟩⟩
 simp [results, Try.results12, go_sem, c0_0, c0_1, c0_2, c0_3, c0_4, c0_5]

theorem qm_eqP (a b c x1 x2 x3 x4 : Int) : qm a b c x1 x2 x3 x4 = ((((2 * (a * x1)) + (b * x3)) * x2) + (((b * x1) + (2 * (c * x3))) * x4)) := by
 have h := PE.same [a, b, c, x1, x2, x3, x4] (.a (.m (.c 2) (.a (.m (.v 0) (.m (.v 3) (.v 4))) (.m (.v 2) (.m (.v 5) (.v 6))))) (.m (.v 1) (.a (.m (.v 3) (.v 6)) (.m (.v 4) (.v 5))))) (.a (.m (.a (.m (.c 2) (.m (.v 0) (.v 3))) (.m (.v 1) (.v 5))) (.v 4)) (.m (.a (.m (.v 1) (.v 3)) (.m (.c 2) (.m (.v 2) (.v 5)))) (.v 6))) (by decide +kernel)
 simp only [PE.den, List.getD_cons_zero, List.getD_cons_succ] at h
 exact h
theorem exPApply {w : World} {v v' : Value} {a b c x1 x2 x3 x4 : Int} (h : (Fq.st [.n a, .n b, .n c]).P v w) (h' : (Fq.st [.n x1, .n x2, .n x3, .n x4]).P v' w) (ha : ab a < pw 60) (hb : ab b < pw 60) (hc : ab c < pw 60) (hx1 : ab x1 < pw 60) (hx2 : ab x2 < pw 60) (hx3 : ab x3 < pw 60) (hx4 : ab x4 < pw 60) :
  Calls Try.prog 12 #[v, v'] w fun e w' => ∃ v', e = .returned v' ∧ Below w.heap.size w w' ∧ (Fq.st [.n (qv a b c x1 x3), .n (qm a b c x1 x2 x3 x4), .n (qv a b c x2 x4)]).P v' w' := by
 rw [qm_eqP]
 exact exPApply0 h h' ha hb hc hx1 hx2 hx3 hx4

set_option maxRecDepth 100000 in
set_option maxHeartbeats 4000000 in
theorem exPDet {w : World} {v : Value} {x1 x2 x3 x4 : Int} (h : (Fq.st [.n x1, .n x2, .n x3, .n x4]).P v w) (hx1 : ab x1 < pw 60) (hx2 : ab x2 < pw 60) (hx3 : ab x3 < pw 60) (hx4 : ab x4 < pw 60) :
  Calls Try.prog 19 #[v] w fun e w' => ∃ v', e = .returned v' ∧ Below w.heap.size w w' ∧ Num w' v' (((x1 * x4) - (x2 * x3))) := by
 replace hx1 := hidd hx1
 replace hx2 := hidd hx2
 replace hx3 := hidd hx3
 replace hx4 := hidd hx4
 obtain ⟨_, rfl, hf0⟩ := h
 have hF0 := hf0
 obtain ⟨y0_p0, y0_q0, _, rfl, _y0_n0, y0_p1, y0_q1, _, rfl, _y0_n1, y0_p2, y0_q2, _, rfl, _y0_n2, y0_p3, y0_q3, _, rfl, _y0_n3, rfl⟩ := hf0
 obtain ⟨w1, b1, hw1, hb1, hs1, E⟩ := fr_start w (F := Fq.st [.n x1, .n x2, .n x3, .n x4]) (us := [y0_p0, y0_q0, y0_p1, y0_q1, y0_p2, y0_q2, y0_p3, y0_q3]) 36 rfl (by simp) (hF0.tame) (show (Fq.st [.n x1, .n x2, .n x3, .n x4]).P _ w from ⟨_, rfl, hF0⟩)
 obtain ⟨w2, b2, hw2, hb2, hs2, E⟩ := fr_more E hs1 (F := Fq.num 0) (us := [.bool false, .slice none 0 0]) 31 rfl (by simp) (tame_int _ _ _ _) (Num.zero _)
 go_enter Try.func19, Try.ntmps19
 go_upto_region 1 with (fail)
 rw [← hw1]
 rw [← hw2]
 rw [← hb2]
 rw [← hb1]
 clear hw1 hw2 hb1 hb2 hs2 hs1
 have B3 : Hid (ab ((x1 * x4)) < pw 120) := ab_mulM hx1.out hx4.out (by omega)
 have B4 : Hid (ab ((x2 * x3)) < pw 120) := ab_mulM hx2.out hx3.out (by omega)
 have B5 : Hid (ab (((x1 * x4) - (x2 * x3))) < pw 121) := ab_subB B3.out B4.out (by omega) (by omega)
 refine region_fr (C := [Fq.is (.pointer (some ⟨b1, 0, none⟩)), Fq.num x1, Fq.is (.pointer (some ⟨b1, 6, none⟩)), Fq.num x4, Fq.num (x1 * x4), Fq.is (.pointer (some ⟨b1, 2, none⟩)), Fq.num x2, Fq.is (.pointer (some ⟨b1, 4, none⟩)), Fq.num x3, Fq.num (x2 * x3), Fq.num ((x1 * x4) - (x2 * x3)), Fq.any]) (ks := [some (11, Fq.num ((x1 * x4) - (x2 * x3))), none]) (new := []) E rfl (by kernel_rfl) rfl rfl (fun hp => ⟨?_, ?_, ?_, ?_, ?_, ?_, ?_, ?_, ?_, ?_, ?_, ?_, trivial⟩) ?_
 ·exact q_addr (b := b1) (off := 0) (off' := 0) hp (free_of rfl) trivial (sqo 1) (fun ρ w h => by simp [execOp, go_sem, h]) (fun _ => rfl)
 ·exact q_loadSt (off := 0) (l := 2) (fs := [.n x1, .n x2, .n x3, .n x4]) (gs := [.n x1]) hp (free_of rfl) trivial (mq 1 rfl) (.inl rfl) rfl row_api_Int rfl (sqi 0) (fun v w h => st_num h)
 ·exact q_addr (b := b1) (off := 0) (off' := 6) hp (free_of rfl) trivial (sqo 1) (fun ρ w h => by simp [execOp, go_sem, h]) (fun _ => rfl)
 ·exact q_loadSt (off := 6) (l := 2) (fs := [.n x1, .n x2, .n x3, .n x4]) (gs := [.n x4]) hp (free_of rfl) trivial (mq 1 rfl) (.inl rfl) rfl row_api_Int rfl (sqi 2) (fun v w h => st_num h)
 ·exact q_call2 (F := (Fq.num x1).P) (G := (Fq.num x4).P) hp (free_of rfl) trivial (enq_Mul) (sqi 1) (sqi 3) (fun v v' w h h' => exK (MulV h h') B3.out (by omega))
 ·exact q_addr (b := b1) (off := 0) (off' := 2) hp (free_of rfl) trivial (sqo 1) (fun ρ w h => by simp [execOp, go_sem, h]) (fun _ => rfl)
 ·exact q_loadSt (off := 2) (l := 2) (fs := [.n x1, .n x2, .n x3, .n x4]) (gs := [.n x2]) hp (free_of rfl) trivial (mq 1 rfl) (.inl rfl) rfl row_api_Int rfl (sqi 5) (fun v w h => st_num h)
 ·exact q_addr (b := b1) (off := 0) (off' := 4) hp (free_of rfl) trivial (sqo 1) (fun ρ w h => by simp [execOp, go_sem, h]) (fun _ => rfl)
 ·exact q_loadSt (off := 4) (l := 2) (fs := [.n x1, .n x2, .n x3, .n x4]) (gs := [.n x3]) hp (free_of rfl) trivial (mq 1 rfl) (.inl rfl) rfl row_api_Int rfl (sqi 7) (fun v w h => st_num h)
 ·exact q_call2 (F := (Fq.num x2).P) (G := (Fq.num x3).P) hp (free_of rfl) trivial (enq_Mul) (sqi 6) (sqi 8) (fun v v' w h h' => exK (MulV h h') B4.out (by omega))
 ·exact q_call2 (F := (Fq.num (x1 * x4)).P) (G := (Fq.num (x2 * x3)).P) hp (free_of rfl) trivial (enq_Sub) (sqi 4) (sqi 9) (fun v v' w h h' => exK (SubV h h') B5.out (by omega))
 ·exact q_storeOldInt hp (mq 0 rfl) rfl rfl (sqo 2) (sq_in 10 rfl rfl (by simp) rfl (fun v w h => intV_num h)) (fun _ _ => trivial) (newik_ne rfl)
 intro L vs w6 nb hL hC hn E6
 have e0 : vs 0 = .pointer (some ⟨b1, 0, none⟩) := hC 0 (by simp)
 have e2 : vs 2 = .pointer (some ⟨b1, 6, none⟩) := hC 2 (by simp)
 have e5 : vs 5 = .pointer (some ⟨b1, 2, none⟩) := hC 5 (by simp)
 have e7 : vs 7 = .pointer (some ⟨b1, 4, none⟩) := hC 7 (by simp)
 have E : Fr w [(b2, 2, Fq.num ((x1 * x4) - (x2 * x3))), (b1, 8, Fq.st [.n x1, .n x2, .n x3, .n x4])] w6 := E6
 rw [lay_all hL]
 simp only [putAll, dstOf, List.length_cons, List.length_nil, Nat.zero_add, Nat.reduceAdd, List.getElem?_toArray, List.getElem?_cons_zero, List.getElem?_cons_succ, Option.bind_some, Act.put, List.setIfInBounds_toArray, List.set_cons_succ, List.set_cons_zero]
 rw [e0, e2, e5, e7]
 generalize vs 1 = u6_1
 generalize vs 3 = u6_3
 generalize vs 4 = u6_4
 generalize vs 6 = u6_6
 generalize vs 8 = u6_8
 generalize vs 9 = u6_9
 generalize vs 10 = u6_10
 clear e0 e2 e5 e7 hC hn E6 hL vs L nb
 obtain ⟨p0_0, p0_1, c0_0, c0_1, hP0⟩ := box_num (E.box 0 rfl)
 clear B3 B4 B5 hx1 hx2 hx3 hx4
 go_wp2
 refine bodyPost_ret (v := .agg #[p0_0, p0_1]) ?_ rfl ⟨_, rfl, E.below, hP0⟩
 simp [results, Try.results19, go_sem, c0_0, c0_1]

set_option maxRecDepth 100000 in
set_option maxHeartbeats 4000000 in
theorem exPPrinc_s {w : World} {v : Value} {d : Int} (h : Num w v d) (hd : ab d < pw 40) (hr : ¬ 1 < d % 4) (hq : sqB d = true) :
  Calls Try.prog 38 #[v] w fun e w' => ∃ v', e = .returned v' ∧ Below w.heap.size w w' ∧ (Fq.tup2 (Fq.st [.n 0, .n 0, .n 0]) (Fq.is (.int .i64 5))).P v' w' := by
 replace hd := hidd hd
 have HR4 : Hid (0 ≤ d % 4 ∧ d % 4 < 4) := by show _ ∧ _; omega
 have BR : Hid (ab (d % 4) < pw 3) := ab_i64 (by omega) (by omega)
 have H4 : Hid ((4 : Int) ≠ 0) := by show _ ≠ _; decide
 have T1 : Hid (¬ 0 < cmpI (d % 4) 1) := fun e => hr (cmpIqgt.1 e)
 clear hr
 have HQ := hidd hq
 clear hq
 obtain ⟨n0, ao0, k0, c0, rfl⟩ := h.parts
 obtain ⟨w1, b1, hw1, hb1, hs1, E⟩ := fr_start w (F := Fq.num d) (us := [.bool n0, .slice ao0 k0 c0]) 31 rfl (by simp) (tame_int _ _ _ _) h
 obtain ⟨w2, b2, hw2, hb2, hs2, E⟩ := fr_more E hs1 (F := Fq.st [.n 0, .n 0, .n 0]) (us := [.bool false, .slice none 0 0, .bool false, .slice none 0 0, .bool false, .slice none 0 0]) 33 rfl (by simp) ((Fits.tame (fits0_api_Form w))) (fits0P_api_Form _)
 go_enter Try.func38, Try.ntmps38
 go_upto_region 1 with (fail)
 rw [← hw1]
 rw [← hw2]
 rw [← hb2]
 rw [← hb1]
 clear hw1 hw2 hb1 hb2 hs2 hs1
 have B3 : Hid (ab ((4)) < pw 3) := ab_lit (by decide)
 have B4 : Hid (ab ((d / 4)) < pw 41) := ab_divB hd.out (by omega)
 refine region_fr (C := [Fq.num d, Fq.num (4), Fq.tup3 (Fq.num (d / 4)) (Fq.num (d % 4)) (Fq.is (.int .i64 0)), Fq.tup3 (Fq.num (d / 4)) (Fq.num (d % 4)) (Fq.is (.int .i64 0)), Fq.num (d / 4), Fq.num (d % 4), Fq.is (.int .i64 0), Fq.any, Fq.any, Fq.any, Fq.any, Fq.is (.int .i64 0)]) (ks := [none, none]) (new := [⟨7, 9, 2, Fq.num 0, Fq.num (d / 4), none⟩, ⟨8, 10, 2, Fq.num 0, Fq.num (d % 4), none⟩]) E rfl (by kernel_rfl) rfl rfl (fun hp => ⟨?_, ?_, ?_, ?_, ?_, ?_, ?_, ?_, ?_, ?_, ?_, ?_, trivial⟩) ?_
 ·exact q_loadInt (off := 0) hp (free_of rfl) trivial (mq 1 rfl) (.inl rfl) (Nat.le_of_ble_eq_true rfl) (sqo 1) (fun us w hl h => ld_num hl h)
 ·exact q_call1 (F := (Fq.is (.int .i64 4)).P) hp (free_of rfl) trivial (enq_Of) (sq_const (fun _ => rfl)) (fun v w h => (by subst h; exact OfK w (4) (by omega) (by omega)))
 ·exact q_call2 (F := (Fq.num d).P) (G := (Fq.num (4)).P) hp (free_of rfl) trivial (enq_DivMod) (sqi 0) (sqi 1) (fun v v' w h h' => exDMq h h' H4.out B4.out BR.out (by omega) (by omega))
 ·exact q_move hp (free_of rfl) trivial (sqi 2)
 ·exact q_extract3 hp (free_of rfl) trivial (sqi 3) (fun v1 v2 v3 w h1 h2 h3 => ⟨_, rfl, h1⟩)
 ·exact q_extract3 hp (free_of rfl) trivial (sqi 3) (fun v1 v2 v3 w h1 h2 h3 => ⟨_, rfl, h2⟩)
 ·exact q_extract3 hp (free_of rfl) trivial (sqi 3) (fun v1 v2 v3 w h1 h2 h3 => ⟨_, rfl, h3⟩)
 ·exact q_allocInt hp (mq 0 rfl) rfl rfl rfl rfl (Nat.ne_of_beq_eq_false rfl) (fun _ _ => trivial) (old_ne rfl) (newk_ne rfl) (fun w => Num.zero w)
 ·exact q_allocInt hp (mq 1 rfl) rfl rfl rfl rfl (Nat.ne_of_beq_eq_false rfl) (fun _ _ => trivial) (old_ne rfl) (newk_ne rfl) (fun w => Num.zero w)
 ·exact q_storeNewInt hp (mq 0 rfl) rfl rfl rfl (own_ptr rfl rfl (by simp) rfl) (sq_in 4 rfl rfl (by simp) rfl (fun v w h => intV_num h)) (fun _ _ => trivial) (old_ne rfl) (newi_ne rfl)
 ·exact q_storeNewInt hp (mq 1 rfl) rfl rfl rfl (own_ptr rfl rfl (by simp) rfl) (sq_in 5 rfl rfl (by simp) rfl (fun v w h => intV_num h)) (fun _ _ => trivial) (old_ne rfl) (newi_ne rfl)
 ·exact q_assign hp (free_of rfl) trivial (sqi 6)
 intro L vs w5 nb hL hC hn E5
 have e6 : vs 6 = .int .i64 0 := hC 6 (by simp)
 have e11 : vs 11 = .int .i64 0 := hC 11 (by simp)
 have e7 : vs 7 = .pointer (some ⟨nb 7, 0, none⟩) := hn _ (mq 0 rfl)
 have e8 : vs 8 = .pointer (some ⟨nb 8, 0, none⟩) := hn _ (mq 1 rfl)
 have E : Fr w [(nb 7, 2, Fq.num (d / 4)), (nb 8, 2, Fq.num (d % 4)), (b2, 6, Fq.st [.n 0, .n 0, .n 0]), (b1, 2, Fq.num d)] w5 := E5
 rw [lay_all hL]
 simp only [putAll, dstOf, List.length_cons, List.length_nil, Nat.zero_add, Nat.reduceAdd, List.getElem?_toArray, List.getElem?_cons_zero, List.getElem?_cons_succ, Option.bind_some, Act.put, List.setIfInBounds_toArray, List.set_cons_succ, List.set_cons_zero]
 rw [e6, e11, e7, e8]
 generalize nb 7 = b5_7 at E ⊢
 generalize nb 8 = b5_8 at E ⊢
 generalize vs 0 = u5_0
 generalize vs 1 = u5_1
 generalize vs 2 = u5_2
 generalize vs 3 = u5_3
 generalize vs 4 = u5_4
 generalize vs 5 = u5_5
 clear e6 e11 e7 e8 hC hn E5 hL vs L nb
 go_upto_region 2 with (fail)
 have B6 : Hid (ab ((1)) < pw 3) := ab_lit (by decide)
 refine region_fr (C := [Fq.num (d % 4), Fq.num (1), Fq.is (.int .i64 (cmpI (d % 4) (1))), Fq.is (.bool false), Fq.is (.bool false), Fq.num d, Fq.is (.bool true), Fq.is (.bool true)]) (ks := [none, none, none, none]) (new := []) E rfl (by kernel_rfl) rfl rfl (fun hp => ⟨?_, ?_, ?_, ?_, ?_, ?_, ?_, ?_, trivial⟩) ?_
 ·exact q_loadInt (off := 0) hp (free_of rfl) trivial (mq 1 rfl) (.inl rfl) (Nat.le_of_ble_eq_true rfl) (sqo 5) (fun us w hl h => ld_num hl h)
 ·exact q_call1 (F := (Fq.is (.int .i64 1)).P) hp (free_of rfl) trivial (enq_Of) (sq_const (fun _ => rfl)) (fun v w h => (by subst h; exact OfK w (1) (by omega) (by omega)))
 ·exact q_call2 (F := (Fq.num (d % 4)).P) (G := (Fq.num (1)).P) hp (free_of rfl) trivial (enq_Cmp) (sqi 0) (sqi 1) (fun v v' w h h' => exCmp h h')
 ·exact q_one (F := fun v _ => v = .int .i64 (cmpI (d % 4) (1))) hp (free_of rfl) trivial (sqi 2) (fun ρ w hc h => ⟨.bool false, by simp [execOp, go_sem, h, hc, T1.out], rfl⟩)
 ·exact q_move hp (free_of rfl) trivial (sqi 3)
 ·exact q_loadInt (off := 0) hp (free_of rfl) gqi (mq 3 rfl) (.inl rfl) (Nat.le_of_ble_eq_true rfl) (sqo 1) (fun us w hl h => ld_num hl h)
 ·exact q_call1 (F := (Fq.num d).P) hp (free_of rfl) gqi (enq_f_algorist_quadratic_isSquare) (sqi 5) (fun v w h => exPIsSq h hd.out HQ.out)
 ·exact q_two (F := fun v _ => v = .bool false) (G := fun v _ => v = .bool true) hp (free_of rfl) trivial (sqi 4) (sqi 6) (fun ρ w hc h h' => ⟨_, by simp [execOp, go_sem, h, h'], rfl⟩)
 intro L vs w7 nb hL hC hn E7
 have e2 : vs 2 = .int .i64 (cmpI (d % 4) (1)) := hC 2 (by simp)
 have e3 : vs 3 = .bool false := hC 3 (by simp)
 have e4 : vs 4 = .bool false := hC 4 (by simp)
 have e6 : vs 6 = .bool true := hC 6 (by simp)
 have e7 : vs 7 = .bool true := hC 7 (by simp)
 have E : Fr w [(b5_7, 2, Fq.num (d / 4)), (b5_8, 2, Fq.num (d % 4)), (b2, 6, Fq.st [.n 0, .n 0, .n 0]), (b1, 2, Fq.num d)] w7 := E7
 rw [lay_all hL]
 simp only [putAll, dstOf, List.length_cons, List.length_nil, Nat.zero_add, Nat.reduceAdd, List.getElem?_toArray, List.getElem?_cons_zero, List.getElem?_cons_succ, Option.bind_some, Act.put, List.setIfInBounds_toArray, List.set_cons_succ, List.set_cons_zero]
 rw [e2, e3, e4, e6, e7]
 generalize vs 0 = u7_0
 generalize vs 1 = u7_1
 generalize vs 5 = u7_5
 clear e2 e3 e4 e6 e7 hC hn E7 hL vs L nb
 go_upto_region 3 with (fail)
 refine region_fr (C := [Fq.st [.n 0, .n 0, .n 0], Fq.any, Fq.is (.int .i64 5)]) (ks := [none, none, some (1, Fq.st [.n 0, .n 0, .n 0]), none]) (new := []) E rfl (by kernel_rfl) rfl rfl (fun hp => ⟨?_, ?_, ?_, trivial⟩) ?_
 ·exact q_build_api_Form_ hp (free_of rfl) trivial (fun v w h => h)
 ·exact q_storeOldSt (off := 0) (fs := [.n 0, .n 0, .n 0]) (gs := [.n 0, .n 0, .n 0]) (fs' := [.n 0, .n 0, .n 0]) hp (mq 2 rfl) rfl rfl rfl size_api_Form rfl (sqo 2) (sq_in 0 rfl rfl (by simp) rfl (fun v w h => fitv_st h)) (fun _ _ => trivial) (newik_ne rfl)
 ·exact q_assign hp (free_of rfl) trivial (sq_const (fun _ => rfl))
 intro L vs w8 nb hL hC hn E8
 have e2 : vs 2 = .int .i64 5 := hC 2 (by simp)
 have E : Fr w [(b5_7, 2, Fq.num (d / 4)), (b5_8, 2, Fq.num (d % 4)), (b2, 6, Fq.st [.n 0, .n 0, .n 0]), (b1, 2, Fq.num d)] w8 := E8
 rw [lay_all hL]
 simp only [putAll, dstOf, List.length_cons, List.length_nil, Nat.zero_add, Nat.reduceAdd, List.getElem?_toArray, List.getElem?_cons_zero, List.getElem?_cons_succ, Option.bind_some, Act.put, List.setIfInBounds_toArray, List.set_cons_succ, List.set_cons_zero]
 rw [e2]
 generalize vs 0 = u8_0
 clear e2 hC hn E8 hL vs L nb
 clear HR4 H4 HQ T1
 obtain ⟨_, _, hcc, hff⟩ := box_st (E.box 2 rfl)
 have hR2 := hff
 obtain ⟨r_p0, r_q0, _, rfl, _r_n0, r_p1, r_q1, _, rfl, _r_n1, r_p2, r_q2, _, rfl, _r_n2, rfl⟩ := hff
 have c0 := hcc 0 (by simp)
 have c1 := hcc 1 (by simp)
 have c2 := hcc 2 (by simp)
 have c3 := hcc 3 (by simp)
 have c4 := hcc 4 (by simp)
 have c5 := hcc 5 (by simp)
 simp only [List.getD_cons_zero, List.getD_cons_succ] at c0 c1 c2 c3 c4 c5
 clear hcc
 clear B3 B4 B6 hd BR
 go_wp2
 refine bodyPost_ret (v := .tuple #[.agg #[r_p0, r_q0, r_p1, r_q1, r_p2, r_q2], .int .i64 5]) ?_ rfl ⟨_, rfl, E.below, _, _, rfl, ⟨_, rfl, hR2⟩, rfl⟩
 simp [results, Try.results38, go_sem, c0, c1, c2, c3, c4, c5]

set_option maxRecDepth 100000 in
set_option maxHeartbeats 4000000 in
theorem exPPrinc_ok {w : World} {v : Value} {d : Int} (h : Num w v d) (hd : ab d < pw 40) (hr : ¬ 1 < d % 4) (hq : sqB d = false) :
  Calls Try.prog 38 #[v] w fun e w' => ∃ v', e = .returned v' ∧ Below w.heap.size w w' ∧ (Fq.tup2 (Fq.st [.n 1, .n (d % 4), .n (-(d / 4))]) (Fq.is (.int .i64 0))).P v' w' := by
 replace hd := hidd hd
 have HR4 : Hid (0 ≤ d % 4 ∧ d % 4 < 4) := by show _ ∧ _; omega
 have BR : Hid (ab (d % 4) < pw 3) := ab_i64 (by omega) (by omega)
 have H4 : Hid ((4 : Int) ≠ 0) := by show _ ≠ _; decide
 have T1 : Hid (¬ 0 < cmpI (d % 4) 1) := fun e => hr (cmpIqgt.1 e)
 clear hr
 have HQ := hidd hq
 clear hq
 obtain ⟨n0, ao0, k0, c0, rfl⟩ := h.parts
 obtain ⟨w1, b1, hw1, hb1, hs1, E⟩ := fr_start w (F := Fq.num d) (us := [.bool n0, .slice ao0 k0 c0]) 31 rfl (by simp) (tame_int _ _ _ _) h
 obtain ⟨w2, b2, hw2, hb2, hs2, E⟩ := fr_more E hs1 (F := Fq.st [.n 0, .n 0, .n 0]) (us := [.bool false, .slice none 0 0, .bool false, .slice none 0 0, .bool false, .slice none 0 0]) 33 rfl (by simp) ((Fits.tame (fits0_api_Form w))) (fits0P_api_Form _)
 go_enter Try.func38, Try.ntmps38
 go_upto_region 1 with (fail)
 rw [← hw1]
 rw [← hw2]
 rw [← hb2]
 rw [← hb1]
 clear hw1 hw2 hb1 hb2 hs2 hs1
 have B3 : Hid (ab ((4)) < pw 3) := ab_lit (by decide)
 have B4 : Hid (ab ((d / 4)) < pw 41) := ab_divB hd.out (by omega)
 refine region_fr (C := [Fq.num d, Fq.num (4), Fq.tup3 (Fq.num (d / 4)) (Fq.num (d % 4)) (Fq.is (.int .i64 0)), Fq.tup3 (Fq.num (d / 4)) (Fq.num (d % 4)) (Fq.is (.int .i64 0)), Fq.num (d / 4), Fq.num (d % 4), Fq.is (.int .i64 0), Fq.any, Fq.any, Fq.any, Fq.any, Fq.is (.int .i64 0)]) (ks := [none, none]) (new := [⟨7, 9, 2, Fq.num 0, Fq.num (d / 4), none⟩, ⟨8, 10, 2, Fq.num 0, Fq.num (d % 4), none⟩]) E rfl (by kernel_rfl) rfl rfl (fun hp => ⟨?_, ?_, ?_, ?_, ?_, ?_, ?_, ?_, ?_, ?_, ?_, ?_, trivial⟩) ?_
 ·exact q_loadInt (off := 0) hp (free_of rfl) trivial (mq 1 rfl) (.inl rfl) (Nat.le_of_ble_eq_true rfl) (sqo 1) (fun us w hl h => ld_num hl h)
 ·exact q_call1 (F := (Fq.is (.int .i64 4)).P) hp (free_of rfl) trivial (enq_Of) (sq_const (fun _ => rfl)) (fun v w h => (by subst h; exact OfK w (4) (by omega) (by omega)))
 ·exact q_call2 (F := (Fq.num d).P) (G := (Fq.num (4)).P) hp (free_of rfl) trivial (enq_DivMod) (sqi 0) (sqi 1) (fun v v' w h h' => exDMq h h' H4.out B4.out BR.out (by omega) (by omega))
 ·exact q_move hp (free_of rfl) trivial (sqi 2)
 ·exact q_extract3 hp (free_of rfl) trivial (sqi 3) (fun v1 v2 v3 w h1 h2 h3 => ⟨_, rfl, h1⟩)
 ·exact q_extract3 hp (free_of rfl) trivial (sqi 3) (fun v1 v2 v3 w h1 h2 h3 => ⟨_, rfl, h2⟩)
 ·exact q_extract3 hp (free_of rfl) trivial (sqi 3) (fun v1 v2 v3 w h1 h2 h3 => ⟨_, rfl, h3⟩)
 ·exact q_allocInt hp (mq 0 rfl) rfl rfl rfl rfl (Nat.ne_of_beq_eq_false rfl) (fun _ _ => trivial) (old_ne rfl) (newk_ne rfl) (fun w => Num.zero w)
 ·exact q_allocInt hp (mq 1 rfl) rfl rfl rfl rfl (Nat.ne_of_beq_eq_false rfl) (fun _ _ => trivial) (old_ne rfl) (newk_ne rfl) (fun w => Num.zero w)
 ·exact q_storeNewInt hp (mq 0 rfl) rfl rfl rfl (own_ptr rfl rfl (by simp) rfl) (sq_in 4 rfl rfl (by simp) rfl (fun v w h => intV_num h)) (fun _ _ => trivial) (old_ne rfl) (newi_ne rfl)
 ·exact q_storeNewInt hp (mq 1 rfl) rfl rfl rfl (own_ptr rfl rfl (by simp) rfl) (sq_in 5 rfl rfl (by simp) rfl (fun v w h => intV_num h)) (fun _ _ => trivial) (old_ne rfl) (newi_ne rfl)
 ·exact q_assign hp (free_of rfl) trivial (sqi 6)
 intro L vs w5 nb hL hC hn E5
 have e6 : vs 6 = .int .i64 0 := hC 6 (by simp)
 have e11 : vs 11 = .int .i64 0 := hC 11 (by simp)
 have e7 : vs 7 = .pointer (some ⟨nb 7, 0, none⟩) := hn _ (mq 0 rfl)
 have e8 : vs 8 = .pointer (some ⟨nb 8, 0, none⟩) := hn _ (mq 1 rfl)
 have E : Fr w [(nb 7, 2, Fq.num (d / 4)), (nb 8, 2, Fq.num (d % 4)), (b2, 6, Fq.st [.n 0, .n 0, .n 0]), (b1, 2, Fq.num d)] w5 := E5
 rw [lay_all hL]
 simp only [putAll, dstOf, List.length_cons, List.length_nil, Nat.zero_add, Nat.reduceAdd, List.getElem?_toArray, List.getElem?_cons_zero, List.getElem?_cons_succ, Option.bind_some, Act.put, List.setIfInBounds_toArray, List.set_cons_succ, List.set_cons_zero]
 rw [e6, e11, e7, e8]
 generalize nb 7 = b5_7 at E ⊢
 generalize nb 8 = b5_8 at E ⊢
 generalize vs 0 = u5_0
 generalize vs 1 = u5_1
 generalize vs 2 = u5_2
 generalize vs 3 = u5_3
 generalize vs 4 = u5_4
 generalize vs 5 = u5_5
 clear e6 e11 e7 e8 hC hn E5 hL vs L nb
 go_upto_region 2 with (fail)
 have B6 : Hid (ab ((1)) < pw 3) := ab_lit (by decide)
 refine region_fr (C := [Fq.num (d % 4), Fq.num (1), Fq.is (.int .i64 (cmpI (d % 4) (1))), Fq.is (.bool false), Fq.is (.bool false), Fq.num d, Fq.is (.bool false), Fq.is (.bool false)]) (ks := [none, none, none, none]) (new := []) E rfl (by kernel_rfl) rfl rfl (fun hp => ⟨?_, ?_, ?_, ?_, ?_, ?_, ?_, ?_, trivial⟩) ?_
 ·exact q_loadInt (off := 0) hp (free_of rfl) trivial (mq 1 rfl) (.inl rfl) (Nat.le_of_ble_eq_true rfl) (sqo 5) (fun us w hl h => ld_num hl h)
 ·exact q_call1 (F := (Fq.is (.int .i64 1)).P) hp (free_of rfl) trivial (enq_Of) (sq_const (fun _ => rfl)) (fun v w h => (by subst h; exact OfK w (1) (by omega) (by omega)))
 ·exact q_call2 (F := (Fq.num (d % 4)).P) (G := (Fq.num (1)).P) hp (free_of rfl) trivial (enq_Cmp) (sqi 0) (sqi 1) (fun v v' w h h' => exCmp h h')
 ·exact q_one (F := fun v _ => v = .int .i64 (cmpI (d % 4) (1))) hp (free_of rfl) trivial (sqi 2) (fun ρ w hc h => ⟨.bool false, by simp [execOp, go_sem, h, hc, T1.out], rfl⟩)
 ·exact q_move hp (free_of rfl) trivial (sqi 3)
 ·exact q_loadInt (off := 0) hp (free_of rfl) gqi (mq 3 rfl) (.inl rfl) (Nat.le_of_ble_eq_true rfl) (sqo 1) (fun us w hl h => ld_num hl h)
 ·exact q_call1 (F := (Fq.num d).P) hp (free_of rfl) gqi (enq_f_algorist_quadratic_isSquare) (sqi 5) (fun v w h => exPIsSq h hd.out HQ.out)
 ·exact q_two (F := fun v _ => v = .bool false) (G := fun v _ => v = .bool false) hp (free_of rfl) trivial (sqi 4) (sqi 6) (fun ρ w hc h h' => ⟨_, by simp [execOp, go_sem, h, h'], rfl⟩)
 intro L vs w7 nb hL hC hn E7
 have e2 : vs 2 = .int .i64 (cmpI (d % 4) (1)) := hC 2 (by simp)
 have e3 : vs 3 = .bool false := hC 3 (by simp)
 have e4 : vs 4 = .bool false := hC 4 (by simp)
 have e6 : vs 6 = .bool false := hC 6 (by simp)
 have e7 : vs 7 = .bool false := hC 7 (by simp)
 have E : Fr w [(b5_7, 2, Fq.num (d / 4)), (b5_8, 2, Fq.num (d % 4)), (b2, 6, Fq.st [.n 0, .n 0, .n 0]), (b1, 2, Fq.num d)] w7 := E7
 rw [lay_all hL]
 simp only [putAll, dstOf, List.length_cons, List.length_nil, Nat.zero_add, Nat.reduceAdd, List.getElem?_toArray, List.getElem?_cons_zero, List.getElem?_cons_succ, Option.bind_some, Act.put, List.setIfInBounds_toArray, List.set_cons_succ, List.set_cons_zero]
 rw [e2, e3, e4, e6, e7]
 generalize vs 0 = u7_0
 generalize vs 1 = u7_1
 generalize vs 5 = u7_5
 clear e2 e3 e4 e6 e7 hC hn E7 hL vs L nb
 go_upto_region 4 with (fail)
 have B8 : Hid (ab ((-(d / 4))) < pw 41) := ab_negB B4.out
 refine region_fr (C := [Fq.num (1), Fq.num (d % 4), Fq.num (d / 4), Fq.num (-(d / 4)), Fq.st [.n (1), .n (d % 4), .n (-(d / 4))], Fq.any, Fq.is (.int .i64 0)]) (ks := [none, none, some (5, Fq.st [.n (1), .n (d % 4), .n (-(d / 4))]), none]) (new := []) E rfl (by kernel_rfl) rfl rfl (fun hp => ⟨?_, ?_, ?_, ?_, ?_, ?_, ?_, trivial⟩) ?_
 ·exact q_call1 (F := (Fq.is (.int .i64 1)).P) hp (free_of rfl) trivial (enq_Of) (sq_const (fun _ => rfl)) (fun v w h => (by subst h; exact OfK w (1) (by omega) (by omega)))
 ·exact q_loadInt (off := 0) hp (free_of rfl) trivial (mq 1 rfl) (.inl rfl) (Nat.le_of_ble_eq_true rfl) (sqo 5) (fun us w hl h => ld_num hl h)
 ·exact q_loadInt (off := 0) hp (free_of rfl) trivial (mq 0 rfl) (.inl rfl) (Nat.le_of_ble_eq_true rfl) (sqo 4) (fun us w hl h => ld_num hl h)
 ·exact q_call1 (F := (Fq.num (d / 4)).P) hp (free_of rfl) trivial (enq_Neg) (sqi 2) (fun v w h => exK (NegV h) B8.out (by omega))
 ·exact q_build_api_Form_012 (z0 := (1)) (z1 := (d % 4)) (z2 := (-(d / 4))) hp (free_of rfl) trivial (sqi 0) (sqi 1) (sqi 3) (fun v w h => h)
 ·exact q_storeOldSt (off := 0) (fs := [.n 0, .n 0, .n 0]) (gs := [.n (1), .n (d % 4), .n (-(d / 4))]) (fs' := [.n (1), .n (d % 4), .n (-(d / 4))]) hp (mq 2 rfl) rfl rfl rfl size_api_Form rfl (sqo 2) (sq_in 4 rfl rfl (by simp) rfl (fun v w h => fitv_st h)) (fun _ _ => trivial) (newik_ne rfl)
 ·exact q_assign hp (free_of rfl) trivial (sq_const (fun _ => rfl))
 intro L vs w9 nb hL hC hn E9
 have e6 : vs 6 = .int .i64 0 := hC 6 (by simp)
 have E : Fr w [(b5_7, 2, Fq.num (d / 4)), (b5_8, 2, Fq.num (d % 4)), (b2, 6, Fq.st [.n (1), .n (d % 4), .n (-(d / 4))]), (b1, 2, Fq.num d)] w9 := E9
 rw [lay_all hL]
 simp only [putAll, dstOf, List.length_cons, List.length_nil, Nat.zero_add, Nat.reduceAdd, List.getElem?_toArray, List.getElem?_cons_zero, List.getElem?_cons_succ, Option.bind_some, Act.put, List.setIfInBounds_toArray, List.set_cons_succ, List.set_cons_zero]
 rw [e6]
 generalize vs 0 = u9_0
 generalize vs 1 = u9_1
 generalize vs 2 = u9_2
 generalize vs 3 = u9_3
 generalize vs 4 = u9_4
 clear e6 hC hn E9 hL vs L nb
 clear HR4 H4 HQ T1
 obtain ⟨_, _, hcc, hff⟩ := box_st (E.box 2 rfl)
 have hR2 := hff
 obtain ⟨r_p0, r_q0, _, rfl, _r_n0, r_p1, r_q1, _, rfl, _r_n1, r_p2, r_q2, _, rfl, _r_n2, rfl⟩ := hff
 have c0 := hcc 0 (by simp)
 have c1 := hcc 1 (by simp)
 have c2 := hcc 2 (by simp)
 have c3 := hcc 3 (by simp)
 have c4 := hcc 4 (by simp)
 have c5 := hcc 5 (by simp)
 simp only [List.getD_cons_zero, List.getD_cons_succ] at c0 c1 c2 c3 c4 c5
 clear hcc
 clear B3 B4 B6 B8 hd BR
 go_wp2
 refine bodyPost_ret (v := .tuple #[.agg #[r_p0, r_q0, r_p1, r_q1, r_p2, r_q2], .int .i64 0]) ?_ rfl ⟨_, rfl, E.below, _, _, rfl, ⟨_, rfl, hR2⟩, rfl⟩
 simp [results, Try.results38, go_sem, c0, c1, c2, c3, c4, c5]

set_option maxRecDepth 100000 in
set_option maxHeartbeats 4000000 in
theorem exPIsRed_b {w : World} {v : Value} {a b c : Int} (h : (Fq.st [.n a, .n b, .n c]).P v w) (ha : ab a < pw 60) (hb : ab b < pw 60) (hc : ab c < pw 60) (hx : a < (Int.natAbs b : Int)) {t : Bool} (ht : redB a b c = t) :
  Calls Try.prog 58 #[v] w fun e w' => ∃ v', e = .returned v' ∧ Below w.heap.size w w' ∧ v' = .bool t := by
 replace ha := hidd ha
 replace hb := hidd hb
 replace hc := hidd hc
 have ht2 : t = false := ht.symm.trans (by unfold redB; exact decide_eq_false (by omega))
 subst ht2
 clear ht
 have T1 : Hid (0 < cmpI (Int.natAbs b : Int) a) := cmpIqgt.2 hx
 clear hx
 obtain ⟨_, rfl, hf0⟩ := h
 have hF0 := hf0
 obtain ⟨y0_p0, y0_q0, _, rfl, _y0_n0, y0_p1, y0_q1, _, rfl, _y0_n1, y0_p2, y0_q2, _, rfl, _y0_n2, rfl⟩ := hf0
 obtain ⟨w1, b1, hw1, hb1, hs1, E⟩ := fr_start w (F := Fq.st [.n a, .n b, .n c]) (us := [y0_p0, y0_q0, y0_p1, y0_q1, y0_p2, y0_q2]) 33 rfl (by simp) (hF0.tame) (show (Fq.st [.n a, .n b, .n c]).P _ w from ⟨_, rfl, hF0⟩)
 go_enter Try.func58, Try.ntmps58
 go_upto_region 1 with (fail)
 rw [← hw1]
 rw [← hb1]
 clear hw1 hb1 hs1
 have B2 : Hid (ab ((Int.natAbs b : Int)) < pw 60) := ab_absB hb.out
 refine region_fr (C := [Fq.is (.pointer (some ⟨b1, 2, none⟩)), Fq.num b, Fq.num (Int.natAbs b : Int), Fq.is (.pointer (some ⟨b1, 0, none⟩)), Fq.num a, Fq.is (.int .i64 (cmpI (Int.natAbs b : Int) a)), Fq.is (.pointer (some ⟨b1, 0, none⟩)), Fq.num a, Fq.is (.pointer (some ⟨b1, 4, none⟩)), Fq.num c, Fq.is (.int .i64 (cmpI a c)), Fq.is (.int .i64 (cmpI (Int.natAbs b : Int) a)), Fq.is (.int .i64 (cmpI a c))]) (ks := [none]) (new := []) E rfl (by kernel_rfl) rfl rfl (fun hp => ⟨?_, ?_, ?_, ?_, ?_, ?_, ?_, ?_, ?_, ?_, ?_, ?_, ?_, trivial⟩) ?_
 ·exact q_addr (b := b1) (off := 0) (off' := 2) hp (free_of rfl) trivial (sqo 1) (fun ρ w h => by simp [execOp, go_sem, h]) (fun _ => rfl)
 ·exact q_loadSt (off := 2) (l := 2) (fs := [.n a, .n b, .n c]) (gs := [.n b]) hp (free_of rfl) trivial (mq 0 rfl) (.inl rfl) rfl row_api_Int rfl (sqi 0) (fun v w h => st_num h)
 ·exact q_call1 (F := (Fq.num b).P) hp (free_of rfl) trivial (enq_Abs) (sqi 1) (fun v w h => exK (AbsV h) B2.out (by omega))
 ·exact q_addr (b := b1) (off := 0) (off' := 0) hp (free_of rfl) trivial (sqo 1) (fun ρ w h => by simp [execOp, go_sem, h]) (fun _ => rfl)
 ·exact q_loadSt (off := 0) (l := 2) (fs := [.n a, .n b, .n c]) (gs := [.n a]) hp (free_of rfl) trivial (mq 0 rfl) (.inl rfl) rfl row_api_Int rfl (sqi 3) (fun v w h => st_num h)
 ·exact q_call2 (F := (Fq.num (Int.natAbs b : Int)).P) (G := (Fq.num a).P) hp (free_of rfl) trivial (enq_Cmp) (sqi 2) (sqi 4) (fun v v' w h h' => exCmp h h')
 ·exact q_addr (b := b1) (off := 0) (off' := 0) hp (free_of rfl) trivial (sqo 1) (fun ρ w h => by simp [execOp, go_sem, h]) (fun _ => rfl)
 ·exact q_loadSt (off := 0) (l := 2) (fs := [.n a, .n b, .n c]) (gs := [.n a]) hp (free_of rfl) trivial (mq 0 rfl) (.inl rfl) rfl row_api_Int rfl (sqi 6) (fun v w h => st_num h)
 ·exact q_addr (b := b1) (off := 0) (off' := 4) hp (free_of rfl) trivial (sqo 1) (fun ρ w h => by simp [execOp, go_sem, h]) (fun _ => rfl)
 ·exact q_loadSt (off := 4) (l := 2) (fs := [.n a, .n b, .n c]) (gs := [.n c]) hp (free_of rfl) trivial (mq 0 rfl) (.inl rfl) rfl row_api_Int rfl (sqi 8) (fun v w h => st_num h)
 ·exact q_call2 (F := (Fq.num a).P) (G := (Fq.num c).P) hp (free_of rfl) trivial (enq_Cmp) (sqi 7) (sqi 9) (fun v v' w h h' => exCmp h h')
 ·exact q_assign hp (free_of rfl) trivial (sqi 5)
 ·exact q_assign hp (free_of rfl) trivial (sqi 10)
 intro L vs w3 nb hL hC hn E3
 have e0 : vs 0 = .pointer (some ⟨b1, 2, none⟩) := hC 0 (by simp)
 have e3 : vs 3 = .pointer (some ⟨b1, 0, none⟩) := hC 3 (by simp)
 have e5 : vs 5 = .int .i64 (cmpI (Int.natAbs b : Int) a) := hC 5 (by simp)
 have e6 : vs 6 = .pointer (some ⟨b1, 0, none⟩) := hC 6 (by simp)
 have e8 : vs 8 = .pointer (some ⟨b1, 4, none⟩) := hC 8 (by simp)
 have e10 : vs 10 = .int .i64 (cmpI a c) := hC 10 (by simp)
 have e11 : vs 11 = .int .i64 (cmpI (Int.natAbs b : Int) a) := hC 11 (by simp)
 have e12 : vs 12 = .int .i64 (cmpI a c) := hC 12 (by simp)
 have E : Fr w [(b1, 6, Fq.st [.n a, .n b, .n c])] w3 := E3
 rw [lay_all hL]
 simp only [putAll, dstOf, List.length_cons, List.length_nil, Nat.zero_add, Nat.reduceAdd, List.getElem?_toArray, List.getElem?_cons_zero, List.getElem?_cons_succ, Option.bind_some, Act.put, List.setIfInBounds_toArray, List.set_cons_succ, List.set_cons_zero]
 rw [e0, e3, e5, e6, e8, e10, e11, e12]
 generalize vs 1 = u3_1
 generalize vs 2 = u3_2
 generalize vs 4 = u3_4
 generalize vs 7 = u3_7
 generalize vs 9 = u3_9
 clear e0 e3 e5 e6 e8 e10 e11 e12 hC hn E3 hL vs L nb
 go_upto_region 2 with (fail)
 refine region_fr (C := [Fq.is (.int .i64 (cmpI (Int.natAbs b : Int) a)), Fq.is (.bool true), Fq.is (.bool true), Fq.is (undef), Fq.is (undef), Fq.is (.bool true)]) (ks := [none]) (new := []) E rfl (by kernel_rfl) rfl rfl (fun hp => ⟨?_, ?_, ?_, ?_, ?_, ?_, trivial⟩) ?_
 ·exact q_move hp (free_of rfl) trivial (sqo 3)
 ·exact q_one (F := fun v _ => v = .int .i64 (cmpI (Int.natAbs b : Int) a)) hp (free_of rfl) trivial (sqi 0) (fun ρ w hc h => ⟨.bool true, by simp [execOp, go_sem, h, hc, T1.out], rfl⟩)
 ·exact q_move hp (free_of rfl) trivial (sqi 1)
 ·exact q_skip hp (free_of rfl) rfl gqi (fun _ => rfl)
 ·exact q_skip hp (free_of rfl) rfl gqi (fun _ => rfl)
 ·exact q_two (F := fun v _ => v = .bool true) (G := fun v _ => v = .bool true) hp (free_of rfl) trivial (sqi 2) (sq_const (fun _ => rfl)) (fun ρ w hc h h' => ⟨_, by simp [execOp, go_sem, h, h'], rfl⟩)
 intro L vs w4 nb hL hC hn E4
 have e0 : vs 0 = .int .i64 (cmpI (Int.natAbs b : Int) a) := hC 0 (by simp)
 have e1 : vs 1 = .bool true := hC 1 (by simp)
 have e2 : vs 2 = .bool true := hC 2 (by simp)
 have e3 : vs 3 = undef := hC 3 (by simp)
 have e4 : vs 4 = undef := hC 4 (by simp)
 have e5 : vs 5 = .bool true := hC 5 (by simp)
 have E : Fr w [(b1, 6, Fq.st [.n a, .n b, .n c])] w4 := E4
 rw [lay_all hL]
 simp only [putAll, dstOf, List.length_cons, List.length_nil, Nat.zero_add, Nat.reduceAdd, List.getElem?_toArray, List.getElem?_cons_zero, List.getElem?_cons_succ, Option.bind_some, Act.put, List.setIfInBounds_toArray, List.set_cons_succ, List.set_cons_zero]
 rw [e0, e1, e2, e3, e4, e5]
 clear e0 e1 e2 e3 e4 e5 hC hn E4 hL vs L nb
 go_upto_region 3 with (fail)
 refine region_fr (C := [Fq.is (.bool false)]) (ks := [none]) (new := []) E rfl (by kernel_rfl) rfl rfl (fun hp => ⟨?_, trivial⟩) ?_
 ·exact q_assign hp (free_of rfl) trivial (sq_const (fun _ => rfl))
 intro L vs w5 nb hL hC hn E5
 have e0 : vs 0 = .bool false := hC 0 (by simp)
 have E : Fr w [(b1, 6, Fq.st [.n a, .n b, .n c])] w5 := E5
 rw [lay_all hL]
 simp only [putAll, dstOf, List.length_cons, List.length_nil, Nat.zero_add, List.getElem?_toArray, List.getElem?_cons_zero, Option.bind_some, Act.put, List.setIfInBounds_toArray, List.set_cons_succ, List.set_cons_zero]
 rw [e0]
 clear e0 hC hn E5 hL vs L nb
 clear  T1
 clear B2 ha hb hc
 go_wp2
 refine bodyPost_ret (v := .bool false) ?_ rfl ⟨_, rfl, E.below, rfl⟩
 simp [results, Try.results58, go_sem]

set_option maxRecDepth 100000 in
set_option maxHeartbeats 4000000 in
theorem exPIsRed_c {w : World} {v : Value} {a b c : Int} (h : (Fq.st [.n a, .n b, .n c]).P v w) (ha : ab a < pw 60) (hb : ab b < pw 60) (hc : ab c < pw 60) (hx : ¬ a < (Int.natAbs b : Int)) (hy : ¬ a ≤ c) {t : Bool} (ht : redB a b c = t) :
  Calls Try.prog 58 #[v] w fun e w' => ∃ v', e = .returned v' ∧ Below w.heap.size w w' ∧ v' = .bool t := by
 replace ha := hidd ha
 replace hb := hidd hb
 replace hc := hidd hc
 have ht2 : t = false := ht.symm.trans (by unfold redB; exact decide_eq_false (by omega))
 subst ht2
 clear ht
 have T1 : Hid (¬ 0 < cmpI (Int.natAbs b : Int) a) := fun e => by have := cmpIqgt.1 e; omega
 have T2 : Hid (0 < cmpI a c) := cmpIqgt.2 (by omega)
 clear hx hy
 obtain ⟨_, rfl, hf0⟩ := h
 have hF0 := hf0
 obtain ⟨y0_p0, y0_q0, _, rfl, _y0_n0, y0_p1, y0_q1, _, rfl, _y0_n1, y0_p2, y0_q2, _, rfl, _y0_n2, rfl⟩ := hf0
 obtain ⟨w1, b1, hw1, hb1, hs1, E⟩ := fr_start w (F := Fq.st [.n a, .n b, .n c]) (us := [y0_p0, y0_q0, y0_p1, y0_q1, y0_p2, y0_q2]) 33 rfl (by simp) (hF0.tame) (show (Fq.st [.n a, .n b, .n c]).P _ w from ⟨_, rfl, hF0⟩)
 go_enter Try.func58, Try.ntmps58
 go_upto_region 1 with (fail)
 rw [← hw1]
 rw [← hb1]
 clear hw1 hb1 hs1
 have B2 : Hid (ab ((Int.natAbs b : Int)) < pw 60) := ab_absB hb.out
 refine region_fr (C := [Fq.is (.pointer (some ⟨b1, 2, none⟩)), Fq.num b, Fq.num (Int.natAbs b : Int), Fq.is (.pointer (some ⟨b1, 0, none⟩)), Fq.num a, Fq.is (.int .i64 (cmpI (Int.natAbs b : Int) a)), Fq.is (.pointer (some ⟨b1, 0, none⟩)), Fq.num a, Fq.is (.pointer (some ⟨b1, 4, none⟩)), Fq.num c, Fq.is (.int .i64 (cmpI a c)), Fq.is (.int .i64 (cmpI (Int.natAbs b : Int) a)), Fq.is (.int .i64 (cmpI a c))]) (ks := [none]) (new := []) E rfl (by kernel_rfl) rfl rfl (fun hp => ⟨?_, ?_, ?_, ?_, ?_, ?_, ?_, ?_, ?_, ?_, ?_, ?_, ?_, trivial⟩) ?_
 ·exact q_addr (b := b1) (off := 0) (off' := 2) hp (free_of rfl) trivial (sqo 1) (fun ρ w h => by simp [execOp, go_sem, h]) (fun _ => rfl)
 ·exact q_loadSt (off := 2) (l := 2) (fs := [.n a, .n b, .n c]) (gs := [.n b]) hp (free_of rfl) trivial (mq 0 rfl) (.inl rfl) rfl row_api_Int rfl (sqi 0) (fun v w h => st_num h)
 ·exact q_call1 (F := (Fq.num b).P) hp (free_of rfl) trivial (enq_Abs) (sqi 1) (fun v w h => exK (AbsV h) B2.out (by omega))
 ·exact q_addr (b := b1) (off := 0) (off' := 0) hp (free_of rfl) trivial (sqo 1) (fun ρ w h => by simp [execOp, go_sem, h]) (fun _ => rfl)
 ·exact q_loadSt (off := 0) (l := 2) (fs := [.n a, .n b, .n c]) (gs := [.n a]) hp (free_of rfl) trivial (mq 0 rfl) (.inl rfl) rfl row_api_Int rfl (sqi 3) (fun v w h => st_num h)
 ·exact q_call2 (F := (Fq.num (Int.natAbs b : Int)).P) (G := (Fq.num a).P) hp (free_of rfl) trivial (enq_Cmp) (sqi 2) (sqi 4) (fun v v' w h h' => exCmp h h')
 ·exact q_addr (b := b1) (off := 0) (off' := 0) hp (free_of rfl) trivial (sqo 1) (fun ρ w h => by simp [execOp, go_sem, h]) (fun _ => rfl)
 ·exact q_loadSt (off := 0) (l := 2) (fs := [.n a, .n b, .n c]) (gs := [.n a]) hp (free_of rfl) trivial (mq 0 rfl) (.inl rfl) rfl row_api_Int rfl (sqi 6) (fun v w h => st_num h)
 ·exact q_addr (b := b1) (off := 0) (off' := 4) hp (free_of rfl) trivial (sqo 1) (fun ρ w h => by simp [execOp, go_sem, h]) (fun _ => rfl)
 ·exact q_loadSt (off := 4) (l := 2) (fs := [.n a, .n b, .n c]) (gs := [.n c]) hp (free_of rfl) trivial (mq 0 rfl) (.inl rfl) rfl row_api_Int rfl (sqi 8) (fun v w h => st_num h)
 ·exact q_call2 (F := (Fq.num a).P) (G := (Fq.num c).P) hp (free_of rfl) trivial (enq_Cmp) (sqi 7) (sqi 9) (fun v v' w h h' => exCmp h h')
 ·exact q_assign hp (free_of rfl) trivial (sqi 5)
 ·exact q_assign hp (free_of rfl) trivial (sqi 10)
 intro L vs w3 nb hL hC hn E3
 have e0 : vs 0 = .pointer (some ⟨b1, 2, none⟩) := hC 0 (by simp)
 have e3 : vs 3 = .pointer (some ⟨b1, 0, none⟩) := hC 3 (by simp)
 have e5 : vs 5 = .int .i64 (cmpI (Int.natAbs b : Int) a) := hC 5 (by simp)
 have e6 : vs 6 = .pointer (some ⟨b1, 0, none⟩) := hC 6 (by simp)
 have e8 : vs 8 = .pointer (some ⟨b1, 4, none⟩) := hC 8 (by simp)
 have e10 : vs 10 = .int .i64 (cmpI a c) := hC 10 (by simp)
 have e11 : vs 11 = .int .i64 (cmpI (Int.natAbs b : Int) a) := hC 11 (by simp)
 have e12 : vs 12 = .int .i64 (cmpI a c) := hC 12 (by simp)
 have E : Fr w [(b1, 6, Fq.st [.n a, .n b, .n c])] w3 := E3
 rw [lay_all hL]
 simp only [putAll, dstOf, List.length_cons, List.length_nil, Nat.zero_add, Nat.reduceAdd, List.getElem?_toArray, List.getElem?_cons_zero, List.getElem?_cons_succ, Option.bind_some, Act.put, List.setIfInBounds_toArray, List.set_cons_succ, List.set_cons_zero]
 rw [e0, e3, e5, e6, e8, e10, e11, e12]
 generalize vs 1 = u3_1
 generalize vs 2 = u3_2
 generalize vs 4 = u3_4
 generalize vs 7 = u3_7
 generalize vs 9 = u3_9
 clear e0 e3 e5 e6 e8 e10 e11 e12 hC hn E3 hL vs L nb
 go_upto_region 2 with (fail)
 refine region_fr (C := [Fq.is (.int .i64 (cmpI (Int.natAbs b : Int) a)), Fq.is (.bool false), Fq.is (.bool false), Fq.is (.int .i64 (cmpI a c)), Fq.is (.bool true), Fq.is (.bool true)]) (ks := [none]) (new := []) E rfl (by kernel_rfl) rfl rfl (fun hp => ⟨?_, ?_, ?_, ?_, ?_, ?_, trivial⟩) ?_
 ·exact q_move hp (free_of rfl) trivial (sqo 3)
 ·exact q_one (F := fun v _ => v = .int .i64 (cmpI (Int.natAbs b : Int) a)) hp (free_of rfl) trivial (sqi 0) (fun ρ w hc h => ⟨.bool false, by simp [execOp, go_sem, h, hc, T1.out], rfl⟩)
 ·exact q_move hp (free_of rfl) trivial (sqi 1)
 ·exact q_move hp (free_of rfl) gqi (sqo 4)
 ·exact q_one (F := fun v _ => v = .int .i64 (cmpI a c)) hp (free_of rfl) gqi (sqi 3) (fun ρ w hc h => ⟨.bool true, by simp [execOp, go_sem, h, hc, T2.out], rfl⟩)
 ·exact q_two (F := fun v _ => v = .bool false) (G := fun v _ => v = .bool true) hp (free_of rfl) trivial (sqi 2) (sqi 4) (fun ρ w hc h h' => ⟨_, by simp [execOp, go_sem, h, h'], rfl⟩)
 intro L vs w4 nb hL hC hn E4
 have e0 : vs 0 = .int .i64 (cmpI (Int.natAbs b : Int) a) := hC 0 (by simp)
 have e1 : vs 1 = .bool false := hC 1 (by simp)
 have e2 : vs 2 = .bool false := hC 2 (by simp)
 have e3 : vs 3 = .int .i64 (cmpI a c) := hC 3 (by simp)
 have e4 : vs 4 = .bool true := hC 4 (by simp)
 have e5 : vs 5 = .bool true := hC 5 (by simp)
 have E : Fr w [(b1, 6, Fq.st [.n a, .n b, .n c])] w4 := E4
 rw [lay_all hL]
 simp only [putAll, dstOf, List.length_cons, List.length_nil, Nat.zero_add, Nat.reduceAdd, List.getElem?_toArray, List.getElem?_cons_zero, List.getElem?_cons_succ, Option.bind_some, Act.put, List.setIfInBounds_toArray, List.set_cons_succ, List.set_cons_zero]
 rw [e0, e1, e2, e3, e4, e5]
 clear e0 e1 e2 e3 e4 e5 hC hn E4 hL vs L nb
 go_upto_region 3 with (fail)
 refine region_fr (C := [Fq.is (.bool false)]) (ks := [none]) (new := []) E rfl (by kernel_rfl) rfl rfl (fun hp => ⟨?_, trivial⟩) ?_
 ·exact q_assign hp (free_of rfl) trivial (sq_const (fun _ => rfl))
 intro L vs w5 nb hL hC hn E5
 have e0 : vs 0 = .bool false := hC 0 (by simp)
 have E : Fr w [(b1, 6, Fq.st [.n a, .n b, .n c])] w5 := E5
 rw [lay_all hL]
 simp only [putAll, dstOf, List.length_cons, List.length_nil, Nat.zero_add, List.getElem?_toArray, List.getElem?_cons_zero, Option.bind_some, Act.put, List.setIfInBounds_toArray, List.set_cons_succ, List.set_cons_zero]
 rw [e0]
 clear e0 hC hn E5 hL vs L nb
 clear  T1 T2
 clear B2 ha hb hc
 go_wp2
 refine bodyPost_ret (v := .bool false) ?_ rfl ⟨_, rfl, E.below, rfl⟩
 simp [results, Try.results58, go_sem]

set_option maxRecDepth 100000 in
set_option maxHeartbeats 4000000 in
theorem exPIsRed_11 {w : World} {v : Value} {a b c : Int} (h : (Fq.st [.n a, .n b, .n c]).P v w) (ha : ab a < pw 60) (hb : ab b < pw 60) (hc : ab c < pw 60) (hx : ¬ a < (Int.natAbs b : Int)) (hy : a ≤ c) (k0 : (Int.natAbs b : Int) < a) (k1 : a < c) {t : Bool} (ht : redB a b c = t) :
  Calls Try.prog 58 #[v] w fun e w' => ∃ v', e = .returned v' ∧ Below w.heap.size w w' ∧ v' = .bool t := by
 replace ha := hidd ha
 replace hb := hidd hb
 replace hc := hidd hc
 have ht2 : t = true := ht.symm.trans (by unfold redB; exact decide_eq_true (by omega))
 subst ht2
 clear ht
 have T1 : Hid (¬ 0 < cmpI (Int.natAbs b : Int) a) := fun e => by have := cmpIqgt.1 e; omega
 have T2 : Hid (¬ 0 < cmpI a c) := fun e => by have := cmpIqgt.1 e; omega
 have T3 : Hid (cmpI (Int.natAbs b : Int) a < 0) := cmpIqlt.2 k0
 have T4 : Hid (cmpI a c < 0) := cmpIqlt.2 k1
 clear hx hy k0 k1
 obtain ⟨_, rfl, hf0⟩ := h
 have hF0 := hf0
 obtain ⟨y0_p0, y0_q0, _, rfl, _y0_n0, y0_p1, y0_q1, _, rfl, _y0_n1, y0_p2, y0_q2, _, rfl, _y0_n2, rfl⟩ := hf0
 obtain ⟨w1, b1, hw1, hb1, hs1, E⟩ := fr_start w (F := Fq.st [.n a, .n b, .n c]) (us := [y0_p0, y0_q0, y0_p1, y0_q1, y0_p2, y0_q2]) 33 rfl (by simp) (hF0.tame) (show (Fq.st [.n a, .n b, .n c]).P _ w from ⟨_, rfl, hF0⟩)
 go_enter Try.func58, Try.ntmps58
 go_upto_region 1 with (fail)
 rw [← hw1]
 rw [← hb1]
 clear hw1 hb1 hs1
 have B2 : Hid (ab ((Int.natAbs b : Int)) < pw 60) := ab_absB hb.out
 refine region_fr (C := [Fq.is (.pointer (some ⟨b1, 2, none⟩)), Fq.num b, Fq.num (Int.natAbs b : Int), Fq.is (.pointer (some ⟨b1, 0, none⟩)), Fq.num a, Fq.is (.int .i64 (cmpI (Int.natAbs b : Int) a)), Fq.is (.pointer (some ⟨b1, 0, none⟩)), Fq.num a, Fq.is (.pointer (some ⟨b1, 4, none⟩)), Fq.num c, Fq.is (.int .i64 (cmpI a c)), Fq.is (.int .i64 (cmpI (Int.natAbs b : Int) a)), Fq.is (.int .i64 (cmpI a c))]) (ks := [none]) (new := []) E rfl (by kernel_rfl) rfl rfl (fun hp => ⟨?_, ?_, ?_, ?_, ?_, ?_, ?_, ?_, ?_, ?_, ?_, ?_, ?_, trivial⟩) ?_
 ·exact q_addr (b := b1) (off := 0) (off' := 2) hp (free_of rfl) trivial (sqo 1) (fun ρ w h => by simp [execOp, go_sem, h]) (fun _ => rfl)
 ·exact q_loadSt (off := 2) (l := 2) (fs := [.n a, .n b, .n c]) (gs := [.n b]) hp (free_of rfl) trivial (mq 0 rfl) (.inl rfl) rfl row_api_Int rfl (sqi 0) (fun v w h => st_num h)
 ·exact q_call1 (F := (Fq.num b).P) hp (free_of rfl) trivial (enq_Abs) (sqi 1) (fun v w h => exK (AbsV h) B2.out (by omega))
 ·exact q_addr (b := b1) (off := 0) (off' := 0) hp (free_of rfl) trivial (sqo 1) (fun ρ w h => by simp [execOp, go_sem, h]) (fun _ => rfl)
 ·exact q_loadSt (off := 0) (l := 2) (fs := [.n a, .n b, .n c]) (gs := [.n a]) hp (free_of rfl) trivial (mq 0 rfl) (.inl rfl) rfl row_api_Int rfl (sqi 3) (fun v w h => st_num h)
 ·exact q_call2 (F := (Fq.num (Int.natAbs b : Int)).P) (G := (Fq.num a).P) hp (free_of rfl) trivial (enq_Cmp) (sqi 2) (sqi 4) (fun v v' w h h' => exCmp h h')
 ·exact q_addr (b := b1) (off := 0) (off' := 0) hp (free_of rfl) trivial (sqo 1) (fun ρ w h => by simp [execOp, go_sem, h]) (fun _ => rfl)
 ·exact q_loadSt (off := 0) (l := 2) (fs := [.n a, .n b, .n c]) (gs := [.n a]) hp (free_of rfl) trivial (mq 0 rfl) (.inl rfl) rfl row_api_Int rfl (sqi 6) (fun v w h => st_num h)
 ·exact q_addr (b := b1) (off := 0) (off' := 4) hp (free_of rfl) trivial (sqo 1) (fun ρ w h => by simp [execOp, go_sem, h]) (fun _ => rfl)
 ·exact q_loadSt (off := 4) (l := 2) (fs := [.n a, .n b, .n c]) (gs := [.n c]) hp (free_of rfl) trivial (mq 0 rfl) (.inl rfl) rfl row_api_Int rfl (sqi 8) (fun v w h => st_num h)
 ·exact q_call2 (F := (Fq.num a).P) (G := (Fq.num c).P) hp (free_of rfl) trivial (enq_Cmp) (sqi 7) (sqi 9) (fun v v' w h h' => exCmp h h')
 ·exact q_assign hp (free_of rfl) trivial (sqi 5)
 ·exact q_assign hp (free_of rfl) trivial (sqi 10)
 intro L vs w3 nb hL hC hn E3
 have e0 : vs 0 = .pointer (some ⟨b1, 2, none⟩) := hC 0 (by simp)
 have e3 : vs 3 = .pointer (some ⟨b1, 0, none⟩) := hC 3 (by simp)
 have e5 : vs 5 = .int .i64 (cmpI (Int.natAbs b : Int) a) := hC 5 (by simp)
 have e6 : vs 6 = .pointer (some ⟨b1, 0, none⟩) := hC 6 (by simp)
 have e8 : vs 8 = .pointer (some ⟨b1, 4, none⟩) := hC 8 (by simp)
 have e10 : vs 10 = .int .i64 (cmpI a c) := hC 10 (by simp)
 have e11 : vs 11 = .int .i64 (cmpI (Int.natAbs b : Int) a) := hC 11 (by simp)
 have e12 : vs 12 = .int .i64 (cmpI a c) := hC 12 (by simp)
 have E : Fr w [(b1, 6, Fq.st [.n a, .n b, .n c])] w3 := E3
 rw [lay_all hL]
 simp only [putAll, dstOf, List.length_cons, List.length_nil, Nat.zero_add, Nat.reduceAdd, List.getElem?_toArray, List.getElem?_cons_zero, List.getElem?_cons_succ, Option.bind_some, Act.put, List.setIfInBounds_toArray, List.set_cons_succ, List.set_cons_zero]
 rw [e0, e3, e5, e6, e8, e10, e11, e12]
 generalize vs 1 = u3_1
 generalize vs 2 = u3_2
 generalize vs 4 = u3_4
 generalize vs 7 = u3_7
 generalize vs 9 = u3_9
 clear e0 e3 e5 e6 e8 e10 e11 e12 hC hn E3 hL vs L nb
 go_upto_region 2 with (fail)
 refine region_fr (C := [Fq.is (.int .i64 (cmpI (Int.natAbs b : Int) a)), Fq.is (.bool false), Fq.is (.bool false), Fq.is (.int .i64 (cmpI a c)), Fq.is (.bool false), Fq.is (.bool false)]) (ks := [none]) (new := []) E rfl (by kernel_rfl) rfl rfl (fun hp => ⟨?_, ?_, ?_, ?_, ?_, ?_, trivial⟩) ?_
 ·exact q_move hp (free_of rfl) trivial (sqo 3)
 ·exact q_one (F := fun v _ => v = .int .i64 (cmpI (Int.natAbs b : Int) a)) hp (free_of rfl) trivial (sqi 0) (fun ρ w hc h => ⟨.bool false, by simp [execOp, go_sem, h, hc, T1.out], rfl⟩)
 ·exact q_move hp (free_of rfl) trivial (sqi 1)
 ·exact q_move hp (free_of rfl) gqi (sqo 4)
 ·exact q_one (F := fun v _ => v = .int .i64 (cmpI a c)) hp (free_of rfl) gqi (sqi 3) (fun ρ w hc h => ⟨.bool false, by simp [execOp, go_sem, h, hc, T2.out], rfl⟩)
 ·exact q_two (F := fun v _ => v = .bool false) (G := fun v _ => v = .bool false) hp (free_of rfl) trivial (sqi 2) (sqi 4) (fun ρ w hc h h' => ⟨_, by simp [execOp, go_sem, h, h'], rfl⟩)
 intro L vs w4 nb hL hC hn E4
 have e0 : vs 0 = .int .i64 (cmpI (Int.natAbs b : Int) a) := hC 0 (by simp)
 have e1 : vs 1 = .bool false := hC 1 (by simp)
 have e2 : vs 2 = .bool false := hC 2 (by simp)
 have e3 : vs 3 = .int .i64 (cmpI a c) := hC 3 (by simp)
 have e4 : vs 4 = .bool false := hC 4 (by simp)
 have e5 : vs 5 = .bool false := hC 5 (by simp)
 have E : Fr w [(b1, 6, Fq.st [.n a, .n b, .n c])] w4 := E4
 rw [lay_all hL]
 simp only [putAll, dstOf, List.length_cons, List.length_nil, Nat.zero_add, Nat.reduceAdd, List.getElem?_toArray, List.getElem?_cons_zero, List.getElem?_cons_succ, Option.bind_some, Act.put, List.setIfInBounds_toArray, List.set_cons_succ, List.set_cons_zero]
 rw [e0, e1, e2, e3, e4, e5]
 clear e0 e1 e2 e3 e4 e5 hC hn E4 hL vs L nb
 go_upto_region 4 with (fail)
 refine region_fr (C := [Fq.is (.int .i64 (cmpI (Int.natAbs b : Int) a)), Fq.is (.bool true), Fq.is (.bool true), Fq.is (.int .i64 (cmpI a c)), Fq.is (.bool true), Fq.is (.bool true), Fq.is (.bool true), Fq.is (undef), Fq.is (undef), Fq.is (undef), Fq.is (undef), Fq.is (.bool true), Fq.is (.bool true)]) (ks := [none]) (new := []) E rfl (by kernel_rfl) rfl rfl (fun hp => ⟨?_, ?_, ?_, ?_, ?_, ?_, ?_, ?_, ?_, ?_, ?_, ?_, ?_, trivial⟩) ?_
 ·exact q_move hp (free_of rfl) trivial (sqo 3)
 ·exact q_one (F := fun v _ => v = .int .i64 (cmpI (Int.natAbs b : Int) a)) hp (free_of rfl) trivial (sqi 0) (fun ρ w hc h => ⟨.bool true, by simp [execOp, go_sem, h, hc, T3.out], rfl⟩)
 ·exact q_move hp (free_of rfl) trivial (sqi 1)
 ·exact q_move hp (free_of rfl) gqi (sqo 4)
 ·exact q_one (F := fun v _ => v = .int .i64 (cmpI a c)) hp (free_of rfl) gqi (sqi 3) (fun ρ w hc h => ⟨.bool true, by simp [execOp, go_sem, h, hc, T4.out], rfl⟩)
 ·exact q_two (F := fun v _ => v = .bool true) (G := fun v _ => v = .bool true) hp (free_of rfl) trivial (sqi 2) (sqi 4) (fun ρ w hc h h' => ⟨_, by simp [execOp, go_sem, h, h'], rfl⟩)
 ·exact q_move hp (free_of rfl) trivial (sqi 5)
 ·exact q_skip hp (free_of rfl) rfl gqi (fun _ => rfl)
 ·exact q_skip hp (free_of rfl) rfl gqi (fun _ => rfl)
 ·exact q_skip hp (free_of rfl) rfl gqi (fun _ => rfl)
 ·exact q_skip hp (free_of rfl) rfl gqi (fun _ => rfl)
 ·exact q_two (F := fun v _ => v = .bool true) (G := fun v _ => v = .bool true) hp (free_of rfl) trivial (sqi 6) (sq_const (fun _ => rfl)) (fun ρ w hc h h' => ⟨_, by simp [execOp, go_sem, h, h'], rfl⟩)
 ·exact q_assign hp (free_of rfl) trivial (sqi 11)
 intro L vs w5 nb hL hC hn E5
 have e0 : vs 0 = .int .i64 (cmpI (Int.natAbs b : Int) a) := hC 0 (by simp)
 have e1 : vs 1 = .bool true := hC 1 (by simp)
 have e2 : vs 2 = .bool true := hC 2 (by simp)
 have e3 : vs 3 = .int .i64 (cmpI a c) := hC 3 (by simp)
 have e4 : vs 4 = .bool true := hC 4 (by simp)
 have e5 : vs 5 = .bool true := hC 5 (by simp)
 have e6 : vs 6 = .bool true := hC 6 (by simp)
 have e7 : vs 7 = undef := hC 7 (by simp)
 have e8 : vs 8 = undef := hC 8 (by simp)
 have e9 : vs 9 = undef := hC 9 (by simp)
 have e10 : vs 10 = undef := hC 10 (by simp)
 have e11 : vs 11 = .bool true := hC 11 (by simp)
 have e12 : vs 12 = .bool true := hC 12 (by simp)
 have E : Fr w [(b1, 6, Fq.st [.n a, .n b, .n c])] w5 := E5
 rw [lay_all hL]
 simp only [putAll, dstOf, List.length_cons, List.length_nil, Nat.zero_add, Nat.reduceAdd, List.getElem?_toArray, List.getElem?_cons_zero, List.getElem?_cons_succ, Option.bind_some, Act.put, List.setIfInBounds_toArray, List.set_cons_succ, List.set_cons_zero]
 rw [e0, e1, e2, e3, e4, e5, e6, e7, e8, e9, e10, e11, e12]
 clear e0 e1 e2 e3 e4 e5 e6 e7 e8 e9 e10 e11 e12 hC hn E5 hL vs L nb
 clear  T1 T2 T3 T4
 clear B2 ha hb hc
 go_wp2
 refine bodyPost_ret (v := .bool true) ?_ rfl ⟨_, rfl, E.below, rfl⟩
 simp [results, Try.results58, go_sem]

set_option maxRecDepth 100000 in
set_option maxHeartbeats 4000000 in
theorem exPIsRed_100 {w : World} {v : Value} {a b c : Int} (h : (Fq.st [.n a, .n b, .n c]).P v w) (ha : ab a < pw 60) (hb : ab b < pw 60) (hc : ab c < pw 60) (hx : ¬ a < (Int.natAbs b : Int)) (hy : a ≤ c) (k0 : (Int.natAbs b : Int) < a) (k1 : ¬ a < c) (k2 : ¬ 0 ≤ b) {t : Bool} (ht : redB a b c = t) :
  Calls Try.prog 58 #[v] w fun e w' => ∃ v', e = .returned v' ∧ Below w.heap.size w w' ∧ v' = .bool t := by
 replace ha := hidd ha
 replace hb := hidd hb
 replace hc := hidd hc
 have ht2 : t = false := ht.symm.trans (by unfold redB; exact decide_eq_false (by omega))
 subst ht2
 clear ht
 have T1 : Hid (¬ 0 < cmpI (Int.natAbs b : Int) a) := fun e => by have := cmpIqgt.1 e; omega
 have T2 : Hid (¬ 0 < cmpI a c) := fun e => by have := cmpIqgt.1 e; omega
 have T3 : Hid (cmpI (Int.natAbs b : Int) a < 0) := cmpIqlt.2 k0
 have T4 : Hid (¬ cmpI a c < 0) := fun e => k1 (cmpIqlt.1 e)
 have T5 : Hid (¬ 0 ≤ cmpI b 0) := by have := cmpIqlt.2 (show b < 0 by omega); show ¬ _ ≤ _; omega
 clear hx hy k0 k1 k2
 obtain ⟨_, rfl, hf0⟩ := h
 have hF0 := hf0
 obtain ⟨y0_p0, y0_q0, _, rfl, _y0_n0, y0_p1, y0_q1, _, rfl, _y0_n1, y0_p2, y0_q2, _, rfl, _y0_n2, rfl⟩ := hf0
 obtain ⟨w1, b1, hw1, hb1, hs1, E⟩ := fr_start w (F := Fq.st [.n a, .n b, .n c]) (us := [y0_p0, y0_q0, y0_p1, y0_q1, y0_p2, y0_q2]) 33 rfl (by simp) (hF0.tame) (show (Fq.st [.n a, .n b, .n c]).P _ w from ⟨_, rfl, hF0⟩)
 go_enter Try.func58, Try.ntmps58
 go_upto_region 1 with (fail)
 rw [← hw1]
 rw [← hb1]
 clear hw1 hb1 hs1
 have B2 : Hid (ab ((Int.natAbs b : Int)) < pw 60) := ab_absB hb.out
 refine region_fr (C := [Fq.is (.pointer (some ⟨b1, 2, none⟩)), Fq.num b, Fq.num (Int.natAbs b : Int), Fq.is (.pointer (some ⟨b1, 0, none⟩)), Fq.num a, Fq.is (.int .i64 (cmpI (Int.natAbs b : Int) a)), Fq.is (.pointer (some ⟨b1, 0, none⟩)), Fq.num a, Fq.is (.pointer (some ⟨b1, 4, none⟩)), Fq.num c, Fq.is (.int .i64 (cmpI a c)), Fq.is (.int .i64 (cmpI (Int.natAbs b : Int) a)), Fq.is (.int .i64 (cmpI a c))]) (ks := [none]) (new := []) E rfl (by kernel_rfl) rfl rfl (fun hp => ⟨?_, ?_, ?_, ?_, ?_, ?_, ?_, ?_, ?_, ?_, ?_, ?_, ?_, trivial⟩) ?_
 ·exact q_addr (b := b1) (off := 0) (off' := 2) hp (free_of rfl) trivial (sqo 1) (fun ρ w h => by simp [execOp, go_sem, h]) (fun _ => rfl)
 ·exact q_loadSt (off := 2) (l := 2) (fs := [.n a, .n b, .n c]) (gs := [.n b]) hp (free_of rfl) trivial (mq 0 rfl) (.inl rfl) rfl row_api_Int rfl (sqi 0) (fun v w h => st_num h)
 ·exact q_call1 (F := (Fq.num b).P) hp (free_of rfl) trivial (enq_Abs) (sqi 1) (fun v w h => exK (AbsV h) B2.out (by omega))
 ·exact q_addr (b := b1) (off := 0) (off' := 0) hp (free_of rfl) trivial (sqo 1) (fun ρ w h => by simp [execOp, go_sem, h]) (fun _ => rfl)
 ·exact q_loadSt (off := 0) (l := 2) (fs := [.n a, .n b, .n c]) (gs := [.n a]) hp (free_of rfl) trivial (mq 0 rfl) (.inl rfl) rfl row_api_Int rfl (sqi 3) (fun v w h => st_num h)
 ·exact q_call2 (F := (Fq.num (Int.natAbs b : Int)).P) (G := (Fq.num a).P) hp (free_of rfl) trivial (enq_Cmp) (sqi 2) (sqi 4) (fun v v' w h h' => exCmp h h')
 ·exact q_addr (b := b1) (off := 0) (off' := 0) hp (free_of rfl) trivial (sqo 1) (fun ρ w h => by simp [execOp, go_sem, h]) (fun _ => rfl)
 ·exact q_loadSt (off := 0) (l := 2) (fs := [.n a, .n b, .n c]) (gs := [.n a]) hp (free_of rfl) trivial (mq 0 rfl) (.inl rfl) rfl row_api_Int rfl (sqi 6) (fun v w h => st_num h)
 ·exact q_addr (b := b1) (off := 0) (off' := 4) hp (free_of rfl) trivial (sqo 1) (fun ρ w h => by simp [execOp, go_sem, h]) (fun _ => rfl)
 ·exact q_loadSt (off := 4) (l := 2) (fs := [.n a, .n b, .n c]) (gs := [.n c]) hp (free_of rfl) trivial (mq 0 rfl) (.inl rfl) rfl row_api_Int rfl (sqi 8) (fun v w h => st_num h)
 ·exact q_call2 (F := (Fq.num a).P) (G := (Fq.num c).P) hp (free_of rfl) trivial (enq_Cmp) (sqi 7) (sqi 9) (fun v v' w h h' => exCmp h h')
 ·exact q_assign hp (free_of rfl) trivial (sqi 5)
 ·exact q_assign hp (free_of rfl) trivial (sqi 10)
 intro L vs w3 nb hL hC hn E3
 have e0 : vs 0 = .pointer (some ⟨b1, 2, none⟩) := hC 0 (by simp)
 have e3 : vs 3 = .pointer (some ⟨b1, 0, none⟩) := hC 3 (by simp)
 have e5 : vs 5 = .int .i64 (cmpI (Int.natAbs b : Int) a) := hC 5 (by simp)
 have e6 : vs 6 = .pointer (some ⟨b1, 0, none⟩) := hC 6 (by simp)
 have e8 : vs 8 = .pointer (some ⟨b1, 4, none⟩) := hC 8 (by simp)
 have e10 : vs 10 = .int .i64 (cmpI a c) := hC 10 (by simp)
 have e11 : vs 11 = .int .i64 (cmpI (Int.natAbs b : Int) a) := hC 11 (by simp)
 have e12 : vs 12 = .int .i64 (cmpI a c) := hC 12 (by simp)
 have E : Fr w [(b1, 6, Fq.st [.n a, .n b, .n c])] w3 := E3
 rw [lay_all hL]
 simp only [putAll, dstOf, List.length_cons, List.length_nil, Nat.zero_add, Nat.reduceAdd, List.getElem?_toArray, List.getElem?_cons_zero, List.getElem?_cons_succ, Option.bind_some, Act.put, List.setIfInBounds_toArray, List.set_cons_succ, List.set_cons_zero]
 rw [e0, e3, e5, e6, e8, e10, e11, e12]
 generalize vs 1 = u3_1
 generalize vs 2 = u3_2
 generalize vs 4 = u3_4
 generalize vs 7 = u3_7
 generalize vs 9 = u3_9
 clear e0 e3 e5 e6 e8 e10 e11 e12 hC hn E3 hL vs L nb
 go_upto_region 2 with (fail)
 refine region_fr (C := [Fq.is (.int .i64 (cmpI (Int.natAbs b : Int) a)), Fq.is (.bool false), Fq.is (.bool false), Fq.is (.int .i64 (cmpI a c)), Fq.is (.bool false), Fq.is (.bool false)]) (ks := [none]) (new := []) E rfl (by kernel_rfl) rfl rfl (fun hp => ⟨?_, ?_, ?_, ?_, ?_, ?_, trivial⟩) ?_
 ·exact q_move hp (free_of rfl) trivial (sqo 3)
 ·exact q_one (F := fun v _ => v = .int .i64 (cmpI (Int.natAbs b : Int) a)) hp (free_of rfl) trivial (sqi 0) (fun ρ w hc h => ⟨.bool false, by simp [execOp, go_sem, h, hc, T1.out], rfl⟩)
 ·exact q_move hp (free_of rfl) trivial (sqi 1)
 ·exact q_move hp (free_of rfl) gqi (sqo 4)
 ·exact q_one (F := fun v _ => v = .int .i64 (cmpI a c)) hp (free_of rfl) gqi (sqi 3) (fun ρ w hc h => ⟨.bool false, by simp [execOp, go_sem, h, hc, T2.out], rfl⟩)
 ·exact q_two (F := fun v _ => v = .bool false) (G := fun v _ => v = .bool false) hp (free_of rfl) trivial (sqi 2) (sqi 4) (fun ρ w hc h h' => ⟨_, by simp [execOp, go_sem, h, h'], rfl⟩)
 intro L vs w4 nb hL hC hn E4
 have e0 : vs 0 = .int .i64 (cmpI (Int.natAbs b : Int) a) := hC 0 (by simp)
 have e1 : vs 1 = .bool false := hC 1 (by simp)
 have e2 : vs 2 = .bool false := hC 2 (by simp)
 have e3 : vs 3 = .int .i64 (cmpI a c) := hC 3 (by simp)
 have e4 : vs 4 = .bool false := hC 4 (by simp)
 have e5 : vs 5 = .bool false := hC 5 (by simp)
 have E : Fr w [(b1, 6, Fq.st [.n a, .n b, .n c])] w4 := E4
 rw [lay_all hL]
 simp only [putAll, dstOf, List.length_cons, List.length_nil, Nat.zero_add, Nat.reduceAdd, List.getElem?_toArray, List.getElem?_cons_zero, List.getElem?_cons_succ, Option.bind_some, Act.put, List.setIfInBounds_toArray, List.set_cons_succ, List.set_cons_zero]
 rw [e0, e1, e2, e3, e4, e5]
 clear e0 e1 e2 e3 e4 e5 hC hn E4 hL vs L nb
 go_upto_region 4 with (fail)
 refine region_fr (C := [Fq.is (.int .i64 (cmpI (Int.natAbs b : Int) a)), Fq.is (.bool true), Fq.is (.bool true), Fq.is (.int .i64 (cmpI a c)), Fq.is (.bool false), Fq.is (.bool false), Fq.is (.bool false), Fq.is (.pointer (some ⟨b1, 2, none⟩)), Fq.num b, Fq.is (.int .i64 (cmpI b 0)), Fq.is (.bool false), Fq.is (.bool false), Fq.is (.bool false)]) (ks := [none]) (new := []) E rfl (by kernel_rfl) rfl rfl (fun hp => ⟨?_, ?_, ?_, ?_, ?_, ?_, ?_, ?_, ?_, ?_, ?_, ?_, ?_, trivial⟩) ?_
 ·exact q_move hp (free_of rfl) trivial (sqo 3)
 ·exact q_one (F := fun v _ => v = .int .i64 (cmpI (Int.natAbs b : Int) a)) hp (free_of rfl) trivial (sqi 0) (fun ρ w hc h => ⟨.bool true, by simp [execOp, go_sem, h, hc, T3.out], rfl⟩)
 ·exact q_move hp (free_of rfl) trivial (sqi 1)
 ·exact q_move hp (free_of rfl) gqi (sqo 4)
 ·exact q_one (F := fun v _ => v = .int .i64 (cmpI a c)) hp (free_of rfl) gqi (sqi 3) (fun ρ w hc h => ⟨.bool false, by simp [execOp, go_sem, h, hc, T4.out], rfl⟩)
 ·exact q_two (F := fun v _ => v = .bool true) (G := fun v _ => v = .bool false) hp (free_of rfl) trivial (sqi 2) (sqi 4) (fun ρ w hc h h' => ⟨_, by simp [execOp, go_sem, h, h'], rfl⟩)
 ·exact q_move hp (free_of rfl) trivial (sqi 5)
 ·exact q_addr (b := b1) (off := 0) (off' := 2) hp (free_of rfl) gqi (sqo 1) (fun ρ w h => by simp [execOp, go_sem, h]) (fun _ => rfl)
 ·exact q_loadSt (off := 2) (l := 2) (fs := [.n a, .n b, .n c]) (gs := [.n b]) hp (free_of rfl) gqi (mq 0 rfl) (.inl rfl) rfl row_api_Int rfl (sqi 7) (fun v w h => st_num h)
 ·exact q_call1 (F := (Fq.num b).P) hp (free_of rfl) gqi (enq_Sign) (sqi 8) (fun v w h => exSign h)
 ·exact q_one (F := fun v _ => v = .int .i64 (cmpI b 0)) hp (free_of rfl) gqi (sqi 9) (fun ρ w hc h => ⟨.bool false, by simp [execOp, go_sem, h, hc, T5.out], rfl⟩)
 ·exact q_two (F := fun v _ => v = .bool false) (G := fun v _ => v = .bool false) hp (free_of rfl) trivial (sqi 6) (sqi 10) (fun ρ w hc h h' => ⟨_, by simp [execOp, go_sem, h, h'], rfl⟩)
 ·exact q_assign hp (free_of rfl) trivial (sqi 11)
 intro L vs w5 nb hL hC hn E5
 have e0 : vs 0 = .int .i64 (cmpI (Int.natAbs b : Int) a) := hC 0 (by simp)
 have e1 : vs 1 = .bool true := hC 1 (by simp)
 have e2 : vs 2 = .bool true := hC 2 (by simp)
 have e3 : vs 3 = .int .i64 (cmpI a c) := hC 3 (by simp)
 have e4 : vs 4 = .bool false := hC 4 (by simp)
 have e5 : vs 5 = .bool false := hC 5 (by simp)
 have e6 : vs 6 = .bool false := hC 6 (by simp)
 have e7 : vs 7 = .pointer (some ⟨b1, 2, none⟩) := hC 7 (by simp)
 have e9 : vs 9 = .int .i64 (cmpI b 0) := hC 9 (by simp)
 have e10 : vs 10 = .bool false := hC 10 (by simp)
 have e11 : vs 11 = .bool false := hC 11 (by simp)
 have e12 : vs 12 = .bool false := hC 12 (by simp)
 have E : Fr w [(b1, 6, Fq.st [.n a, .n b, .n c])] w5 := E5
 rw [lay_all hL]
 simp only [putAll, dstOf, List.length_cons, List.length_nil, Nat.zero_add, Nat.reduceAdd, List.getElem?_toArray, List.getElem?_cons_zero, List.getElem?_cons_succ, Option.bind_some, Act.put, List.setIfInBounds_toArray, List.set_cons_succ, List.set_cons_zero]
 rw [e0, e1, e2, e3, e4, e5, e6, e7, e9, e10, e11, e12]
 generalize vs 8 = u5_8
 clear e0 e1 e2 e3 e4 e5 e6 e7 e9 e10 e11 e12 hC hn E5 hL vs L nb
 clear  T1 T2 T3 T4 T5
 clear B2 ha hb hc
 go_wp2
 refine bodyPost_ret (v := .bool false) ?_ rfl ⟨_, rfl, E.below, rfl⟩
 simp [results, Try.results58, go_sem]

set_option maxRecDepth 100000 in
set_option maxHeartbeats 4000000 in
theorem exPIsRed_101 {w : World} {v : Value} {a b c : Int} (h : (Fq.st [.n a, .n b, .n c]).P v w) (ha : ab a < pw 60) (hb : ab b < pw 60) (hc : ab c < pw 60) (hx : ¬ a < (Int.natAbs b : Int)) (hy : a ≤ c) (k0 : (Int.natAbs b : Int) < a) (k1 : ¬ a < c) (k2 : 0 ≤ b) {t : Bool} (ht : redB a b c = t) :
  Calls Try.prog 58 #[v] w fun e w' => ∃ v', e = .returned v' ∧ Below w.heap.size w w' ∧ v' = .bool t := by
 replace ha := hidd ha
 replace hb := hidd hb
 replace hc := hidd hc
 have ht2 : t = true := ht.symm.trans (by unfold redB; exact decide_eq_true (by omega))
 subst ht2
 clear ht
 have T1 : Hid (¬ 0 < cmpI (Int.natAbs b : Int) a) := fun e => by have := cmpIqgt.1 e; omega
 have T2 : Hid (¬ 0 < cmpI a c) := fun e => by have := cmpIqgt.1 e; omega
 have T3 : Hid (cmpI (Int.natAbs b : Int) a < 0) := cmpIqlt.2 k0
 have T4 : Hid (¬ cmpI a c < 0) := fun e => k1 (cmpIqlt.1 e)
 have T5 : Hid (0 ≤ cmpI b 0) := by have := mt cmpIqlt.1 (show ¬ b < 0 by omega); show _ ≤ _; omega
 clear hx hy k0 k1 k2
 obtain ⟨_, rfl, hf0⟩ := h
 have hF0 := hf0
 obtain ⟨y0_p0, y0_q0, _, rfl, _y0_n0, y0_p1, y0_q1, _, rfl, _y0_n1, y0_p2, y0_q2, _, rfl, _y0_n2, rfl⟩ := hf0
 obtain ⟨w1, b1, hw1, hb1, hs1, E⟩ := fr_start w (F := Fq.st [.n a, .n b, .n c]) (us := [y0_p0, y0_q0, y0_p1, y0_q1, y0_p2, y0_q2]) 33 rfl (by simp) (hF0.tame) (show (Fq.st [.n a, .n b, .n c]).P _ w from ⟨_, rfl, hF0⟩)
 go_enter Try.func58, Try.ntmps58
 go_upto_region 1 with (fail)
 rw [← hw1]
 rw [← hb1]
 clear hw1 hb1 hs1
 have B2 : Hid (ab ((Int.natAbs b : Int)) < pw 60) := ab_absB hb.out
 refine region_fr (C := [Fq.is (.pointer (some ⟨b1, 2, none⟩)), Fq.num b, Fq.num (Int.natAbs b : Int), Fq.is (.pointer (some ⟨b1, 0, none⟩)), Fq.num a, Fq.is (.int .i64 (cmpI (Int.natAbs b : Int) a)), Fq.is (.pointer (some ⟨b1, 0, none⟩)), Fq.num a, Fq.is (.pointer (some ⟨b1, 4, none⟩)), Fq.num c, Fq.is (.int .i64 (cmpI a c)), Fq.is (.int .i64 (cmpI (Int.natAbs b : Int) a)), Fq.is (.int .i64 (cmpI a c))]) (ks := [none]) (new := []) E rfl (by kernel_rfl) rfl rfl (fun hp => ⟨?_, ?_, ?_, ?_, ?_, ?_, ?_, ?_, ?_, ?_, ?_, ?_, ?_, trivial⟩) ?_
 ·exact q_addr (b := b1) (off := 0) (off' := 2) hp (free_of rfl) trivial (sqo 1) (fun ρ w h => by simp [execOp, go_sem, h]) (fun _ => rfl)
 ·exact q_loadSt (off := 2) (l := 2) (fs := [.n a, .n b, .n c]) (gs := [.n b]) hp (free_of rfl) trivial (mq 0 rfl) (.inl rfl) rfl row_api_Int rfl (sqi 0) (fun v w h => st_num h)
 ·exact q_call1 (F := (Fq.num b).P) hp (free_of rfl) trivial (enq_Abs) (sqi 1) (fun v w h => exK (AbsV h) B2.out (by omega))
 ·exact q_addr (b := b1) (off := 0) (off' := 0) hp (free_of rfl) trivial (sqo 1) (fun ρ w h => by simp [execOp, go_sem, h]) (fun _ => rfl)
 ·exact q_loadSt (off := 0) (l := 2) (fs := [.n a, .n b, .n c]) (gs := [.n a]) hp (free_of rfl) trivial (mq 0 rfl) (.inl rfl) rfl row_api_Int rfl (sqi 3) (fun v w h => st_num h)
 ·exact q_call2 (F := (Fq.num (Int.natAbs b : Int)).P) (G := (Fq.num a).P) hp (free_of rfl) trivial (enq_Cmp) (sqi 2) (sqi 4) (fun v v' w h h' => exCmp h h')
 ·exact q_addr (b := b1) (off := 0) (off' := 0) hp (free_of rfl) trivial (sqo 1) (fun ρ w h => by simp [execOp, go_sem, h]) (fun _ => rfl)
 ·exact q_loadSt (off := 0) (l := 2) (fs := [.n a, .n b, .n c]) (gs := [.n a]) hp (free_of rfl) trivial (mq 0 rfl) (.inl rfl) rfl row_api_Int rfl (sqi 6) (fun v w h => st_num h)
 ·exact q_addr (b := b1) (off := 0) (off' := 4) hp (free_of rfl) trivial (sqo 1) (fun ρ w h => by simp [execOp, go_sem, h]) (fun _ => rfl)
 ·exact q_loadSt (off := 4) (l := 2) (fs := [.n a, .n b, .n c]) (gs := [.n c]) hp (free_of rfl) trivial (mq 0 rfl) (.inl rfl) rfl row_api_Int rfl (sqi 8) (fun v w h => st_num h)
 ·exact q_call2 (F := (Fq.num a).P) (G := (Fq.num c).P) hp (free_of rfl) trivial (enq_Cmp) (sqi 7) (sqi 9) (fun v v' w h h' => exCmp h h')
 ·exact q_assign hp (free_of rfl) trivial (sqi 5)
 ·exact q_assign hp (free_of rfl) trivial (sqi 10)
 intro L vs w3 nb hL hC hn E3
 have e0 : vs 0 = .pointer (some ⟨b1, 2, none⟩) := hC 0 (by simp)
 have e3 : vs 3 = .pointer (some ⟨b1, 0, none⟩) := hC 3 (by simp)
 have e5 : vs 5 = .int .i64 (cmpI (Int.natAbs b : Int) a) := hC 5 (by simp)
 have e6 : vs 6 = .pointer (some ⟨b1, 0, none⟩) := hC 6 (by simp)
 have e8 : vs 8 = .pointer (some ⟨b1, 4, none⟩) := hC 8 (by simp)
 have e10 : vs 10 = .int .i64 (cmpI a c) := hC 10 (by simp)
 have e11 : vs 11 = .int .i64 (cmpI (Int.natAbs b : Int) a) := hC 11 (by simp)
 have e12 : vs 12 = .int .i64 (cmpI a c) := hC 12 (by simp)
 have E : Fr w [(b1, 6, Fq.st [.n a, .n b, .n c])] w3 := E3
 rw [lay_all hL]
 simp only [putAll, dstOf, List.length_cons, List.length_nil, Nat.zero_add, Nat.reduceAdd, List.getElem?_toArray, List.getElem?_cons_zero, List.getElem?_cons_succ, Option.bind_some, Act.put, List.setIfInBounds_toArray, List.set_cons_succ, List.set_cons_zero]
 rw [e0, e3, e5, e6, e8, e10, e11, e12]
 generalize vs 1 = u3_1
 generalize vs 2 = u3_2
 generalize vs 4 = u3_4
 generalize vs 7 = u3_7
 generalize vs 9 = u3_9
 clear e0 e3 e5 e6 e8 e10 e11 e12 hC hn E3 hL vs L nb
 go_upto_region 2 with (fail)
 refine region_fr (C := [Fq.is (.int .i64 (cmpI (Int.natAbs b : Int) a)), Fq.is (.bool false), Fq.is (.bool false), Fq.is (.int .i64 (cmpI a c)), Fq.is (.bool false), Fq.is (.bool false)]) (ks := [none]) (new := []) E rfl (by kernel_rfl) rfl rfl (fun hp => ⟨?_, ?_, ?_, ?_, ?_, ?_, trivial⟩) ?_
 ·exact q_move hp (free_of rfl) trivial (sqo 3)
 ·exact q_one (F := fun v _ => v = .int .i64 (cmpI (Int.natAbs b : Int) a)) hp (free_of rfl) trivial (sqi 0) (fun ρ w hc h => ⟨.bool false, by simp [execOp, go_sem, h, hc, T1.out], rfl⟩)
 ·exact q_move hp (free_of rfl) trivial (sqi 1)
 ·exact q_move hp (free_of rfl) gqi (sqo 4)
 ·exact q_one (F := fun v _ => v = .int .i64 (cmpI a c)) hp (free_of rfl) gqi (sqi 3) (fun ρ w hc h => ⟨.bool false, by simp [execOp, go_sem, h, hc, T2.out], rfl⟩)
 ·exact q_two (F := fun v _ => v = .bool false) (G := fun v _ => v = .bool false) hp (free_of rfl) trivial (sqi 2) (sqi 4) (fun ρ w hc h h' => ⟨_, by simp [execOp, go_sem, h, h'], rfl⟩)
 intro L vs w4 nb hL hC hn E4
 have e0 : vs 0 = .int .i64 (cmpI (Int.natAbs b : Int) a) := hC 0 (by simp)
 have e1 : vs 1 = .bool false := hC 1 (by simp)
 have e2 : vs 2 = .bool false := hC 2 (by simp)
 have e3 : vs 3 = .int .i64 (cmpI a c) := hC 3 (by simp)
 have e4 : vs 4 = .bool false := hC 4 (by simp)
 have e5 : vs 5 = .bool false := hC 5 (by simp)
 have E : Fr w [(b1, 6, Fq.st [.n a, .n b, .n c])] w4 := E4
 rw [lay_all hL]
 simp only [putAll, dstOf, List.length_cons, List.length_nil, Nat.zero_add, Nat.reduceAdd, List.getElem?_toArray, List.getElem?_cons_zero, List.getElem?_cons_succ, Option.bind_some, Act.put, List.setIfInBounds_toArray, List.set_cons_succ, List.set_cons_zero]
 rw [e0, e1, e2, e3, e4, e5]
 clear e0 e1 e2 e3 e4 e5 hC hn E4 hL vs L nb
 go_upto_region 4 with (fail)
 refine region_fr (C := [Fq.is (.int .i64 (cmpI (Int.natAbs b : Int) a)), Fq.is (.bool true), Fq.is (.bool true), Fq.is (.int .i64 (cmpI a c)), Fq.is (.bool false), Fq.is (.bool false), Fq.is (.bool false), Fq.is (.pointer (some ⟨b1, 2, none⟩)), Fq.num b, Fq.is (.int .i64 (cmpI b 0)), Fq.is (.bool true), Fq.is (.bool true), Fq.is (.bool true)]) (ks := [none]) (new := []) E rfl (by kernel_rfl) rfl rfl (fun hp => ⟨?_, ?_, ?_, ?_, ?_, ?_, ?_, ?_, ?_, ?_, ?_, ?_, ?_, trivial⟩) ?_
 ·exact q_move hp (free_of rfl) trivial (sqo 3)
 ·exact q_one (F := fun v _ => v = .int .i64 (cmpI (Int.natAbs b : Int) a)) hp (free_of rfl) trivial (sqi 0) (fun ρ w hc h => ⟨.bool true, by simp [execOp, go_sem, h, hc, T3.out], rfl⟩)
 ·exact q_move hp (free_of rfl) trivial (sqi 1)
 ·exact q_move hp (free_of rfl) gqi (sqo 4)
 ·exact q_one (F := fun v _ => v = .int .i64 (cmpI a c)) hp (free_of rfl) gqi (sqi 3) (fun ρ w hc h => ⟨.bool false, by simp [execOp, go_sem, h, hc, T4.out], rfl⟩)
 ·exact q_two (F := fun v _ => v = .bool true) (G := fun v _ => v = .bool false) hp (free_of rfl) trivial (sqi 2) (sqi 4) (fun ρ w hc h h' => ⟨_, by simp [execOp, go_sem, h, h'], rfl⟩)
 ·exact q_move hp (free_of rfl) trivial (sqi 5)
 ·exact q_addr (b := b1) (off := 0) (off' := 2) hp (free_of rfl) gqi (sqo 1) (fun ρ w h => by simp [execOp, go_sem, h]) (fun _ => rfl)
 ·exact q_loadSt (off := 2) (l := 2) (fs := [.n a, .n b, .n c]) (gs := [.n b]) hp (free_of rfl) gqi (mq 0 rfl) (.inl rfl) rfl row_api_Int rfl (sqi 7) (fun v w h => st_num h)
 ·exact q_call1 (F := (Fq.num b).P) hp (free_of rfl) gqi (enq_Sign) (sqi 8) (fun v w h => exSign h)
 ·exact q_one (F := fun v _ => v = .int .i64 (cmpI b 0)) hp (free_of rfl) gqi (sqi 9) (fun ρ w hc h => ⟨.bool true, by simp [execOp, go_sem, h, hc, T5.out], rfl⟩)
 ·exact q_two (F := fun v _ => v = .bool false) (G := fun v _ => v = .bool true) hp (free_of rfl) trivial (sqi 6) (sqi 10) (fun ρ w hc h h' => ⟨_, by simp [execOp, go_sem, h, h'], rfl⟩)
 ·exact q_assign hp (free_of rfl) trivial (sqi 11)
 intro L vs w5 nb hL hC hn E5
 have e0 : vs 0 = .int .i64 (cmpI (Int.natAbs b : Int) a) := hC 0 (by simp)
 have e1 : vs 1 = .bool true := hC 1 (by simp)
 have e2 : vs 2 = .bool true := hC 2 (by simp)
 have e3 : vs 3 = .int .i64 (cmpI a c) := hC 3 (by simp)
 have e4 : vs 4 = .bool false := hC 4 (by simp)
 have e5 : vs 5 = .bool false := hC 5 (by simp)
 have e6 : vs 6 = .bool false := hC 6 (by simp)
 have e7 : vs 7 = .pointer (some ⟨b1, 2, none⟩) := hC 7 (by simp)
 have e9 : vs 9 = .int .i64 (cmpI b 0) := hC 9 (by simp)
 have e10 : vs 10 = .bool true := hC 10 (by simp)
 have e11 : vs 11 = .bool true := hC 11 (by simp)
 have e12 : vs 12 = .bool true := hC 12 (by simp)
 have E : Fr w [(b1, 6, Fq.st [.n a, .n b, .n c])] w5 := E5
 rw [lay_all hL]
 simp only [putAll, dstOf, List.length_cons, List.length_nil, Nat.zero_add, Nat.reduceAdd, List.getElem?_toArray, List.getElem?_cons_zero, List.getElem?_cons_succ, Option.bind_some, Act.put, List.setIfInBounds_toArray, List.set_cons_succ, List.set_cons_zero]
 rw [e0, e1, e2, e3, e4, e5, e6, e7, e9, e10, e11, e12]
 generalize vs 8 = u5_8
 clear e0 e1 e2 e3 e4 e5 e6 e7 e9 e10 e11 e12 hC hn E5 hL vs L nb
 clear  T1 T2 T3 T4 T5
 clear B2 ha hb hc
 go_wp2
 refine bodyPost_ret (v := .bool true) ?_ rfl ⟨_, rfl, E.below, rfl⟩
 simp [results, Try.results58, go_sem]

set_option maxRecDepth 100000 in
set_option maxHeartbeats 4000000 in
theorem exPIsRed_010 {w : World} {v : Value} {a b c : Int} (h : (Fq.st [.n a, .n b, .n c]).P v w) (ha : ab a < pw 60) (hb : ab b < pw 60) (hc : ab c < pw 60) (hx : ¬ a < (Int.natAbs b : Int)) (hy : a ≤ c) (k0 : ¬ (Int.natAbs b : Int) < a) (k1 : a < c) (k2 : ¬ 0 ≤ b) {t : Bool} (ht : redB a b c = t) :
  Calls Try.prog 58 #[v] w fun e w' => ∃ v', e = .returned v' ∧ Below w.heap.size w w' ∧ v' = .bool t := by
 replace ha := hidd ha
 replace hb := hidd hb
 replace hc := hidd hc
 have ht2 : t = false := ht.symm.trans (by unfold redB; exact decide_eq_false (by omega))
 subst ht2
 clear ht
 have T1 : Hid (¬ 0 < cmpI (Int.natAbs b : Int) a) := fun e => by have := cmpIqgt.1 e; omega
 have T2 : Hid (¬ 0 < cmpI a c) := fun e => by have := cmpIqgt.1 e; omega
 have T3 : Hid (¬ cmpI (Int.natAbs b : Int) a < 0) := fun e => k0 (cmpIqlt.1 e)
 have T5 : Hid (¬ 0 ≤ cmpI b 0) := by have := cmpIqlt.2 (show b < 0 by omega); show ¬ _ ≤ _; omega
 clear hx hy k0 k1 k2
 obtain ⟨_, rfl, hf0⟩ := h
 have hF0 := hf0
 obtain ⟨y0_p0, y0_q0, _, rfl, _y0_n0, y0_p1, y0_q1, _, rfl, _y0_n1, y0_p2, y0_q2, _, rfl, _y0_n2, rfl⟩ := hf0
 obtain ⟨w1, b1, hw1, hb1, hs1, E⟩ := fr_start w (F := Fq.st [.n a, .n b, .n c]) (us := [y0_p0, y0_q0, y0_p1, y0_q1, y0_p2, y0_q2]) 33 rfl (by simp) (hF0.tame) (show (Fq.st [.n a, .n b, .n c]).P _ w from ⟨_, rfl, hF0⟩)
 go_enter Try.func58, Try.ntmps58
 go_upto_region 1 with (fail)
 rw [← hw1]
 rw [← hb1]
 clear hw1 hb1 hs1
 have B2 : Hid (ab ((Int.natAbs b : Int)) < pw 60) := ab_absB hb.out
 refine region_fr (C := [Fq.is (.pointer (some ⟨b1, 2, none⟩)), Fq.num b, Fq.num (Int.natAbs b : Int), Fq.is (.pointer (some ⟨b1, 0, none⟩)), Fq.num a, Fq.is (.int .i64 (cmpI (Int.natAbs b : Int) a)), Fq.is (.pointer (some ⟨b1, 0, none⟩)), Fq.num a, Fq.is (.pointer (some ⟨b1, 4, none⟩)), Fq.num c, Fq.is (.int .i64 (cmpI a c)), Fq.is (.int .i64 (cmpI (Int.natAbs b : Int) a)), Fq.is (.int .i64 (cmpI a c))]) (ks := [none]) (new := []) E rfl (by kernel_rfl) rfl rfl (fun hp => ⟨?_, ?_, ?_, ?_, ?_, ?_, ?_, ?_, ?_, ?_, ?_, ?_, ?_, trivial⟩) ?_
 ·exact q_addr (b := b1) (off := 0) (off' := 2) hp (free_of rfl) trivial (sqo 1) (fun ρ w h => by simp [execOp, go_sem, h]) (fun _ => rfl)
 ·exact q_loadSt (off := 2) (l := 2) (fs := [.n a, .n b, .n c]) (gs := [.n b]) hp (free_of rfl) trivial (mq 0 rfl) (.inl rfl) rfl row_api_Int rfl (sqi 0) (fun v w h => st_num h)
 ·exact q_call1 (F := (Fq.num b).P) hp (free_of rfl) trivial (enq_Abs) (sqi 1) (fun v w h => exK (AbsV h) B2.out (by omega))
 ·exact q_addr (b := b1) (off := 0) (off' := 0) hp (free_of rfl) trivial (sqo 1) (fun ρ w h => by simp [execOp, go_sem, h]) (fun _ => rfl)
 ·exact q_loadSt (off := 0) (l := 2) (fs := [.n a, .n b, .n c]) (gs := [.n a]) hp (free_of rfl) trivial (mq 0 rfl) (.inl rfl) rfl row_api_Int rfl (sqi 3) (fun v w h => st_num h)
 ·exact q_call2 (F := (Fq.num (Int.natAbs b : Int)).P) (G := (Fq.num a).P) hp (free_of rfl) trivial (enq_Cmp) (sqi 2) (sqi 4) (fun v v' w h h' => exCmp h h')
 ·exact q_addr (b := b1) (off := 0) (off' := 0) hp (free_of rfl) trivial (sqo 1) (fun ρ w h => by simp [execOp, go_sem, h]) (fun _ => rfl)
 ·exact q_loadSt (off := 0) (l := 2) (fs := [.n a, .n b, .n c]) (gs := [.n a]) hp (free_of rfl) trivial (mq 0 rfl) (.inl rfl) rfl row_api_Int rfl (sqi 6) (fun v w h => st_num h)
 ·exact q_addr (b := b1) (off := 0) (off' := 4) hp (free_of rfl) trivial (sqo 1) (fun ρ w h => by simp [execOp, go_sem, h]) (fun _ => rfl)
 ·exact q_loadSt (off := 4) (l := 2) (fs := [.n a, .n b, .n c]) (gs := [.n c]) hp (free_of rfl) trivial (mq 0 rfl) (.inl rfl) rfl row_api_Int rfl (sqi 8) (fun v w h => st_num h)
 ·exact q_call2 (F := (Fq.num a).P) (G := (Fq.num c).P) hp (free_of rfl) trivial (enq_Cmp) (sqi 7) (sqi 9) (fun v v' w h h' => exCmp h h')
 ·exact q_assign hp (free_of rfl) trivial (sqi 5)
 ·exact q_assign hp (free_of rfl) trivial (sqi 10)
 intro L vs w3 nb hL hC hn E3
 have e0 : vs 0 = .pointer (some ⟨b1, 2, none⟩) := hC 0 (by simp)
 have e3 : vs 3 = .pointer (some ⟨b1, 0, none⟩) := hC 3 (by simp)
 have e5 : vs 5 = .int .i64 (cmpI (Int.natAbs b : Int) a) := hC 5 (by simp)
 have e6 : vs 6 = .pointer (some ⟨b1, 0, none⟩) := hC 6 (by simp)
 have e8 : vs 8 = .pointer (some ⟨b1, 4, none⟩) := hC 8 (by simp)
 have e10 : vs 10 = .int .i64 (cmpI a c) := hC 10 (by simp)
 have e11 : vs 11 = .int .i64 (cmpI (Int.natAbs b : Int) a) := hC 11 (by simp)
 have e12 : vs 12 = .int .i64 (cmpI a c) := hC 12 (by simp)
 have E : Fr w [(b1, 6, Fq.st [.n a, .n b, .n c])] w3 := E3
 rw [lay_all hL]
 simp only [putAll, dstOf, List.length_cons, List.length_nil, Nat.zero_add, Nat.reduceAdd, List.getElem?_toArray, List.getElem?_cons_zero, List.getElem?_cons_succ, Option.bind_some, Act.put, List.setIfInBounds_toArray, List.set_cons_succ, List.set_cons_zero]
 rw [e0, e3, e5, e6, e8, e10, e11, e12]
 generalize vs 1 = u3_1
 generalize vs 2 = u3_2
 generalize vs 4 = u3_4
 generalize vs 7 = u3_7
 generalize vs 9 = u3_9
 clear e0 e3 e5 e6 e8 e10 e11 e12 hC hn E3 hL vs L nb
 go_upto_region 2 with (fail)
 refine region_fr (C := [Fq.is (.int .i64 (cmpI (Int.natAbs b : Int) a)), Fq.is (.bool false), Fq.is (.bool false), Fq.is (.int .i64 (cmpI a c)), Fq.is (.bool false), Fq.is (.bool false)]) (ks := [none]) (new := []) E rfl (by kernel_rfl) rfl rfl (fun hp => ⟨?_, ?_, ?_, ?_, ?_, ?_, trivial⟩) ?_
 ·exact q_move hp (free_of rfl) trivial (sqo 3)
 ·exact q_one (F := fun v _ => v = .int .i64 (cmpI (Int.natAbs b : Int) a)) hp (free_of rfl) trivial (sqi 0) (fun ρ w hc h => ⟨.bool false, by simp [execOp, go_sem, h, hc, T1.out], rfl⟩)
 ·exact q_move hp (free_of rfl) trivial (sqi 1)
 ·exact q_move hp (free_of rfl) gqi (sqo 4)
 ·exact q_one (F := fun v _ => v = .int .i64 (cmpI a c)) hp (free_of rfl) gqi (sqi 3) (fun ρ w hc h => ⟨.bool false, by simp [execOp, go_sem, h, hc, T2.out], rfl⟩)
 ·exact q_two (F := fun v _ => v = .bool false) (G := fun v _ => v = .bool false) hp (free_of rfl) trivial (sqi 2) (sqi 4) (fun ρ w hc h h' => ⟨_, by simp [execOp, go_sem, h, h'], rfl⟩)
 intro L vs w4 nb hL hC hn E4
 have e0 : vs 0 = .int .i64 (cmpI (Int.natAbs b : Int) a) := hC 0 (by simp)
 have e1 : vs 1 = .bool false := hC 1 (by simp)
 have e2 : vs 2 = .bool false := hC 2 (by simp)
 have e3 : vs 3 = .int .i64 (cmpI a c) := hC 3 (by simp)
 have e4 : vs 4 = .bool false := hC 4 (by simp)
 have e5 : vs 5 = .bool false := hC 5 (by simp)
 have E : Fr w [(b1, 6, Fq.st [.n a, .n b, .n c])] w4 := E4
 rw [lay_all hL]
 simp only [putAll, dstOf, List.length_cons, List.length_nil, Nat.zero_add, Nat.reduceAdd, List.getElem?_toArray, List.getElem?_cons_zero, List.getElem?_cons_succ, Option.bind_some, Act.put, List.setIfInBounds_toArray, List.set_cons_succ, List.set_cons_zero]
 rw [e0, e1, e2, e3, e4, e5]
 clear e0 e1 e2 e3 e4 e5 hC hn E4 hL vs L nb
 go_upto_region 4 with (fail)
 refine region_fr (C := [Fq.is (.int .i64 (cmpI (Int.natAbs b : Int) a)), Fq.is (.bool false), Fq.is (.bool false), Fq.is (undef), Fq.is (undef), Fq.is (.bool false), Fq.is (.bool false), Fq.is (.pointer (some ⟨b1, 2, none⟩)), Fq.num b, Fq.is (.int .i64 (cmpI b 0)), Fq.is (.bool false), Fq.is (.bool false), Fq.is (.bool false)]) (ks := [none]) (new := []) E rfl (by kernel_rfl) rfl rfl (fun hp => ⟨?_, ?_, ?_, ?_, ?_, ?_, ?_, ?_, ?_, ?_, ?_, ?_, ?_, trivial⟩) ?_
 ·exact q_move hp (free_of rfl) trivial (sqo 3)
 ·exact q_one (F := fun v _ => v = .int .i64 (cmpI (Int.natAbs b : Int) a)) hp (free_of rfl) trivial (sqi 0) (fun ρ w hc h => ⟨.bool false, by simp [execOp, go_sem, h, hc, T3.out], rfl⟩)
 ·exact q_move hp (free_of rfl) trivial (sqi 1)
 ·exact q_skip hp (free_of rfl) rfl gqi (fun _ => rfl)
 ·exact q_skip hp (free_of rfl) rfl gqi (fun _ => rfl)
 ·exact q_two (F := fun v _ => v = .bool false) (G := fun v _ => v = .bool false) hp (free_of rfl) trivial (sqi 2) (sq_const (fun _ => rfl)) (fun ρ w hc h h' => ⟨_, by simp [execOp, go_sem, h, h'], rfl⟩)
 ·exact q_move hp (free_of rfl) trivial (sqi 5)
 ·exact q_addr (b := b1) (off := 0) (off' := 2) hp (free_of rfl) gqi (sqo 1) (fun ρ w h => by simp [execOp, go_sem, h]) (fun _ => rfl)
 ·exact q_loadSt (off := 2) (l := 2) (fs := [.n a, .n b, .n c]) (gs := [.n b]) hp (free_of rfl) gqi (mq 0 rfl) (.inl rfl) rfl row_api_Int rfl (sqi 7) (fun v w h => st_num h)
 ·exact q_call1 (F := (Fq.num b).P) hp (free_of rfl) gqi (enq_Sign) (sqi 8) (fun v w h => exSign h)
 ·exact q_one (F := fun v _ => v = .int .i64 (cmpI b 0)) hp (free_of rfl) gqi (sqi 9) (fun ρ w hc h => ⟨.bool false, by simp [execOp, go_sem, h, hc, T5.out], rfl⟩)
 ·exact q_two (F := fun v _ => v = .bool false) (G := fun v _ => v = .bool false) hp (free_of rfl) trivial (sqi 6) (sqi 10) (fun ρ w hc h h' => ⟨_, by simp [execOp, go_sem, h, h'], rfl⟩)
 ·exact q_assign hp (free_of rfl) trivial (sqi 11)
 intro L vs w5 nb hL hC hn E5
 have e0 : vs 0 = .int .i64 (cmpI (Int.natAbs b : Int) a) := hC 0 (by simp)
 have e1 : vs 1 = .bool false := hC 1 (by simp)
 have e2 : vs 2 = .bool false := hC 2 (by simp)
 have e3 : vs 3 = undef := hC 3 (by simp)
 have e4 : vs 4 = undef := hC 4 (by simp)
 have e5 : vs 5 = .bool false := hC 5 (by simp)
 have e6 : vs 6 = .bool false := hC 6 (by simp)
 have e7 : vs 7 = .pointer (some ⟨b1, 2, none⟩) := hC 7 (by simp)
 have e9 : vs 9 = .int .i64 (cmpI b 0) := hC 9 (by simp)
 have e10 : vs 10 = .bool false := hC 10 (by simp)
 have e11 : vs 11 = .bool false := hC 11 (by simp)
 have e12 : vs 12 = .bool false := hC 12 (by simp)
 have E : Fr w [(b1, 6, Fq.st [.n a, .n b, .n c])] w5 := E5
 rw [lay_all hL]
 simp only [putAll, dstOf, List.length_cons, List.length_nil, Nat.zero_add, Nat.reduceAdd, List.getElem?_toArray, List.getElem?_cons_zero, List.getElem?_cons_succ, Option.bind_some, Act.put, List.setIfInBounds_toArray, List.set_cons_succ, List.set_cons_zero]
 rw [e0, e1, e2, e3, e4, e5, e6, e7, e9, e10, e11, e12]
 generalize vs 8 = u5_8
 clear e0 e1 e2 e3 e4 e5 e6 e7 e9 e10 e11 e12 hC hn E5 hL vs L nb
 clear  T1 T2 T3 T5
 clear B2 ha hb hc
 go_wp2
 refine bodyPost_ret (v := .bool false) ?_ rfl ⟨_, rfl, E.below, rfl⟩
 simp [results, Try.results58, go_sem]

set_option maxRecDepth 100000 in
set_option maxHeartbeats 4000000 in
theorem exPIsRed_011 {w : World} {v : Value} {a b c : Int} (h : (Fq.st [.n a, .n b, .n c]).P v w) (ha : ab a < pw 60) (hb : ab b < pw 60) (hc : ab c < pw 60) (hx : ¬ a < (Int.natAbs b : Int)) (hy : a ≤ c) (k0 : ¬ (Int.natAbs b : Int) < a) (k1 : a < c) (k2 : 0 ≤ b) {t : Bool} (ht : redB a b c = t) :
  Calls Try.prog 58 #[v] w fun e w' => ∃ v', e = .returned v' ∧ Below w.heap.size w w' ∧ v' = .bool t := by
 replace ha := hidd ha
 replace hb := hidd hb
 replace hc := hidd hc
 have ht2 : t = true := ht.symm.trans (by unfold redB; exact decide_eq_true (by omega))
 subst ht2
 clear ht
 have T1 : Hid (¬ 0 < cmpI (Int.natAbs b : Int) a) := fun e => by have := cmpIqgt.1 e; omega
 have T2 : Hid (¬ 0 < cmpI a c) := fun e => by have := cmpIqgt.1 e; omega
 have T3 : Hid (¬ cmpI (Int.natAbs b : Int) a < 0) := fun e => k0 (cmpIqlt.1 e)
 have T5 : Hid (0 ≤ cmpI b 0) := by have := mt cmpIqlt.1 (show ¬ b < 0 by omega); show _ ≤ _; omega
 clear hx hy k0 k1 k2
 obtain ⟨_, rfl, hf0⟩ := h
 have hF0 := hf0
 obtain ⟨y0_p0, y0_q0, _, rfl, _y0_n0, y0_p1, y0_q1, _, rfl, _y0_n1, y0_p2, y0_q2, _, rfl, _y0_n2, rfl⟩ := hf0
 obtain ⟨w1, b1, hw1, hb1, hs1, E⟩ := fr_start w (F := Fq.st [.n a, .n b, .n c]) (us := [y0_p0, y0_q0, y0_p1, y0_q1, y0_p2, y0_q2]) 33 rfl (by simp) (hF0.tame) (show (Fq.st [.n a, .n b, .n c]).P _ w from ⟨_, rfl, hF0⟩)
 go_enter Try.func58, Try.ntmps58
 go_upto_region 1 with (fail)
 rw [← hw1]
 rw [← hb1]
 clear hw1 hb1 hs1
 have B2 : Hid (ab ((Int.natAbs b : Int)) < pw 60) := ab_absB hb.out
 refine region_fr (C := [Fq.is (.pointer (some ⟨b1, 2, none⟩)), Fq.num b, Fq.num (Int.natAbs b : Int), Fq.is (.pointer (some ⟨b1, 0, none⟩)), Fq.num a, Fq.is (.int .i64 (cmpI (Int.natAbs b : Int) a)), Fq.is (.pointer (some ⟨b1, 0, none⟩)), Fq.num a, Fq.is (.pointer (some ⟨b1, 4, none⟩)), Fq.num c, Fq.is (.int .i64 (cmpI a c)), Fq.is (.int .i64 (cmpI (Int.natAbs b : Int) a)), Fq.is (.int .i64 (cmpI a c))]) (ks := [none]) (new := []) E rfl (by kernel_rfl) rfl rfl (fun hp => ⟨?_, ?_, ?_, ?_, ?_, ?_, ?_, ?_, ?_, ?_, ?_, ?_, ?_, trivial⟩) ?_
 ·exact q_addr (b := b1) (off := 0) (off' := 2) hp (free_of rfl) trivial (sqo 1) (fun ρ w h => by simp [execOp, go_sem, h]) (fun _ => rfl)
 ·exact q_loadSt (off := 2) (l := 2) (fs := [.n a, .n b, .n c]) (gs := [.n b]) hp (free_of rfl) trivial (mq 0 rfl) (.inl rfl) rfl row_api_Int rfl (sqi 0) (fun v w h => st_num h)
 ·exact q_call1 (F := (Fq.num b).P) hp (free_of rfl) trivial (enq_Abs) (sqi 1) (fun v w h => exK (AbsV h) B2.out (by omega))
 ·exact q_addr (b := b1) (off := 0) (off' := 0) hp (free_of rfl) trivial (sqo 1) (fun ρ w h => by simp [execOp, go_sem, h]) (fun _ => rfl)
 ·exact q_loadSt (off := 0) (l := 2) (fs := [.n a, .n b, .n c]) (gs := [.n a]) hp (free_of rfl) trivial (mq 0 rfl) (.inl rfl) rfl row_api_Int rfl (sqi 3) (fun v w h => st_num h)
 ·exact q_call2 (F := (Fq.num (Int.natAbs b : Int)).P) (G := (Fq.num a).P) hp (free_of rfl) trivial (enq_Cmp) (sqi 2) (sqi 4) (fun v v' w h h' => exCmp h h')
 ·exact q_addr (b := b1) (off := 0) (off' := 0) hp (free_of rfl) trivial (sqo 1) (fun ρ w h => by simp [execOp, go_sem, h]) (fun _ => rfl)
 ·exact q_loadSt (off := 0) (l := 2) (fs := [.n a, .n b, .n c]) (gs := [.n a]) hp (free_of rfl) trivial (mq 0 rfl) (.inl rfl) rfl row_api_Int rfl (sqi 6) (fun v w h => st_num h)
 ·exact q_addr (b := b1) (off := 0) (off' := 4) hp (free_of rfl) trivial (sqo 1) (fun ρ w h => by simp [execOp, go_sem, h]) (fun _ => rfl)
 ·exact q_loadSt (off := 4) (l := 2) (fs := [.n a, .n b, .n c]) (gs := [.n c]) hp (free_of rfl) trivial (mq 0 rfl) (.inl rfl) rfl row_api_Int rfl (sqi 8) (fun v w h => st_num h)
 ·exact q_call2 (F := (Fq.num a).P) (G := (Fq.num c).P) hp (free_of rfl) trivial (enq_Cmp) (sqi 7) (sqi 9) (fun v v' w h h' => exCmp h h')
 ·exact q_assign hp (free_of rfl) trivial (sqi 5)
 ·exact q_assign hp (free_of rfl) trivial (sqi 10)
 intro L vs w3 nb hL hC hn E3
 have e0 : vs 0 = .pointer (some ⟨b1, 2, none⟩) := hC 0 (by simp)
 have e3 : vs 3 = .pointer (some ⟨b1, 0, none⟩) := hC 3 (by simp)
 have e5 : vs 5 = .int .i64 (cmpI (Int.natAbs b : Int) a) := hC 5 (by simp)
 have e6 : vs 6 = .pointer (some ⟨b1, 0, none⟩) := hC 6 (by simp)
 have e8 : vs 8 = .pointer (some ⟨b1, 4, none⟩) := hC 8 (by simp)
 have e10 : vs 10 = .int .i64 (cmpI a c) := hC 10 (by simp)
 have e11 : vs 11 = .int .i64 (cmpI (Int.natAbs b : Int) a) := hC 11 (by simp)
 have e12 : vs 12 = .int .i64 (cmpI a c) := hC 12 (by simp)
 have E : Fr w [(b1, 6, Fq.st [.n a, .n b, .n c])] w3 := E3
 rw [lay_all hL]
 simp only [putAll, dstOf, List.length_cons, List.length_nil, Nat.zero_add, Nat.reduceAdd, List.getElem?_toArray, List.getElem?_cons_zero, List.getElem?_cons_succ, Option.bind_some, Act.put, List.setIfInBounds_toArray, List.set_cons_succ, List.set_cons_zero]
 rw [e0, e3, e5, e6, e8, e10, e11, e12]
 generalize vs 1 = u3_1
 generalize vs 2 = u3_2
 generalize vs 4 = u3_4
 generalize vs 7 = u3_7
 generalize vs 9 = u3_9
 clear e0 e3 e5 e6 e8 e10 e11 e12 hC hn E3 hL vs L nb
 go_upto_region 2 with (fail)
 refine region_fr (C := [Fq.is (.int .i64 (cmpI (Int.natAbs b : Int) a)), Fq.is (.bool false), Fq.is (.bool false), Fq.is (.int .i64 (cmpI a c)), Fq.is (.bool false), Fq.is (.bool false)]) (ks := [none]) (new := []) E rfl (by kernel_rfl) rfl rfl (fun hp => ⟨?_, ?_, ?_, ?_, ?_, ?_, trivial⟩) ?_
 ·exact q_move hp (free_of rfl) trivial (sqo 3)
 ·exact q_one (F := fun v _ => v = .int .i64 (cmpI (Int.natAbs b : Int) a)) hp (free_of rfl) trivial (sqi 0) (fun ρ w hc h => ⟨.bool false, by simp [execOp, go_sem, h, hc, T1.out], rfl⟩)
 ·exact q_move hp (free_of rfl) trivial (sqi 1)
 ·exact q_move hp (free_of rfl) gqi (sqo 4)
 ·exact q_one (F := fun v _ => v = .int .i64 (cmpI a c)) hp (free_of rfl) gqi (sqi 3) (fun ρ w hc h => ⟨.bool false, by simp [execOp, go_sem, h, hc, T2.out], rfl⟩)
 ·exact q_two (F := fun v _ => v = .bool false) (G := fun v _ => v = .bool false) hp (free_of rfl) trivial (sqi 2) (sqi 4) (fun ρ w hc h h' => ⟨_, by simp [execOp, go_sem, h, h'], rfl⟩)
 intro L vs w4 nb hL hC hn E4
 have e0 : vs 0 = .int .i64 (cmpI (Int.natAbs b : Int) a) := hC 0 (by simp)
 have e1 : vs 1 = .bool false := hC 1 (by simp)
 have e2 : vs 2 = .bool false := hC 2 (by simp)
 have e3 : vs 3 = .int .i64 (cmpI a c) := hC 3 (by simp)
 have e4 : vs 4 = .bool false := hC 4 (by simp)
 have e5 : vs 5 = .bool false := hC 5 (by simp)
 have E : Fr w [(b1, 6, Fq.st [.n a, .n b, .n c])] w4 := E4
 rw [lay_all hL]
 simp only [putAll, dstOf, List.length_cons, List.length_nil, Nat.zero_add, Nat.reduceAdd, List.getElem?_toArray, List.getElem?_cons_zero, List.getElem?_cons_succ, Option.bind_some, Act.put, List.setIfInBounds_toArray, List.set_cons_succ, List.set_cons_zero]
 rw [e0, e1, e2, e3, e4, e5]
 clear e0 e1 e2 e3 e4 e5 hC hn E4 hL vs L nb
 go_upto_region 4 with (fail)
 refine region_fr (C := [Fq.is (.int .i64 (cmpI (Int.natAbs b : Int) a)), Fq.is (.bool false), Fq.is (.bool false), Fq.is (undef), Fq.is (undef), Fq.is (.bool false), Fq.is (.bool false), Fq.is (.pointer (some ⟨b1, 2, none⟩)), Fq.num b, Fq.is (.int .i64 (cmpI b 0)), Fq.is (.bool true), Fq.is (.bool true), Fq.is (.bool true)]) (ks := [none]) (new := []) E rfl (by kernel_rfl) rfl rfl (fun hp => ⟨?_, ?_, ?_, ?_, ?_, ?_, ?_, ?_, ?_, ?_, ?_, ?_, ?_, trivial⟩) ?_
 ·exact q_move hp (free_of rfl) trivial (sqo 3)
 ·exact q_one (F := fun v _ => v = .int .i64 (cmpI (Int.natAbs b : Int) a)) hp (free_of rfl) trivial (sqi 0) (fun ρ w hc h => ⟨.bool false, by simp [execOp, go_sem, h, hc, T3.out], rfl⟩)
 ·exact q_move hp (free_of rfl) trivial (sqi 1)
 ·exact q_skip hp (free_of rfl) rfl gqi (fun _ => rfl)
 ·exact q_skip hp (free_of rfl) rfl gqi (fun _ => rfl)
 ·exact q_two (F := fun v _ => v = .bool false) (G := fun v _ => v = .bool false) hp (free_of rfl) trivial (sqi 2) (sq_const (fun _ => rfl)) (fun ρ w hc h h' => ⟨_, by simp [execOp, go_sem, h, h'], rfl⟩)
 ·exact q_move hp (free_of rfl) trivial (sqi 5)
 ·exact q_addr (b := b1) (off := 0) (off' := 2) hp (free_of rfl) gqi (sqo 1) (fun ρ w h => by simp [execOp, go_sem, h]) (fun _ => rfl)
 ·exact q_loadSt (off := 2) (l := 2) (fs := [.n a, .n b, .n c]) (gs := [.n b]) hp (free_of rfl) gqi (mq 0 rfl) (.inl rfl) rfl row_api_Int rfl (sqi 7) (fun v w h => st_num h)
 ·exact q_call1 (F := (Fq.num b).P) hp (free_of rfl) gqi (enq_Sign) (sqi 8) (fun v w h => exSign h)
 ·exact q_one (F := fun v _ => v = .int .i64 (cmpI b 0)) hp (free_of rfl) gqi (sqi 9) (fun ρ w hc h => ⟨.bool true, by simp [execOp, go_sem, h, hc, T5.out], rfl⟩)
 ·exact q_two (F := fun v _ => v = .bool false) (G := fun v _ => v = .bool true) hp (free_of rfl) trivial (sqi 6) (sqi 10) (fun ρ w hc h h' => ⟨_, by simp [execOp, go_sem, h, h'], rfl⟩)
 ·exact q_assign hp (free_of rfl) trivial (sqi 11)
 intro L vs w5 nb hL hC hn E5
 have e0 : vs 0 = .int .i64 (cmpI (Int.natAbs b : Int) a) := hC 0 (by simp)
 have e1 : vs 1 = .bool false := hC 1 (by simp)
 have e2 : vs 2 = .bool false := hC 2 (by simp)
 have e3 : vs 3 = undef := hC 3 (by simp)
 have e4 : vs 4 = undef := hC 4 (by simp)
 have e5 : vs 5 = .bool false := hC 5 (by simp)
 have e6 : vs 6 = .bool false := hC 6 (by simp)
 have e7 : vs 7 = .pointer (some ⟨b1, 2, none⟩) := hC 7 (by simp)
 have e9 : vs 9 = .int .i64 (cmpI b 0) := hC 9 (by simp)
 have e10 : vs 10 = .bool true := hC 10 (by simp)
 have e11 : vs 11 = .bool true := hC 11 (by simp)
 have e12 : vs 12 = .bool true := hC 12 (by simp)
 have E : Fr w [(b1, 6, Fq.st [.n a, .n b, .n c])] w5 := E5
 rw [lay_all hL]
 simp only [putAll, dstOf, List.length_cons, List.length_nil, Nat.zero_add, Nat.reduceAdd, List.getElem?_toArray, List.getElem?_cons_zero, List.getElem?_cons_succ, Option.bind_some, Act.put, List.setIfInBounds_toArray, List.set_cons_succ, List.set_cons_zero]
 rw [e0, e1, e2, e3, e4, e5, e6, e7, e9, e10, e11, e12]
 generalize vs 8 = u5_8
 clear e0 e1 e2 e3 e4 e5 e6 e7 e9 e10 e11 e12 hC hn E5 hL vs L nb
 clear  T1 T2 T3 T5
 clear B2 ha hb hc
 go_wp2
 refine bodyPost_ret (v := .bool true) ?_ rfl ⟨_, rfl, E.below, rfl⟩
 simp [results, Try.results58, go_sem]

set_option maxRecDepth 100000 in
set_option maxHeartbeats 4000000 in
theorem exPIsRed_000 {w : World} {v : Value} {a b c : Int} (h : (Fq.st [.n a, .n b, .n c]).P v w) (ha : ab a < pw 60) (hb : ab b < pw 60) (hc : ab c < pw 60) (hx : ¬ a < (Int.natAbs b : Int)) (hy : a ≤ c) (k0 : ¬ (Int.natAbs b : Int) < a) (k1 : ¬ a < c) (k2 : ¬ 0 ≤ b) {t : Bool} (ht : redB a b c = t) :
  Calls Try.prog 58 #[v] w fun e w' => ∃ v', e = .returned v' ∧ Below w.heap.size w w' ∧ v' = .bool t := by
 replace ha := hidd ha
 replace hb := hidd hb
 replace hc := hidd hc
 have ht2 : t = false := ht.symm.trans (by unfold redB; exact decide_eq_false (by omega))
 subst ht2
 clear ht
 have T1 : Hid (¬ 0 < cmpI (Int.natAbs b : Int) a) := fun e => by have := cmpIqgt.1 e; omega
 have T2 : Hid (¬ 0 < cmpI a c) := fun e => by have := cmpIqgt.1 e; omega
 have T3 : Hid (¬ cmpI (Int.natAbs b : Int) a < 0) := fun e => k0 (cmpIqlt.1 e)
 have T5 : Hid (¬ 0 ≤ cmpI b 0) := by have := cmpIqlt.2 (show b < 0 by omega); show ¬ _ ≤ _; omega
 clear hx hy k0 k1 k2
 obtain ⟨_, rfl, hf0⟩ := h
 have hF0 := hf0
 obtain ⟨y0_p0, y0_q0, _, rfl, _y0_n0, y0_p1, y0_q1, _, rfl, _y0_n1, y0_p2, y0_q2, _, rfl, _y0_n2, rfl⟩ := hf0
 obtain ⟨w1, b1, hw1, hb1, hs1, E⟩ := fr_start w (F := Fq.st [.n a, .n b, .n c]) (us := [y0_p0, y0_q0, y0_p1, y0_q1, y0_p2, y0_q2]) 33 rfl (by simp) (hF0.tame) (show (Fq.st [.n a, .n b, .n c]).P _ w from ⟨_, rfl, hF0⟩)
 go_enter Try.func58, Try.ntmps58
 go_upto_region 1 with (fail)
 rw [← hw1]
 rw [← hb1]
 clear hw1 hb1 hs1
 have B2 : Hid (ab ((Int.natAbs b : Int)) < pw 60) := ab_absB hb.out
 refine region_fr (C := [Fq.is (.pointer (some ⟨b1, 2, none⟩)), Fq.num b, Fq.num (Int.natAbs b : Int), Fq.is (.pointer (some ⟨b1, 0, none⟩)), Fq.num a, Fq.is (.int .i64 (cmpI (Int.natAbs b : Int) a)), Fq.is (.pointer (some ⟨b1, 0, none⟩)), Fq.num a, Fq.is (.pointer (some ⟨b1, 4, none⟩)), Fq.num c, Fq.is (.int .i64 (cmpI a c)), Fq.is (.int .i64 (cmpI (Int.natAbs b : Int) a)), Fq.is (.int .i64 (cmpI a c))]) (ks := [none]) (new := []) E rfl (by kernel_rfl) rfl rfl (fun hp => ⟨?_, ?_, ?_, ?_, ?_, ?_, ?_, ?_, ?_, ?_, ?_, ?_, ?_, trivial⟩) ?_
 ·exact q_addr (b := b1) (off := 0) (off' := 2) hp (free_of rfl) trivial (sqo 1) (fun ρ w h => by simp [execOp, go_sem, h]) (fun _ => rfl)
 ·exact q_loadSt (off := 2) (l := 2) (fs := [.n a, .n b, .n c]) (gs := [.n b]) hp (free_of rfl) trivial (mq 0 rfl) (.inl rfl) rfl row_api_Int rfl (sqi 0) (fun v w h => st_num h)
 ·exact q_call1 (F := (Fq.num b).P) hp (free_of rfl) trivial (enq_Abs) (sqi 1) (fun v w h => exK (AbsV h) B2.out (by omega))
 ·exact q_addr (b := b1) (off := 0) (off' := 0) hp (free_of rfl) trivial (sqo 1) (fun ρ w h => by simp [execOp, go_sem, h]) (fun _ => rfl)
 ·exact q_loadSt (off := 0) (l := 2) (fs := [.n a, .n b, .n c]) (gs := [.n a]) hp (free_of rfl) trivial (mq 0 rfl) (.inl rfl) rfl row_api_Int rfl (sqi 3) (fun v w h => st_num h)
 ·exact q_call2 (F := (Fq.num (Int.natAbs b : Int)).P) (G := (Fq.num a).P) hp (free_of rfl) trivial (enq_Cmp) (sqi 2) (sqi 4) (fun v v' w h h' => exCmp h h')
 ·exact q_addr (b := b1) (off := 0) (off' := 0) hp (free_of rfl) trivial (sqo 1) (fun ρ w h => by simp [execOp, go_sem, h]) (fun _ => rfl)
 ·exact q_loadSt (off := 0) (l := 2) (fs := [.n a, .n b, .n c]) (gs := [.n a]) hp (free_of rfl) trivial (mq 0 rfl) (.inl rfl) rfl row_api_Int rfl (sqi 6) (fun v w h => st_num h)
 ·exact q_addr (b := b1) (off := 0) (off' := 4) hp (free_of rfl) trivial (sqo 1) (fun ρ w h => by simp [execOp, go_sem, h]) (fun _ => rfl)
 ·exact q_loadSt (off := 4) (l := 2) (fs := [.n a, .n b, .n c]) (gs := [.n c]) hp (free_of rfl) trivial (mq 0 rfl) (.inl rfl) rfl row_api_Int rfl (sqi 8) (fun v w h => st_num h)
 ·exact q_call2 (F := (Fq.num a).P) (G := (Fq.num c).P) hp (free_of rfl) trivial (enq_Cmp) (sqi 7) (sqi 9) (fun v v' w h h' => exCmp h h')
 ·exact q_assign hp (free_of rfl) trivial (sqi 5)
 ·exact q_assign hp (free_of rfl) trivial (sqi 10)
 intro L vs w3 nb hL hC hn E3
 have e0 : vs 0 = .pointer (some ⟨b1, 2, none⟩) := hC 0 (by simp)
 have e3 : vs 3 = .pointer (some ⟨b1, 0, none⟩) := hC 3 (by simp)
 have e5 : vs 5 = .int .i64 (cmpI (Int.natAbs b : Int) a) := hC 5 (by simp)
 have e6 : vs 6 = .pointer (some ⟨b1, 0, none⟩) := hC 6 (by simp)
 have e8 : vs 8 = .pointer (some ⟨b1, 4, none⟩) := hC 8 (by simp)
 have e10 : vs 10 = .int .i64 (cmpI a c) := hC 10 (by simp)
 have e11 : vs 11 = .int .i64 (cmpI (Int.natAbs b : Int) a) := hC 11 (by simp)
 have e12 : vs 12 = .int .i64 (cmpI a c) := hC 12 (by simp)
 have E : Fr w [(b1, 6, Fq.st [.n a, .n b, .n c])] w3 := E3
 rw [lay_all hL]
 simp only [putAll, dstOf, List.length_cons, List.length_nil, Nat.zero_add, Nat.reduceAdd, List.getElem?_toArray, List.getElem?_cons_zero, List.getElem?_cons_succ, Option.bind_some, Act.put, List.setIfInBounds_toArray, List.set_cons_succ, List.set_cons_zero]
 rw [e0, e3, e5, e6, e8, e10, e11, e12]
 generalize vs 1 = u3_1
 generalize vs 2 = u3_2
 generalize vs 4 = u3_4
 generalize vs 7 = u3_7
 generalize vs 9 = u3_9
 clear e0 e3 e5 e6 e8 e10 e11 e12 hC hn E3 hL vs L nb
 go_upto_region 2 with (fail)
 refine region_fr (C := [Fq.is (.int .i64 (cmpI (Int.natAbs b : Int) a)), Fq.is (.bool false), Fq.is (.bool false), Fq.is (.int .i64 (cmpI a c)), Fq.is (.bool false), Fq.is (.bool false)]) (ks := [none]) (new := []) E rfl (by kernel_rfl) rfl rfl (fun hp => ⟨?_, ?_, ?_, ?_, ?_, ?_, trivial⟩) ?_
 ·exact q_move hp (free_of rfl) trivial (sqo 3)
 ·exact q_one (F := fun v _ => v = .int .i64 (cmpI (Int.natAbs b : Int) a)) hp (free_of rfl) trivial (sqi 0) (fun ρ w hc h => ⟨.bool false, by simp [execOp, go_sem, h, hc, T1.out], rfl⟩)
 ·exact q_move hp (free_of rfl) trivial (sqi 1)
 ·exact q_move hp (free_of rfl) gqi (sqo 4)
 ·exact q_one (F := fun v _ => v = .int .i64 (cmpI a c)) hp (free_of rfl) gqi (sqi 3) (fun ρ w hc h => ⟨.bool false, by simp [execOp, go_sem, h, hc, T2.out], rfl⟩)
 ·exact q_two (F := fun v _ => v = .bool false) (G := fun v _ => v = .bool false) hp (free_of rfl) trivial (sqi 2) (sqi 4) (fun ρ w hc h h' => ⟨_, by simp [execOp, go_sem, h, h'], rfl⟩)
 intro L vs w4 nb hL hC hn E4
 have e0 : vs 0 = .int .i64 (cmpI (Int.natAbs b : Int) a) := hC 0 (by simp)
 have e1 : vs 1 = .bool false := hC 1 (by simp)
 have e2 : vs 2 = .bool false := hC 2 (by simp)
 have e3 : vs 3 = .int .i64 (cmpI a c) := hC 3 (by simp)
 have e4 : vs 4 = .bool false := hC 4 (by simp)
 have e5 : vs 5 = .bool false := hC 5 (by simp)
 have E : Fr w [(b1, 6, Fq.st [.n a, .n b, .n c])] w4 := E4
 rw [lay_all hL]
 simp only [putAll, dstOf, List.length_cons, List.length_nil, Nat.zero_add, Nat.reduceAdd, List.getElem?_toArray, List.getElem?_cons_zero, List.getElem?_cons_succ, Option.bind_some, Act.put, List.setIfInBounds_toArray, List.set_cons_succ, List.set_cons_zero]
 rw [e0, e1, e2, e3, e4, e5]
 clear e0 e1 e2 e3 e4 e5 hC hn E4 hL vs L nb
 go_upto_region 4 with (fail)
 refine region_fr (C := [Fq.is (.int .i64 (cmpI (Int.natAbs b : Int) a)), Fq.is (.bool false), Fq.is (.bool false), Fq.is (undef), Fq.is (undef), Fq.is (.bool false), Fq.is (.bool false), Fq.is (.pointer (some ⟨b1, 2, none⟩)), Fq.num b, Fq.is (.int .i64 (cmpI b 0)), Fq.is (.bool false), Fq.is (.bool false), Fq.is (.bool false)]) (ks := [none]) (new := []) E rfl (by kernel_rfl) rfl rfl (fun hp => ⟨?_, ?_, ?_, ?_, ?_, ?_, ?_, ?_, ?_, ?_, ?_, ?_, ?_, trivial⟩) ?_
 ·exact q_move hp (free_of rfl) trivial (sqo 3)
 ·exact q_one (F := fun v _ => v = .int .i64 (cmpI (Int.natAbs b : Int) a)) hp (free_of rfl) trivial (sqi 0) (fun ρ w hc h => ⟨.bool false, by simp [execOp, go_sem, h, hc, T3.out], rfl⟩)
 ·exact q_move hp (free_of rfl) trivial (sqi 1)
 ·exact q_skip hp (free_of rfl) rfl gqi (fun _ => rfl)
 ·exact q_skip hp (free_of rfl) rfl gqi (fun _ => rfl)
 ·exact q_two (F := fun v _ => v = .bool false) (G := fun v _ => v = .bool false) hp (free_of rfl) trivial (sqi 2) (sq_const (fun _ => rfl)) (fun ρ w hc h h' => ⟨_, by simp [execOp, go_sem, h, h'], rfl⟩)
 ·exact q_move hp (free_of rfl) trivial (sqi 5)
 ·exact q_addr (b := b1) (off := 0) (off' := 2) hp (free_of rfl) gqi (sqo 1) (fun ρ w h => by simp [execOp, go_sem, h]) (fun _ => rfl)
 ·exact q_loadSt (off := 2) (l := 2) (fs := [.n a, .n b, .n c]) (gs := [.n b]) hp (free_of rfl) gqi (mq 0 rfl) (.inl rfl) rfl row_api_Int rfl (sqi 7) (fun v w h => st_num h)
 ·exact q_call1 (F := (Fq.num b).P) hp (free_of rfl) gqi (enq_Sign) (sqi 8) (fun v w h => exSign h)
 ·exact q_one (F := fun v _ => v = .int .i64 (cmpI b 0)) hp (free_of rfl) gqi (sqi 9) (fun ρ w hc h => ⟨.bool false, by simp [execOp, go_sem, h, hc, T5.out], rfl⟩)
 ·exact q_two (F := fun v _ => v = .bool false) (G := fun v _ => v = .bool false) hp (free_of rfl) trivial (sqi 6) (sqi 10) (fun ρ w hc h h' => ⟨_, by simp [execOp, go_sem, h, h'], rfl⟩)
 ·exact q_assign hp (free_of rfl) trivial (sqi 11)
 intro L vs w5 nb hL hC hn E5
 have e0 : vs 0 = .int .i64 (cmpI (Int.natAbs b : Int) a) := hC 0 (by simp)
 have e1 : vs 1 = .bool false := hC 1 (by simp)
 have e2 : vs 2 = .bool false := hC 2 (by simp)
 have e3 : vs 3 = undef := hC 3 (by simp)
 have e4 : vs 4 = undef := hC 4 (by simp)
 have e5 : vs 5 = .bool false := hC 5 (by simp)
 have e6 : vs 6 = .bool false := hC 6 (by simp)
 have e7 : vs 7 = .pointer (some ⟨b1, 2, none⟩) := hC 7 (by simp)
 have e9 : vs 9 = .int .i64 (cmpI b 0) := hC 9 (by simp)
 have e10 : vs 10 = .bool false := hC 10 (by simp)
 have e11 : vs 11 = .bool false := hC 11 (by simp)
 have e12 : vs 12 = .bool false := hC 12 (by simp)
 have E : Fr w [(b1, 6, Fq.st [.n a, .n b, .n c])] w5 := E5
 rw [lay_all hL]
 simp only [putAll, dstOf, List.length_cons, List.length_nil, Nat.zero_add, Nat.reduceAdd, List.getElem?_toArray, List.getElem?_cons_zero, List.getElem?_cons_succ, Option.bind_some, Act.put, List.setIfInBounds_toArray, List.set_cons_succ, List.set_cons_zero]
 rw [e0, e1, e2, e3, e4, e5, e6, e7, e9, e10, e11, e12]
 generalize vs 8 = u5_8
 clear e0 e1 e2 e3 e4 e5 e6 e7 e9 e10 e11 e12 hC hn E5 hL vs L nb
 clear  T1 T2 T3 T5
 clear B2 ha hb hc
 go_wp2
 refine bodyPost_ret (v := .bool false) ?_ rfl ⟨_, rfl, E.below, rfl⟩
 simp [results, Try.results58, go_sem]

set_option maxRecDepth 100000 in
set_option maxHeartbeats 4000000 in
theorem exPIsRed_001 {w : World} {v : Value} {a b c : Int} (h : (Fq.st [.n a, .n b, .n c]).P v w) (ha : ab a < pw 60) (hb : ab b < pw 60) (hc : ab c < pw 60) (hx : ¬ a < (Int.natAbs b : Int)) (hy : a ≤ c) (k0 : ¬ (Int.natAbs b : Int) < a) (k1 : ¬ a < c) (k2 : 0 ≤ b) {t : Bool} (ht : redB a b c = t) :
  Calls Try.prog 58 #[v] w fun e w' => ∃ v', e = .returned v' ∧ Below w.heap.size w w' ∧ v' = .bool t := by
 replace ha := hidd ha
 replace hb := hidd hb
 replace hc := hidd hc
 have ht2 : t = true := ht.symm.trans (by unfold redB; exact decide_eq_true (by omega))
 subst ht2
 clear ht
 have T1 : Hid (¬ 0 < cmpI (Int.natAbs b : Int) a) := fun e => by have := cmpIqgt.1 e; omega
 have T2 : Hid (¬ 0 < cmpI a c) := fun e => by have := cmpIqgt.1 e; omega
 have T3 : Hid (¬ cmpI (Int.natAbs b : Int) a < 0) := fun e => k0 (cmpIqlt.1 e)
 have T5 : Hid (0 ≤ cmpI b 0) := by have := mt cmpIqlt.1 (show ¬ b < 0 by omega); show _ ≤ _; omega
 clear hx hy k0 k1 k2
 obtain ⟨_, rfl, hf0⟩ := h
 have hF0 := hf0
 obtain ⟨y0_p0, y0_q0, _, rfl, _y0_n0, y0_p1, y0_q1, _, rfl, _y0_n1, y0_p2, y0_q2, _, rfl, _y0_n2, rfl⟩ := hf0
 obtain ⟨w1, b1, hw1, hb1, hs1, E⟩ := fr_start w (F := Fq.st [.n a, .n b, .n c]) (us := [y0_p0, y0_q0, y0_p1, y0_q1, y0_p2, y0_q2]) 33 rfl (by simp) (hF0.tame) (show (Fq.st [.n a, .n b, .n c]).P _ w from ⟨_, rfl, hF0⟩)
 go_enter Try.func58, Try.ntmps58
 go_upto_region 1 with (fail)
 rw [← hw1]
 rw [← hb1]
 clear hw1 hb1 hs1
 have B2 : Hid (ab ((Int.natAbs b : Int)) < pw 60) := ab_absB hb.out
 refine region_fr (C := [Fq.is (.pointer (some ⟨b1, 2, none⟩)), Fq.num b, Fq.num (Int.natAbs b : Int), Fq.is (.pointer (some ⟨b1, 0, none⟩)), Fq.num a, Fq.is (.int .i64 (cmpI (Int.natAbs b : Int) a)), Fq.is (.pointer (some ⟨b1, 0, none⟩)), Fq.num a, Fq.is (.pointer (some ⟨b1, 4, none⟩)), Fq.num c, Fq.is (.int .i64 (cmpI a c)), Fq.is (.int .i64 (cmpI (Int.natAbs b : Int) a)), Fq.is (.int .i64 (cmpI a c))]) (ks := [none]) (new := []) E rfl (by kernel_rfl) rfl rfl (fun hp => ⟨?_, ?_, ?_, ?_, ?_, ?_, ?_, ?_, ?_, ?_, ?_, ?_, ?_, trivial⟩) ?_
 ·exact q_addr (b := b1) (off := 0) (off' := 2) hp (free_of rfl) trivial (sqo 1) (fun ρ w h => by simp [execOp, go_sem, h]) (fun _ => rfl)
 ·exact q_loadSt (off := 2) (l := 2) (fs := [.n a, .n b, .n c]) (gs := [.n b]) hp (free_of rfl) trivial (mq 0 rfl) (.inl rfl) rfl row_api_Int rfl (sqi 0) (fun v w h => st_num h)
 ·exact q_call1 (F := (Fq.num b).P) hp (free_of rfl) trivial (enq_Abs) (sqi 1) (fun v w h => exK (AbsV h) B2.out (by omega))
 ·exact q_addr (b := b1) (off := 0) (off' := 0) hp (free_of rfl) trivial (sqo 1) (fun ρ w h => by simp [execOp, go_sem, h]) (fun _ => rfl)
 ·exact q_loadSt (off := 0) (l := 2) (fs := [.n a, .n b, .n c]) (gs := [.n a]) hp (free_of rfl) trivial (mq 0 rfl) (.inl rfl) rfl row_api_Int rfl (sqi 3) (fun v w h => st_num h)
 ·exact q_call2 (F := (Fq.num (Int.natAbs b : Int)).P) (G := (Fq.num a).P) hp (free_of rfl) trivial (enq_Cmp) (sqi 2) (sqi 4) (fun v v' w h h' => exCmp h h')
 ·exact q_addr (b := b1) (off := 0) (off' := 0) hp (free_of rfl) trivial (sqo 1) (fun ρ w h => by simp [execOp, go_sem, h]) (fun _ => rfl)
 ·exact q_loadSt (off := 0) (l := 2) (fs := [.n a, .n b, .n c]) (gs := [.n a]) hp (free_of rfl) trivial (mq 0 rfl) (.inl rfl) rfl row_api_Int rfl (sqi 6) (fun v w h => st_num h)
 ·exact q_addr (b := b1) (off := 0) (off' := 4) hp (free_of rfl) trivial (sqo 1) (fun ρ w h => by simp [execOp, go_sem, h]) (fun _ => rfl)
 ·exact q_loadSt (off := 4) (l := 2) (fs := [.n a, .n b, .n c]) (gs := [.n c]) hp (free_of rfl) trivial (mq 0 rfl) (.inl rfl) rfl row_api_Int rfl (sqi 8) (fun v w h => st_num h)
 ·exact q_call2 (F := (Fq.num a).P) (G := (Fq.num c).P) hp (free_of rfl) trivial (enq_Cmp) (sqi 7) (sqi 9) (fun v v' w h h' => exCmp h h')
 ·exact q_assign hp (free_of rfl) trivial (sqi 5)
 ·exact q_assign hp (free_of rfl) trivial (sqi 10)
 intro L vs w3 nb hL hC hn E3
 have e0 : vs 0 = .pointer (some ⟨b1, 2, none⟩) := hC 0 (by simp)
 have e3 : vs 3 = .pointer (some ⟨b1, 0, none⟩) := hC 3 (by simp)
 have e5 : vs 5 = .int .i64 (cmpI (Int.natAbs b : Int) a) := hC 5 (by simp)
 have e6 : vs 6 = .pointer (some ⟨b1, 0, none⟩) := hC 6 (by simp)
 have e8 : vs 8 = .pointer (some ⟨b1, 4, none⟩) := hC 8 (by simp)
 have e10 : vs 10 = .int .i64 (cmpI a c) := hC 10 (by simp)
 have e11 : vs 11 = .int .i64 (cmpI (Int.natAbs b : Int) a) := hC 11 (by simp)
 have e12 : vs 12 = .int .i64 (cmpI a c) := hC 12 (by simp)
 have E : Fr w [(b1, 6, Fq.st [.n a, .n b, .n c])] w3 := E3
 rw [lay_all hL]
 simp only [putAll, dstOf, List.length_cons, List.length_nil, Nat.zero_add, Nat.reduceAdd, List.getElem?_toArray, List.getElem?_cons_zero, List.getElem?_cons_succ, Option.bind_some, Act.put, List.setIfInBounds_toArray, List.set_cons_succ, List.set_cons_zero]
 rw [e0, e3, e5, e6, e8, e10, e11, e12]
 generalize vs 1 = u3_1
 generalize vs 2 = u3_2
 generalize vs 4 = u3_4
 generalize vs 7 = u3_7
 generalize vs 9 = u3_9
 clear e0 e3 e5 e6 e8 e10 e11 e12 hC hn E3 hL vs L nb
 go_upto_region 2 with (fail)
 refine region_fr (C := [Fq.is (.int .i64 (cmpI (Int.natAbs b : Int) a)), Fq.is (.bool false), Fq.is (.bool false), Fq.is (.int .i64 (cmpI a c)), Fq.is (.bool false), Fq.is (.bool false)]) (ks := [none]) (new := []) E rfl (by kernel_rfl) rfl rfl (fun hp => ⟨?_, ?_, ?_, ?_, ?_, ?_, trivial⟩) ?_
 ·exact q_move hp (free_of rfl) trivial (sqo 3)
 ·exact q_one (F := fun v _ => v = .int .i64 (cmpI (Int.natAbs b : Int) a)) hp (free_of rfl) trivial (sqi 0) (fun ρ w hc h => ⟨.bool false, by simp [execOp, go_sem, h, hc, T1.out], rfl⟩)
 ·exact q_move hp (free_of rfl) trivial (sqi 1)
 ·exact q_move hp (free_of rfl) gqi (sqo 4)
 ·exact q_one (F := fun v _ => v = .int .i64 (cmpI a c)) hp (free_of rfl) gqi (sqi 3) (fun ρ w hc h => ⟨.bool false, by simp [execOp, go_sem, h, hc, T2.out], rfl⟩)
 ·exact q_two (F := fun v _ => v = .bool false) (G := fun v _ => v = .bool false) hp (free_of rfl) trivial (sqi 2) (sqi 4) (fun ρ w hc h h' => ⟨_, by simp [execOp, go_sem, h, h'], rfl⟩)
 intro L vs w4 nb hL hC hn E4
 have e0 : vs 0 = .int .i64 (cmpI (Int.natAbs b : Int) a) := hC 0 (by simp)
 have e1 : vs 1 = .bool false := hC 1 (by simp)
 have e2 : vs 2 = .bool false := hC 2 (by simp)
 have e3 : vs 3 = .int .i64 (cmpI a c) := hC 3 (by simp)
 have e4 : vs 4 = .bool false := hC 4 (by simp)
 have e5 : vs 5 = .bool false := hC 5 (by simp)
 have E : Fr w [(b1, 6, Fq.st [.n a, .n b, .n c])] w4 := E4
 rw [lay_all hL]
 simp only [putAll, dstOf, List.length_cons, List.length_nil, Nat.zero_add, Nat.reduceAdd, List.getElem?_toArray, List.getElem?_cons_zero, List.getElem?_cons_succ, Option.bind_some, Act.put, List.setIfInBounds_toArray, List.set_cons_succ, List.set_cons_zero]
 rw [e0, e1, e2, e3, e4, e5]
 clear e0 e1 e2 e3 e4 e5 hC hn E4 hL vs L nb
 go_upto_region 4 with (fail)
 refine region_fr (C := [Fq.is (.int .i64 (cmpI (Int.natAbs b : Int) a)), Fq.is (.bool false), Fq.is (.bool false), Fq.is (undef), Fq.is (undef), Fq.is (.bool false), Fq.is (.bool false), Fq.is (.pointer (some ⟨b1, 2, none⟩)), Fq.num b, Fq.is (.int .i64 (cmpI b 0)), Fq.is (.bool true), Fq.is (.bool true), Fq.is (.bool true)]) (ks := [none]) (new := []) E rfl (by kernel_rfl) rfl rfl (fun hp => ⟨?_, ?_, ?_, ?_, ?_, ?_, ?_, ?_, ?_, ?_, ?_, ?_, ?_, trivial⟩) ?_
 ·exact q_move hp (free_of rfl) trivial (sqo 3)
 ·exact q_one (F := fun v _ => v = .int .i64 (cmpI (Int.natAbs b : Int) a)) hp (free_of rfl) trivial (sqi 0) (fun ρ w hc h => ⟨.bool false, by simp [execOp, go_sem, h, hc, T3.out], rfl⟩)
 ·exact q_move hp (free_of rfl) trivial (sqi 1)
 ·exact q_skip hp (free_of rfl) rfl gqi (fun _ => rfl)
 ·exact q_skip hp (free_of rfl) rfl gqi (fun _ => rfl)
 ·exact q_two (F := fun v _ => v = .bool false) (G := fun v _ => v = .bool false) hp (free_of rfl) trivial (sqi 2) (sq_const (fun _ => rfl)) (fun ρ w hc h h' => ⟨_, by simp [execOp, go_sem, h, h'], rfl⟩)
 ·exact q_move hp (free_of rfl) trivial (sqi 5)
 ·exact q_addr (b := b1) (off := 0) (off' := 2) hp (free_of rfl) gqi (sqo 1) (fun ρ w h => by simp [execOp, go_sem, h]) (fun _ => rfl)
 ·exact q_loadSt (off := 2) (l := 2) (fs := [.n a, .n b, .n c]) (gs := [.n b]) hp (free_of rfl) gqi (mq 0 rfl) (.inl rfl) rfl row_api_Int rfl (sqi 7) (fun v w h => st_num h)
 ·exact q_call1 (F := (Fq.num b).P) hp (free_of rfl) gqi (enq_Sign) (sqi 8) (fun v w h => exSign h)
 ·exact q_one (F := fun v _ => v = .int .i64 (cmpI b 0)) hp (free_of rfl) gqi (sqi 9) (fun ρ w hc h => ⟨.bool true, by simp [execOp, go_sem, h, hc, T5.out], rfl⟩)
 ·exact q_two (F := fun v _ => v = .bool false) (G := fun v _ => v = .bool true) hp (free_of rfl) trivial (sqi 6) (sqi 10) (fun ρ w hc h h' => ⟨_, by simp [execOp, go_sem, h, h'], rfl⟩)
 ·exact q_assign hp (free_of rfl) trivial (sqi 11)
 intro L vs w5 nb hL hC hn E5
 have e0 : vs 0 = .int .i64 (cmpI (Int.natAbs b : Int) a) := hC 0 (by simp)
 have e1 : vs 1 = .bool false := hC 1 (by simp)
 have e2 : vs 2 = .bool false := hC 2 (by simp)
 have e3 : vs 3 = undef := hC 3 (by simp)
 have e4 : vs 4 = undef := hC 4 (by simp)
 have e5 : vs 5 = .bool false := hC 5 (by simp)
 have e6 : vs 6 = .bool false := hC 6 (by simp)
 have e7 : vs 7 = .pointer (some ⟨b1, 2, none⟩) := hC 7 (by simp)
 have e9 : vs 9 = .int .i64 (cmpI b 0) := hC 9 (by simp)
 have e10 : vs 10 = .bool true := hC 10 (by simp)
 have e11 : vs 11 = .bool true := hC 11 (by simp)
 have e12 : vs 12 = .bool true := hC 12 (by simp)
 have E : Fr w [(b1, 6, Fq.st [.n a, .n b, .n c])] w5 := E5
 rw [lay_all hL]
 simp only [putAll, dstOf, List.length_cons, List.length_nil, Nat.zero_add, Nat.reduceAdd, List.getElem?_toArray, List.getElem?_cons_zero, List.getElem?_cons_succ, Option.bind_some, Act.put, List.setIfInBounds_toArray, List.set_cons_succ, List.set_cons_zero]
 rw [e0, e1, e2, e3, e4, e5, e6, e7, e9, e10, e11, e12]
 generalize vs 8 = u5_8
 clear e0 e1 e2 e3 e4 e5 e6 e7 e9 e10 e11 e12 hC hn E5 hL vs L nb
 clear  T1 T2 T3 T5
 clear B2 ha hb hc
 go_wp2
 refine bodyPost_ret (v := .bool true) ?_ rfl ⟨_, rfl, E.below, rfl⟩
 simp [results, Try.results58, go_sem]

theorem exPIsReduced {w : World} {v : Value} {a b c : Int} (h : (Fq.st [.n a, .n b, .n c]).P v w) (ha : ab a < pw 60) (hb : ab b < pw 60) (hc : ab c < pw 60) {t : Bool} (ht : redB a b c = t) :
  Calls Try.prog 58 #[v] w fun e w' => ∃ v', e = .returned v' ∧ Below w.heap.size w w' ∧ v' = .bool t := by
 by_cases hx : a < (Int.natAbs b : Int)
 ·exact exPIsRed_b h ha hb hc hx ht
 by_cases hy : a ≤ c
 ·by_cases k0 : (Int.natAbs b : Int) < a
  ·by_cases k1 : a < c
   ·exact exPIsRed_11 h ha hb hc hx hy k0 k1 ht
   ·by_cases k2 : 0 ≤ b
    ·exact exPIsRed_101 h ha hb hc hx hy k0 k1 k2 ht
    ·exact exPIsRed_100 h ha hb hc hx hy k0 k1 k2 ht
  ·by_cases k1 : a < c
   ·by_cases k2 : 0 ≤ b
    ·exact exPIsRed_011 h ha hb hc hx hy k0 k1 k2 ht
    ·exact exPIsRed_010 h ha hb hc hx hy k0 k1 k2 ht
   ·by_cases k2 : 0 ≤ b
    ·exact exPIsRed_001 h ha hb hc hx hy k0 k1 k2 ht
    ·exact exPIsRed_000 h ha hb hc hx hy k0 k1 k2 ht
 ·exact exPIsRed_c h ha hb hc hx hy ht

set_option maxRecDepth 100000 in
set_option maxHeartbeats 4000000 in
theorem exPCheckDef_chk {w : World} {v : Value} {a b c : Int} (h : (Fq.st [.n a, .n b, .n c]).P v w) (ha : ab a < pw 15) (hb : ab b < pw 15) (hc : ab c < pw 15) {er : Int} (he : chkF a b c = er) (hn : ¬ er = 0) :
  Calls Try.prog 56 #[v] w fun e w' => ∃ v', e = .returned v' ∧ Below w.heap.size w w' ∧ v' = .int .i64 er := by
 replace ha := hidd ha
 replace hb := hidd hb
 replace hc := hidd hc
 have HC := hidd he
 have HDB := hidd (disc_ab ha.out hb.out hc.out)
 clear he
 have HN := hidd hn
 clear hn
 obtain ⟨_, rfl, hf0⟩ := h
 have hF0 := hf0
 obtain ⟨y0_p0, y0_q0, _, rfl, _y0_n0, y0_p1, y0_q1, _, rfl, _y0_n1, y0_p2, y0_q2, _, rfl, _y0_n2, rfl⟩ := hf0
 obtain ⟨w1, b1, hw1, hb1, hs1, E⟩ := fr_start w (F := Fq.st [.n a, .n b, .n c]) (us := [y0_p0, y0_q0, y0_p1, y0_q1, y0_p2, y0_q2]) 33 rfl (by simp) (hF0.tame) (show (Fq.st [.n a, .n b, .n c]).P _ w from ⟨_, rfl, hF0⟩)
 go_enter Try.func56, Try.ntmps56
 go_upto_region 1 with (fail)
 rw [← hw1]
 rw [← hb1]
 clear hw1 hb1 hs1
 refine region_fr (C := [Fq.st [.n a, .n b, .n c], Fq.is (.int .i64 er), Fq.is (.int .i64 er)]) (ks := [none]) (new := []) E rfl (by kernel_rfl) rfl rfl (fun hp => ⟨?_, ?_, ?_, trivial⟩) ?_
 ·exact q_loadSt (off := 0) (l := 6) (fs := [.n a, .n b, .n c]) (gs := [.n a, .n b, .n c]) hp (free_of rfl) trivial (mq 0 rfl) (.inl rfl) rfl row_api_Form rfl (sqo 1) (fun v w h => h)
 ·exact q_call1 (F := (Fq.st [.n a, .n b, .n c]).P) hp (free_of rfl) trivial (enq_f_algorist_quadratic_Check) (sqi 0) (fun v w h => exPCheck h ha.out hb.out hc.out HC.out)
 ·exact q_assign hp (free_of rfl) trivial (sqi 1)
 intro L vs w2 nb hL hC hn E2
 have e1 : vs 1 = .int .i64 er := hC 1 (by simp)
 have e2 : vs 2 = .int .i64 er := hC 2 (by simp)
 have E : Fr w [(b1, 6, Fq.st [.n a, .n b, .n c])] w2 := E2
 rw [lay_all hL]
 simp only [putAll, dstOf, List.length_cons, List.length_nil, Nat.zero_add, Nat.reduceAdd, List.getElem?_toArray, List.getElem?_cons_zero, List.getElem?_cons_succ, Option.bind_some, Act.put, List.setIfInBounds_toArray, List.set_cons_succ, List.set_cons_zero]
 rw [e1, e2]
 generalize vs 0 = u2_0
 clear e1 e2 hC hn E2 hL vs L nb
 go_upto_region 2 with (fail)
 refine region_fr (C := [Fq.is (.int .i64 er), Fq.is (.bool true)]) (ks := [none]) (new := []) E rfl (by kernel_rfl) rfl rfl (fun hp => ⟨?_, ?_, trivial⟩) ?_
 ·exact q_move hp (free_of rfl) trivial (sqo 3)
 ·exact q_one (F := fun v _ => v = .int .i64 er) hp (free_of rfl) trivial (sqi 0) (fun ρ w hc h => ⟨.bool true, by simp [execOp, go_sem, h, hc, HN.out], rfl⟩)
 intro L vs w3 nb hL hC hn E3
 have e0 : vs 0 = .int .i64 er := hC 0 (by simp)
 have e1 : vs 1 = .bool true := hC 1 (by simp)
 have E : Fr w [(b1, 6, Fq.st [.n a, .n b, .n c])] w3 := E3
 rw [lay_all hL]
 simp only [putAll, dstOf, List.length_cons, List.length_nil, Nat.zero_add, Nat.reduceAdd, List.getElem?_toArray, List.getElem?_cons_zero, List.getElem?_cons_succ, Option.bind_some, Act.put, List.setIfInBounds_toArray, List.set_cons_succ, List.set_cons_zero]
 rw [e0, e1]
 clear e0 e1 hC hn E3 hL vs L nb
 go_upto_region 3 with (fail)
 refine region_fr (C := [Fq.is (.int .i64 er), Fq.is (.int .i64 er)]) (ks := [none]) (new := []) E rfl (by kernel_rfl) rfl rfl (fun hp => ⟨?_, ?_, trivial⟩) ?_
 ·exact q_move hp (free_of rfl) trivial (sqo 3)
 ·exact q_assign hp (free_of rfl) trivial (sqi 0)
 intro L vs w4 nb hL hC hn E4
 have e0 : vs 0 = .int .i64 er := hC 0 (by simp)
 have e1 : vs 1 = .int .i64 er := hC 1 (by simp)
 have E : Fr w [(b1, 6, Fq.st [.n a, .n b, .n c])] w4 := E4
 rw [lay_all hL]
 simp only [putAll, dstOf, List.length_cons, List.length_nil, Nat.zero_add, Nat.reduceAdd, List.getElem?_toArray, List.getElem?_cons_zero, List.getElem?_cons_succ, Option.bind_some, Act.put, List.setIfInBounds_toArray, List.set_cons_succ, List.set_cons_zero]
 rw [e0, e1]
 clear e0 e1 hC hn E4 hL vs L nb
 clear HC HN
 clear ha hb hc HDB
 go_wp2
 refine bodyPost_ret (v := .int .i64 er) ?_ rfl ⟨_, rfl, E.below, rfl⟩
 simp [results, Try.results56, go_sem]

set_option maxRecDepth 100000 in
set_option maxHeartbeats 4000000 in
theorem exPCheckDef_pos {w : World} {v : Value} {a b c : Int} (h : (Fq.st [.n a, .n b, .n c]).P v w) (ha : ab a < pw 15) (hb : ab b < pw 15) (hc : ab c < pw 15) (he : chkF a b c = 0) (hd : 0 < (b * b - 4 * (a * c))) :
  Calls Try.prog 56 #[v] w fun e w' => ∃ v', e = .returned v' ∧ Below w.heap.size w w' ∧ v' = .int .i64 5 := by
 replace ha := hidd ha
 replace hb := hidd hb
 replace hc := hidd hc
 have HC := hidd he
 have HDB := hidd (disc_ab ha.out hb.out hc.out)
 clear he
 have T1 : Hid (0 < cmpI (b * b - 4 * (a * c)) 0) := cmpIqgt.2 hd
 clear hd
 obtain ⟨_, rfl, hf0⟩ := h
 have hF0 := hf0
 obtain ⟨y0_p0, y0_q0, _, rfl, _y0_n0, y0_p1, y0_q1, _, rfl, _y0_n1, y0_p2, y0_q2, _, rfl, _y0_n2, rfl⟩ := hf0
 obtain ⟨w1, b1, hw1, hb1, hs1, E⟩ := fr_start w (F := Fq.st [.n a, .n b, .n c]) (us := [y0_p0, y0_q0, y0_p1, y0_q1, y0_p2, y0_q2]) 33 rfl (by simp) (hF0.tame) (show (Fq.st [.n a, .n b, .n c]).P _ w from ⟨_, rfl, hF0⟩)
 go_enter Try.func56, Try.ntmps56
 go_upto_region 1 with (fail)
 rw [← hw1]
 rw [← hb1]
 clear hw1 hb1 hs1
 refine region_fr (C := [Fq.st [.n a, .n b, .n c], Fq.is (.int .i64 0), Fq.is (.int .i64 0)]) (ks := [none]) (new := []) E rfl (by kernel_rfl) rfl rfl (fun hp => ⟨?_, ?_, ?_, trivial⟩) ?_
 ·exact q_loadSt (off := 0) (l := 6) (fs := [.n a, .n b, .n c]) (gs := [.n a, .n b, .n c]) hp (free_of rfl) trivial (mq 0 rfl) (.inl rfl) rfl row_api_Form rfl (sqo 1) (fun v w h => h)
 ·exact q_call1 (F := (Fq.st [.n a, .n b, .n c]).P) hp (free_of rfl) trivial (enq_f_algorist_quadratic_Check) (sqi 0) (fun v w h => exPCheck h ha.out hb.out hc.out HC.out)
 ·exact q_assign hp (free_of rfl) trivial (sqi 1)
 intro L vs w2 nb hL hC hn E2
 have e1 : vs 1 = .int .i64 0 := hC 1 (by simp)
 have e2 : vs 2 = .int .i64 0 := hC 2 (by simp)
 have E : Fr w [(b1, 6, Fq.st [.n a, .n b, .n c])] w2 := E2
 rw [lay_all hL]
 simp only [putAll, dstOf, List.length_cons, List.length_nil, Nat.zero_add, Nat.reduceAdd, List.getElem?_toArray, List.getElem?_cons_zero, List.getElem?_cons_succ, Option.bind_some, Act.put, List.setIfInBounds_toArray, List.set_cons_succ, List.set_cons_zero]
 rw [e1, e2]
 generalize vs 0 = u2_0
 clear e1 e2 hC hn E2 hL vs L nb
 go_upto_region 2 with (fail)
 refine region_fr (C := [Fq.is (.int .i64 0), Fq.is (.bool false)]) (ks := [none]) (new := []) E rfl (by kernel_rfl) rfl rfl (fun hp => ⟨?_, ?_, trivial⟩) ?_
 ·exact q_move hp (free_of rfl) trivial (sqo 3)
 ·exact q_one (F := fun v _ => v = .int .i64 0) hp (free_of rfl) trivial (sqi 0) (fun ρ w hc h => ⟨.bool false, by simp [execOp, go_sem, h, hc], rfl⟩)
 intro L vs w3 nb hL hC hn E3
 have e0 : vs 0 = .int .i64 0 := hC 0 (by simp)
 have e1 : vs 1 = .bool false := hC 1 (by simp)
 have E : Fr w [(b1, 6, Fq.st [.n a, .n b, .n c])] w3 := E3
 rw [lay_all hL]
 simp only [putAll, dstOf, List.length_cons, List.length_nil, Nat.zero_add, Nat.reduceAdd, List.getElem?_toArray, List.getElem?_cons_zero, List.getElem?_cons_succ, Option.bind_some, Act.put, List.setIfInBounds_toArray, List.set_cons_succ, List.set_cons_zero]
 rw [e0, e1]
 clear e0 e1 hC hn E3 hL vs L nb
 go_upto_region 4 with (fail)
 refine region_fr (C := [Fq.st [.n a, .n b, .n c], Fq.num (b * b - 4 * (a * c)), Fq.is (.int .i64 (cmpI (b * b - 4 * (a * c)) 0)), Fq.is (.bool true)]) (ks := [none]) (new := []) E rfl (by kernel_rfl) rfl rfl (fun hp => ⟨?_, ?_, ?_, ?_, trivial⟩) ?_
 ·exact q_loadSt (off := 0) (l := 6) (fs := [.n a, .n b, .n c]) (gs := [.n a, .n b, .n c]) hp (free_of rfl) trivial (mq 0 rfl) (.inl rfl) rfl row_api_Form rfl (sqo 1) (fun v w h => h)
 ·exact q_call1 (F := (Fq.st [.n a, .n b, .n c]).P) hp (free_of rfl) trivial (enq_f_algorist_quadratic_Disc) (sqi 0) (fun v w h => exPDisc h (Int.lt_of_lt_of_le ha.out (pw_le (by omega))) (Int.lt_of_lt_of_le hb.out (pw_le (by omega))) (Int.lt_of_lt_of_le hc.out (pw_le (by omega))))
 ·exact q_call1 (F := (Fq.num (b * b - 4 * (a * c))).P) hp (free_of rfl) trivial (enq_Sign) (sqi 1) (fun v w h => exSign h)
 ·exact q_one (F := fun v _ => v = .int .i64 (cmpI (b * b - 4 * (a * c)) 0)) hp (free_of rfl) trivial (sqi 2) (fun ρ w hc h => ⟨.bool true, by simp [execOp, go_sem, h, hc, T1.out], rfl⟩)
 intro L vs w4 nb hL hC hn E4
 have e2 : vs 2 = .int .i64 (cmpI (b * b - 4 * (a * c)) 0) := hC 2 (by simp)
 have e3 : vs 3 = .bool true := hC 3 (by simp)
 have E : Fr w [(b1, 6, Fq.st [.n a, .n b, .n c])] w4 := E4
 rw [lay_all hL]
 simp only [putAll, dstOf, List.length_cons, List.length_nil, Nat.zero_add, Nat.reduceAdd, List.getElem?_toArray, List.getElem?_cons_zero, List.getElem?_cons_succ, Option.bind_some, Act.put, List.setIfInBounds_toArray, List.set_cons_succ, List.set_cons_zero]
 rw [e2, e3]
 generalize vs 0 = u4_0
 generalize vs 1 = u4_1
 clear e2 e3 hC hn E4 hL vs L nb
 go_upto_region 5 with (fail)
 refine region_fr (C := [Fq.is (.int .i64 5)]) (ks := [none]) (new := []) E rfl (by kernel_rfl) rfl rfl (fun hp => ⟨?_, trivial⟩) ?_
 ·exact q_assign hp (free_of rfl) trivial (sq_const (fun _ => rfl))
 intro L vs w5 nb hL hC hn E5
 have e0 : vs 0 = .int .i64 5 := hC 0 (by simp)
 have E : Fr w [(b1, 6, Fq.st [.n a, .n b, .n c])] w5 := E5
 rw [lay_all hL]
 simp only [putAll, dstOf, List.length_cons, List.length_nil, Nat.zero_add, List.getElem?_toArray, List.getElem?_cons_zero, Option.bind_some, Act.put, List.setIfInBounds_toArray, List.set_cons_succ, List.set_cons_zero]
 rw [e0]
 clear e0 hC hn E5 hL vs L nb
 clear HC T1
 clear ha hb hc HDB
 go_wp2
 refine bodyPost_ret (v := .int .i64 5) ?_ rfl ⟨_, rfl, E.below, rfl⟩
 simp [results, Try.results56, go_sem]

set_option maxRecDepth 100000 in
set_option maxHeartbeats 4000000 in
theorem exPCheckDef_ok {w : World} {v : Value} {a b c : Int} (h : (Fq.st [.n a, .n b, .n c]).P v w) (ha : ab a < pw 15) (hb : ab b < pw 15) (hc : ab c < pw 15) (he : chkF a b c = 0) (hd : ¬ 0 < (b * b - 4 * (a * c))) :
  Calls Try.prog 56 #[v] w fun e w' => ∃ v', e = .returned v' ∧ Below w.heap.size w w' ∧ v' = .int .i64 0 := by
 replace ha := hidd ha
 replace hb := hidd hb
 replace hc := hidd hc
 have HC := hidd he
 have HDB := hidd (disc_ab ha.out hb.out hc.out)
 clear he
 have T1 : Hid (¬ 0 < cmpI (b * b - 4 * (a * c)) 0) := fun e => hd (cmpIqgt.1 e)
 clear hd
 obtain ⟨_, rfl, hf0⟩ := h
 have hF0 := hf0
 obtain ⟨y0_p0, y0_q0, _, rfl, _y0_n0, y0_p1, y0_q1, _, rfl, _y0_n1, y0_p2, y0_q2, _, rfl, _y0_n2, rfl⟩ := hf0
 obtain ⟨w1, b1, hw1, hb1, hs1, E⟩ := fr_start w (F := Fq.st [.n a, .n b, .n c]) (us := [y0_p0, y0_q0, y0_p1, y0_q1, y0_p2, y0_q2]) 33 rfl (by simp) (hF0.tame) (show (Fq.st [.n a, .n b, .n c]).P _ w from ⟨_, rfl, hF0⟩)
 go_enter Try.func56, Try.ntmps56
 go_upto_region 1 with (fail)
 rw [← hw1]
 rw [← hb1]
 clear hw1 hb1 hs1
 refine region_fr (C := [Fq.st [.n a, .n b, .n c], Fq.is (.int .i64 0), Fq.is (.int .i64 0)]) (ks := [none]) (new := []) E rfl (by kernel_rfl) rfl rfl (fun hp => ⟨?_, ?_, ?_, trivial⟩) ?_
 ·exact q_loadSt (off := 0) (l := 6) (fs := [.n a, .n b, .n c]) (gs := [.n a, .n b, .n c]) hp (free_of rfl) trivial (mq 0 rfl) (.inl rfl) rfl row_api_Form rfl (sqo 1) (fun v w h => h)
 ·exact q_call1 (F := (Fq.st [.n a, .n b, .n c]).P) hp (free_of rfl) trivial (enq_f_algorist_quadratic_Check) (sqi 0) (fun v w h => exPCheck h ha.out hb.out hc.out HC.out)
 ·exact q_assign hp (free_of rfl) trivial (sqi 1)
 intro L vs w2 nb hL hC hn E2
 have e1 : vs 1 = .int .i64 0 := hC 1 (by simp)
 have e2 : vs 2 = .int .i64 0 := hC 2 (by simp)
 have E : Fr w [(b1, 6, Fq.st [.n a, .n b, .n c])] w2 := E2
 rw [lay_all hL]
 simp only [putAll, dstOf, List.length_cons, List.length_nil, Nat.zero_add, Nat.reduceAdd, List.getElem?_toArray, List.getElem?_cons_zero, List.getElem?_cons_succ, Option.bind_some, Act.put, List.setIfInBounds_toArray, List.set_cons_succ, List.set_cons_zero]
 rw [e1, e2]
 generalize vs 0 = u2_0
 clear e1 e2 hC hn E2 hL vs L nb
 go_upto_region 2 with (fail)
 refine region_fr (C := [Fq.is (.int .i64 0), Fq.is (.bool false)]) (ks := [none]) (new := []) E rfl (by kernel_rfl) rfl rfl (fun hp => ⟨?_, ?_, trivial⟩) ?_
 ·exact q_move hp (free_of rfl) trivial (sqo 3)
 ·exact q_one (F := fun v _ => v = .int .i64 0) hp (free_of rfl) trivial (sqi 0) (fun ρ w hc h => ⟨.bool false, by simp [execOp, go_sem, h, hc], rfl⟩)
 intro L vs w3 nb hL hC hn E3
 have e0 : vs 0 = .int .i64 0 := hC 0 (by simp)
 have e1 : vs 1 = .bool false := hC 1 (by simp)
 have E : Fr w [(b1, 6, Fq.st [.n a, .n b, .n c])] w3 := E3
 rw [lay_all hL]
 simp only [putAll, dstOf, List.length_cons, List.length_nil, Nat.zero_add, Nat.reduceAdd, List.getElem?_toArray, List.getElem?_cons_zero, List.getElem?_cons_succ, Option.bind_some, Act.put, List.setIfInBounds_toArray, List.set_cons_succ, List.set_cons_zero]
 rw [e0, e1]
 clear e0 e1 hC hn E3 hL vs L nb
 go_upto_region 4 with (fail)
 refine region_fr (C := [Fq.st [.n a, .n b, .n c], Fq.num (b * b - 4 * (a * c)), Fq.is (.int .i64 (cmpI (b * b - 4 * (a * c)) 0)), Fq.is (.bool false)]) (ks := [none]) (new := []) E rfl (by kernel_rfl) rfl rfl (fun hp => ⟨?_, ?_, ?_, ?_, trivial⟩) ?_
 ·exact q_loadSt (off := 0) (l := 6) (fs := [.n a, .n b, .n c]) (gs := [.n a, .n b, .n c]) hp (free_of rfl) trivial (mq 0 rfl) (.inl rfl) rfl row_api_Form rfl (sqo 1) (fun v w h => h)
 ·exact q_call1 (F := (Fq.st [.n a, .n b, .n c]).P) hp (free_of rfl) trivial (enq_f_algorist_quadratic_Disc) (sqi 0) (fun v w h => exPDisc h (Int.lt_of_lt_of_le ha.out (pw_le (by omega))) (Int.lt_of_lt_of_le hb.out (pw_le (by omega))) (Int.lt_of_lt_of_le hc.out (pw_le (by omega))))
 ·exact q_call1 (F := (Fq.num (b * b - 4 * (a * c))).P) hp (free_of rfl) trivial (enq_Sign) (sqi 1) (fun v w h => exSign h)
 ·exact q_one (F := fun v _ => v = .int .i64 (cmpI (b * b - 4 * (a * c)) 0)) hp (free_of rfl) trivial (sqi 2) (fun ρ w hc h => ⟨.bool false, by simp [execOp, go_sem, h, hc, T1.out], rfl⟩)
 intro L vs w4 nb hL hC hn E4
 have e2 : vs 2 = .int .i64 (cmpI (b * b - 4 * (a * c)) 0) := hC 2 (by simp)
 have e3 : vs 3 = .bool false := hC 3 (by simp)
 have E : Fr w [(b1, 6, Fq.st [.n a, .n b, .n c])] w4 := E4
 rw [lay_all hL]
 simp only [putAll, dstOf, List.length_cons, List.length_nil, Nat.zero_add, Nat.reduceAdd, List.getElem?_toArray, List.getElem?_cons_zero, List.getElem?_cons_succ, Option.bind_some, Act.put, List.setIfInBounds_toArray, List.set_cons_succ, List.set_cons_zero]
 rw [e2, e3]
 generalize vs 0 = u4_0
 generalize vs 1 = u4_1
 clear e2 e3 hC hn E4 hL vs L nb
 go_upto_region 6 with (fail)
 refine region_fr (C := [Fq.is (.int .i64 0)]) (ks := [none]) (new := []) E rfl (by kernel_rfl) rfl rfl (fun hp => ⟨?_, trivial⟩) ?_
 ·exact q_assign hp (free_of rfl) trivial (sq_const (fun _ => rfl))
 intro L vs w5 nb hL hC hn E5
 have e0 : vs 0 = .int .i64 0 := hC 0 (by simp)
 have E : Fr w [(b1, 6, Fq.st [.n a, .n b, .n c])] w5 := E5
 rw [lay_all hL]
 simp only [putAll, dstOf, List.length_cons, List.length_nil, Nat.zero_add, List.getElem?_toArray, List.getElem?_cons_zero, Option.bind_some, Act.put, List.setIfInBounds_toArray, List.set_cons_succ, List.set_cons_zero]
 rw [e0]
 clear e0 hC hn E5 hL vs L nb
 clear HC T1
 clear ha hb hc HDB
 go_wp2
 refine bodyPost_ret (v := .int .i64 0) ?_ rfl ⟨_, rfl, E.below, rfl⟩
 simp [results, Try.results56, go_sem]

theorem exPCheckDef {w : World} {v : Value} {a b c : Int} (h : (Fq.st [.n a, .n b, .n c]).P v w) (ha : ab a < pw 15) (hb : ab b < pw 15) (hc : ab c < pw 15) {er : Int} (he : redE a b c = er) :
  Calls Try.prog 56 #[v] w fun e w' => ∃ v', e = .returned v' ∧ Below w.heap.size w w' ∧ v' = .int .i64 er := by
 subst he
 unfold redE
 by_cases h1 : chkF a b c = 0 ∧ 0 < b * b - 4 * (a * c)
 ·rw [if_pos h1]; exact exPCheckDef_pos h ha hb hc h1.1 h1.2
 ·rw [if_neg h1]
  by_cases h2 : chkF a b c = 0
  ·have hh := exPCheckDef_ok h ha hb hc h2 (fun x => h1 ⟨h2, x⟩)
   rw [← h2] at hh
   exact hh
  ·exact exPCheckDef_chk h ha hb hc rfl h2

set_option maxRecDepth 100000 in
set_option maxHeartbeats 4000000 in
theorem exPReduced_no {w : World} {v : Value} {a b c : Int} (h : (Fq.st [.n a, .n b, .n c]).P v w) (ha : ab a < pw 15) (hb : ab b < pw 15) (hc : ab c < pw 15) (hdf : dfB a b c = false) {t : Bool} (ht : (dfB a b c && redB a b c) = t) :
  Calls Try.prog 24 #[v] w fun e w' => ∃ v', e = .returned v' ∧ Below w.heap.size w w' ∧ v' = .bool t := by
 replace ha := hidd ha
 replace hb := hidd hb
 replace hc := hidd hc
 have ht2 : t = false := ht.symm.trans (by rw [hdf]; rfl)
 subst ht2
 clear ht
 obtain ⟨er, he⟩ : ∃ er, er = redE a b c := ⟨_, rfl⟩
 have hn : ¬ er = 0 := fun e => by rw [redE_dfB, ← he, e] at hdf; exact absurd hdf (by decide)
 have HN := hidd hn
 have HE := hidd he.symm
 clear hdf he hn
 obtain ⟨_, rfl, hf0⟩ := h
 have hF0 := hf0
 obtain ⟨y0_p0, y0_q0, _, rfl, _y0_n0, y0_p1, y0_q1, _, rfl, _y0_n1, y0_p2, y0_q2, _, rfl, _y0_n2, rfl⟩ := hf0
 obtain ⟨w1, b1, hw1, hb1, hs1, E⟩ := fr_start w (F := Fq.st [.n a, .n b, .n c]) (us := [y0_p0, y0_q0, y0_p1, y0_q1, y0_p2, y0_q2]) 33 rfl (by simp) (hF0.tame) (show (Fq.st [.n a, .n b, .n c]).P _ w from ⟨_, rfl, hF0⟩)
 go_enter Try.func24, Try.ntmps24
 go_upto_region 1 with (fail)
 rw [← hw1]
 rw [← hb1]
 clear hw1 hb1 hs1
 refine region_fr (C := [Fq.st [.n a, .n b, .n c], Fq.is (.int .i64 er), Fq.is (.bool false), Fq.is (.bool false), Fq.is (undef), Fq.is (undef), Fq.is (.bool false), Fq.is (.bool false)]) (ks := [none]) (new := []) E rfl (by kernel_rfl) rfl rfl (fun hp => ⟨?_, ?_, ?_, ?_, ?_, ?_, ?_, ?_, trivial⟩) ?_
 ·exact q_loadSt (off := 0) (l := 6) (fs := [.n a, .n b, .n c]) (gs := [.n a, .n b, .n c]) hp (free_of rfl) trivial (mq 0 rfl) (.inl rfl) rfl row_api_Form rfl (sqo 1) (fun v w h => h)
 ·exact q_call1 (F := (Fq.st [.n a, .n b, .n c]).P) hp (free_of rfl) trivial (enq_f_algorist_quadratic_checkDefinite) (sqi 0) (fun v w h => exPCheckDef h ha.out hb.out hc.out HE.out)
 ·exact q_one (F := fun v _ => v = .int .i64 er) hp (free_of rfl) trivial (sqi 1) (fun ρ w hc h => ⟨.bool false, by simp [execOp, go_sem, h, hc, HN.out], rfl⟩)
 ·exact q_move hp (free_of rfl) trivial (sqi 2)
 ·exact q_skip hp (free_of rfl) rfl gqi (fun _ => rfl)
 ·exact q_skip hp (free_of rfl) rfl gqi (fun _ => rfl)
 ·exact q_two (F := fun v _ => v = .bool false) (G := fun v _ => v = .bool false) hp (free_of rfl) trivial (sqi 3) (sq_const (fun _ => rfl)) (fun ρ w hc h h' => ⟨_, by simp [execOp, go_sem, h, h'], rfl⟩)
 ·exact q_assign hp (free_of rfl) trivial (sqi 6)
 intro L vs w2 nb hL hC hn E2
 have e1 : vs 1 = .int .i64 er := hC 1 (by simp)
 have e2 : vs 2 = .bool false := hC 2 (by simp)
 have e3 : vs 3 = .bool false := hC 3 (by simp)
 have e4 : vs 4 = undef := hC 4 (by simp)
 have e5 : vs 5 = undef := hC 5 (by simp)
 have e6 : vs 6 = .bool false := hC 6 (by simp)
 have e7 : vs 7 = .bool false := hC 7 (by simp)
 have E : Fr w [(b1, 6, Fq.st [.n a, .n b, .n c])] w2 := E2
 rw [lay_all hL]
 simp only [putAll, dstOf, List.length_cons, List.length_nil, Nat.zero_add, Nat.reduceAdd, List.getElem?_toArray, List.getElem?_cons_zero, List.getElem?_cons_succ, Option.bind_some, Act.put, List.setIfInBounds_toArray, List.set_cons_succ, List.set_cons_zero]
 rw [e1, e2, e3, e4, e5, e6, e7]
 generalize vs 0 = u2_0
 clear e1 e2 e3 e4 e5 e6 e7 hC hn E2 hL vs L nb
 clear HN HE
 clear ha hb hc
 go_wp2
 refine bodyPost_ret (v := .bool false) ?_ rfl ⟨_, rfl, E.below, rfl⟩
 simp [results, Try.results24, go_sem]

set_option maxRecDepth 100000 in
set_option maxHeartbeats 4000000 in
theorem exPReduced_yes {w : World} {v : Value} {a b c : Int} (h : (Fq.st [.n a, .n b, .n c]).P v w) (ha : ab a < pw 15) (hb : ab b < pw 15) (hc : ab c < pw 15) (hdf : dfB a b c = true) {t : Bool} (ht : (dfB a b c && redB a b c) = t) :
  Calls Try.prog 24 #[v] w fun e w' => ∃ v', e = .returned v' ∧ Below w.heap.size w w' ∧ v' = .bool t := by
 replace ha := hidd ha
 replace hb := hidd hb
 replace hc := hidd hc
 have he : redE a b c = 0 := by rw [redE_dfB] at hdf; exact of_decide_eq_true hdf
 have HE := hidd he
 have HT := hidd (show redB a b c = t by rw [hdf, Bool.true_and] at ht; exact ht)
 clear hdf he ht
 obtain ⟨_, rfl, hf0⟩ := h
 have hF0 := hf0
 obtain ⟨y0_p0, y0_q0, _, rfl, _y0_n0, y0_p1, y0_q1, _, rfl, _y0_n1, y0_p2, y0_q2, _, rfl, _y0_n2, rfl⟩ := hf0
 obtain ⟨w1, b1, hw1, hb1, hs1, E⟩ := fr_start w (F := Fq.st [.n a, .n b, .n c]) (us := [y0_p0, y0_q0, y0_p1, y0_q1, y0_p2, y0_q2]) 33 rfl (by simp) (hF0.tame) (show (Fq.st [.n a, .n b, .n c]).P _ w from ⟨_, rfl, hF0⟩)
 go_enter Try.func24, Try.ntmps24
 go_upto_region 1 with (fail)
 rw [← hw1]
 rw [← hb1]
 clear hw1 hb1 hs1
 refine region_fr (C := [Fq.st [.n a, .n b, .n c], Fq.is (.int .i64 0), Fq.is (.bool true), Fq.is (.bool true), Fq.st [.n a, .n b, .n c], Fq.is (.bool t), Fq.is (.bool t), Fq.is (.bool t)]) (ks := [none]) (new := []) E rfl (by kernel_rfl) rfl rfl (fun hp => ⟨?_, ?_, ?_, ?_, ?_, ?_, ?_, ?_, trivial⟩) ?_
 ·exact q_loadSt (off := 0) (l := 6) (fs := [.n a, .n b, .n c]) (gs := [.n a, .n b, .n c]) hp (free_of rfl) trivial (mq 0 rfl) (.inl rfl) rfl row_api_Form rfl (sqo 1) (fun v w h => h)
 ·exact q_call1 (F := (Fq.st [.n a, .n b, .n c]).P) hp (free_of rfl) trivial (enq_f_algorist_quadratic_checkDefinite) (sqi 0) (fun v w h => exPCheckDef h ha.out hb.out hc.out HE.out)
 ·exact q_one (F := fun v _ => v = .int .i64 0) hp (free_of rfl) trivial (sqi 1) (fun ρ w hc h => ⟨.bool true, by simp [execOp, go_sem, h, hc], rfl⟩)
 ·exact q_move hp (free_of rfl) trivial (sqi 2)
 ·exact q_loadSt (off := 0) (l := 6) (fs := [.n a, .n b, .n c]) (gs := [.n a, .n b, .n c]) hp (free_of rfl) gqi (mq 0 rfl) (.inl rfl) rfl row_api_Form rfl (sqo 1) (fun v w h => h)
 ·exact q_call1 (F := (Fq.st [.n a, .n b, .n c]).P) hp (free_of rfl) gqi (enq_f_algorist_quadratic_isReduced) (sqi 4) (fun v w h => exPIsReduced h (Int.lt_of_lt_of_le ha.out (pw_le (by omega))) (Int.lt_of_lt_of_le hb.out (pw_le (by omega))) (Int.lt_of_lt_of_le hc.out (pw_le (by omega))) HT.out)
 ·exact q_two (F := fun v _ => v = .bool true) (G := fun v _ => v = .bool t) hp (free_of rfl) trivial (sqi 3) (sqi 5) (fun ρ w hc h h' => ⟨_, by simp [execOp, go_sem, h, h'], rfl⟩)
 ·exact q_assign hp (free_of rfl) trivial (sqi 6)
 intro L vs w2 nb hL hC hn E2
 have e1 : vs 1 = .int .i64 0 := hC 1 (by simp)
 have e2 : vs 2 = .bool true := hC 2 (by simp)
 have e3 : vs 3 = .bool true := hC 3 (by simp)
 have e5 : vs 5 = .bool t := hC 5 (by simp)
 have e6 : vs 6 = .bool t := hC 6 (by simp)
 have e7 : vs 7 = .bool t := hC 7 (by simp)
 have E : Fr w [(b1, 6, Fq.st [.n a, .n b, .n c])] w2 := E2
 rw [lay_all hL]
 simp only [putAll, dstOf, List.length_cons, List.length_nil, Nat.zero_add, Nat.reduceAdd, List.getElem?_toArray, List.getElem?_cons_zero, List.getElem?_cons_succ, Option.bind_some, Act.put, List.setIfInBounds_toArray, List.set_cons_succ, List.set_cons_zero]
 rw [e1, e2, e3, e5, e6, e7]
 generalize vs 0 = u2_0
 generalize vs 4 = u2_4
 clear e1 e2 e3 e5 e6 e7 hC hn E2 hL vs L nb
 clear HE HT
 clear ha hb hc
 go_wp2
 refine bodyPost_ret (v := .bool t) ?_ rfl ⟨_, rfl, E.below, rfl⟩
 simp [results, Try.results24, go_sem]

theorem exPReduced {w : World} {v : Value} {a b c : Int} (h : (Fq.st [.n a, .n b, .n c]).P v w) (ha : ab a < pw 15) (hb : ab b < pw 15) (hc : ab c < pw 15) {t : Bool} (ht : (dfB a b c && redB a b c) = t) :
  Calls Try.prog 24 #[v] w fun e w' => ∃ v', e = .returned v' ∧ Below w.heap.size w w' ∧ v' = .bool t := by
 cases hdf : dfB a b c with
 | false => exact exPReduced_no h ha hb hc hdf ht
 | true => exact exPReduced_yes h ha hb hc hdf ht

end Go.Proofs.Ytdhkhedhnolcjaa

namespace Go.Proofs.Ytdhkhedhnolcjaa
open Go Go.RowKit

def nbits (z : Int) : Nat := if z = 0 then 0 else z.natAbs.log2 + 1
end Go.Proofs.Ytdhkhedhnolcjaa

namespace Go.Proofs.Ytdhkhedhnolcjaa
open Go Go.RowKit

end Go.Proofs.Ytdhkhedhnolcjaa
