/- Mc, Op, Rg, Rm, Me, Oq. -/
import Derived.Test.YtihhlaagndingaaBm3
namespace Go.Proofs.Ytihhlaagndingaa
open Go Go.RowKit

theorem enq_M_Mod (args : Array Value) (w : World) : (callFunc 48 args).run Try.prog w = .ok (.enter 48 args) w := enter_of Try.func48 (by kernel_rfl) rfl args w
theorem enq_M_Inv (args : Array Value) (w : World) : (callFunc 77 args).run Try.prog w = .ok (.enter 77 args) w := enter_of Try.func77 (by kernel_rfl) rfl args w
theorem enq_M_isOne (args : Array Value) (w : World) : (callFunc 91 args).run Try.prog w = .ok (.enter 91 args) w := enter_of Try.func91 (by kernel_rfl) rfl args w
theorem enq_U_Prime (args : Array Value) (w : World) : (callFunc 8 args).run Try.prog w = .ok (.enter 8 args) w := enter_of Try.func8 (by kernel_rfl) rfl args w
theorem enq_Bezout (args : Array Value) (w : World) : (callFunc 90 args).run Try.prog w = .ok (.enter 90 args) w := enter_of Try.func90 (by kernel_rfl) rfl args w
theorem enq_Low (args : Array Value) (w : World) : (callFunc 98 args).run Try.prog w = .ok (.enter 98 args) w := enter_of Try.func98 (by kernel_rfl) rfl args w
theorem enq_Abs (args : Array Value) (w : World) : (callFunc 62 args).run Try.prog w = .ok (.enter 62 args) w := enter_of Try.func62 (by kernel_rfl) rfl args w
theorem enq_Bits (args : Array Value) (w : World) : (callFunc 79 args).run Try.prog w = .ok (.enter 79 args) w := enter_of Try.func79 (by kernel_rfl) rfl args w
theorem exResidue {w : World} {v : Value} {b : Nat} {a m : Int} (h : Num w v a) (hb : Bq w b 2 (Fq.num m)) (hm : m ≠ 0) (ha : ab a < pw 300) (hn : ab m < pw 300) :
  Calls Try.prog 87 #[v, .pointer (some ⟨b, 0, none⟩)] w fun e w' => ∃ v', e = .returned v' ∧ Below w.heap.size w w' ∧ Num w' v' (a % m) := by
 have ho := hb
 have HM := hidd hm
 clear hb hm
 replace ha := hidd ha
 replace hn := hidd hn
 obtain ⟨n0, ao0, k0, c0, rfl⟩ := h.parts
 obtain ⟨w1, b1, hw1, hb1, hs1, E⟩ := fr_start w (F := Fq.num a) (us := [.bool n0, .slice ao0 k0 c0]) 29 rfl (by simp) (tame_int _ _ _ _) h
 obtain ⟨w2, b2, hw2, hb2, hs2, E⟩ := fr_more E hs1 (F := Fq.num 0) (us := [.bool false, .slice none 0 0]) 29 rfl (by simp) (tame_int _ _ _ _) (Num.zero _)
 go_enter Try.func87, Try.ntmps87
 go_upto_region 1 with (fail)
 rw [← hw1]
 rw [← hw2]
 rw [← hb2]
 rw [← hb1]
 clear hw1 hw2 hb1 hb2 hs2 hs1
 have B3 : Hid (ab ((a / m)) < pw 301) := ab_divB ha.out (by omega)
 have B4 : Hid (ab ((a % m)) < pw 300) := ab_modB HM.out hn.out
 refine region_fr (C := [Fq.num a, Fq.num m, Fq.tup3 (Fq.num (a / m)) (Fq.num (a % m)) (Fq.is (.int .i64 0)), Fq.tup3 (Fq.num (a / m)) (Fq.num (a % m)) (Fq.is (.int .i64 0)), Fq.num (a / m), Fq.num (a % m), Fq.is (.int .i64 0), Fq.any, Fq.any, Fq.any, Fq.any, Fq.is (.int .i64 0)]) (ks := [none, none]) (new := [⟨7, 9, 2, Fq.num 0, Fq.num (a / m), none⟩, ⟨8, 10, 2, Fq.num 0, Fq.num (a % m), none⟩]) E rfl (by kernel_rfl) rfl rfl (fun hp => ⟨?_, ?_, ?_, ?_, ?_, ?_, ?_, ?_, ?_, ?_, ?_, ?_, trivial⟩) ?_
 ·exact q_loadInt (off := 0) hp (free_of rfl) trivial (mq 1 rfl) (.inl rfl) (Nat.le_of_ble_eq_true rfl) (sq_out rfl rfl (fun _ _ => rfl)) (fun us w hl h => ld_num hl h)
 ·exact q_loadIntOut hp (free_of rfl) trivial ho rfl (sq_out rfl rfl (fun _ _ => rfl)) (fun v w h => h)
 ·exact q_call2 (F := (Fq.num a).P) (G := (Fq.num m).P) hp (free_of rfl) trivial (enq_DivMod) (sqi 0) (sqi 1) (fun v v' w h h' => exDMq h h' HM.out B3.out B4.out (by omega) (by omega))
 ·exact q_move hp (free_of rfl) trivial (sqi 2)
 ·exact q_extract3 hp (free_of rfl) trivial (sqi 3) (fun v1 v2 v3 w h1 h2 h3 => ⟨_, rfl, h1⟩)
 ·exact q_extract3 hp (free_of rfl) trivial (sqi 3) (fun v1 v2 v3 w h1 h2 h3 => ⟨_, rfl, h2⟩)
 ·exact q_extract3 hp (free_of rfl) trivial (sqi 3) (fun v1 v2 v3 w h1 h2 h3 => ⟨_, rfl, h3⟩)
 ·exact q_allocInt hp (mq 0 rfl) rfl rfl rfl rfl (Nat.ne_of_beq_eq_false rfl) (fun _ _ => trivial) (old_ne rfl) (newk_ne rfl) (fun w => Num.zero w)
 ·exact q_allocInt hp (mq 1 rfl) rfl rfl rfl rfl (Nat.ne_of_beq_eq_false rfl) (fun _ _ => trivial) (old_ne rfl) (newk_ne rfl) (fun w => Num.zero w)
 ·exact q_storeNewInt hp (mq 0 rfl) rfl rfl rfl (own_ptr rfl rfl (by simp) rfl) (sq_in 4 rfl rfl (by simp) rfl (fun v w h => intV_num h)) (fun _ _ => trivial) (old_ne rfl) (newi_ne rfl)
 ·exact q_storeNewInt hp (mq 1 rfl) rfl rfl rfl (own_ptr rfl rfl (by simp) rfl) (sq_in 5 rfl rfl (by simp) rfl (fun v w h => intV_num h)) (fun _ _ => trivial) (old_ne rfl) (newi_ne rfl)
 ·exact q_assign hp (free_of rfl) trivial (sqi 6)
 intro L vs w5 nb hL hC hn E5
 have e6 : vs 6 = .int .i64 0 := hC 6 (by simp)
 have e11 : vs 11 = .int .i64 0 := hC 11 (by simp)
 have e7 : vs 7 = .pointer (some ⟨nb 7, 0, none⟩) := hn _ (mq 0 rfl)
 have e8 : vs 8 = .pointer (some ⟨nb 8, 0, none⟩) := hn _ (mq 1 rfl)
 have E : Fr w [(nb 7, 2, Fq.num (a / m)), (nb 8, 2, Fq.num (a % m)), (b2, 2, Fq.num 0), (b1, 2, Fq.num a)] w5 := E5
 rw [lay_all hL]
 simp only [putAll, dstOf, List.length_cons, List.length_nil, Nat.zero_add, Nat.reduceAdd, List.getElem?_toArray, List.getElem?_cons_zero, List.getElem?_cons_succ, Option.bind_some, Act.put, List.setIfInBounds_toArray, List.set_cons_succ, List.set_cons_zero]
 rw [e6, e11, e7, e8]
 generalize nb 7 = b5_7 at E ⊢
 generalize nb 8 = b5_8 at E ⊢
 generalize vs 0 = u5_0
 generalize vs 1 = u5_1
 generalize vs 2 = u5_2
 generalize vs 3 = u5_3
 generalize vs 4 = u5_4
 generalize vs 5 = u5_5
 clear e6 e11 e7 e8 hC hn E5 hL vs L nb
 go_upto_region 2 with (fail)
 refine region_fr (C := [Fq.num (a % m), Fq.any]) (ks := [none, none, some (1, Fq.num (a % m)), none]) (new := []) E rfl (by kernel_rfl) rfl rfl (fun hp => ⟨?_, ?_, trivial⟩) ?_
 ·exact q_loadInt (off := 0) hp (free_of rfl) trivial (mq 1 rfl) (.inl rfl) (Nat.le_of_ble_eq_true rfl) (sq_out rfl rfl (fun _ _ => rfl)) (fun us w hl h => ld_num hl h)
 ·exact q_storeOldInt hp (mq 2 rfl) rfl rfl (sq_out rfl rfl (fun _ _ => rfl)) (sq_in 0 rfl rfl (by simp) rfl (fun v w h => intV_num h)) (fun _ _ => trivial) (newik_ne rfl)
 intro L vs w6 nb hL hC hn E6
 have E : Fr w [(b5_7, 2, Fq.num (a / m)), (b5_8, 2, Fq.num (a % m)), (b2, 2, Fq.num (a % m)), (b1, 2, Fq.num a)] w6 := E6
 rw [lay_all hL]
 simp only [putAll, dstOf, List.length_cons, List.length_nil, Nat.zero_add, Nat.reduceAdd, List.getElem?_toArray, List.getElem?_cons_zero, List.getElem?_cons_succ, Option.bind_some, Act.put, List.setIfInBounds_toArray, List.set_cons_succ, List.set_cons_zero]
 generalize vs 0 = u6_0
 clear  hC hn E6 hL vs L nb
 clear HM ho
 obtain ⟨p0, p1, c0, c1, hP⟩ := box_num (E.box 2 rfl)
 clear B3 B4 ha hn
 go_wp2
 refine bodyPost_ret (v := .agg #[p0, p1]) ?_ rfl ⟨_, rfl, E.below, hP⟩
 simp [results, Try.results87, go_sem, c0, c1]

theorem exLowQ {w : World} {v : Value} {z : Int} (h : Num w v z) {n : Int} {t : Bool} (e : lowV z = .tuple #[.int .i64 n, .bool t]) : Calls Try.prog 98 #[v] w fun e w' => ∃ v', e = .returned v' ∧ Below w.heap.size w w' ∧ (Fq.tup2 (Fq.is (.int .i64 n)) (Fq.is (.bool t))).P v' w' :=
 (LowV h).mono fun _ _ ⟨he, hb⟩ => ⟨_, he, hb, _, _, e, rfl, rfl⟩
theorem lowV_in {z : Int} (h0 : -9223372036854775808 ≤ z) (h1 : z ≤ 9223372036854775807) : lowV z = .tuple #[.int .i64 z, .bool true] := by unfold lowV; rw [if_pos ⟨h0, h1⟩]
theorem lowV_out {z : Int} (h : ¬ (-9223372036854775808 ≤ z ∧ z ≤ 9223372036854775807)) : lowV z = .tuple #[.int .i64 0, .bool false] := by unfold lowV; rw [if_neg h]

set_option maxRecDepth 100000 in
set_option maxHeartbeats 4000000 in
theorem exIsOneM {w : World} {v : Value} {z : Int} (h : Num w v z) :
  Calls Try.prog 91 #[v] w fun e w' => ∃ v', e = .returned v' ∧ Below w.heap.size w w' ∧ v' = .bool (decide (z = 1)) := by
 obtain ⟨n0, ao0, k0, c0, rfl⟩ := h.parts
 obtain ⟨w1, b1, hw1, hb1, hs1, E⟩ := fr_start w (F := Fq.num z) (us := [.bool n0, .slice ao0 k0 c0]) 29 rfl (by simp) (tame_int _ _ _ _) h
 go_enter Try.func91, Try.ntmps91
 go_upto_region 1 with (fail)
 rw [← hw1]
 rw [← hb1]
 clear hw1 hb1 hs1
 by_cases hl : -9223372036854775808 ≤ z ∧ z ≤ 9223372036854775807
 ·by_cases hc : z = 1
  ·have HL := hidd (lowV_in hl.1 hl.2)
   have T : Hid (z = 1) := hc
   have T2 : Hid (decide (z = 1) = true) := decide_eq_true hc
   clear hl hc
   refine region_fr (C := [Fq.num z, Fq.tup2 (Fq.is (.int .i64 z)) (Fq.is (.bool true)), Fq.tup2 (Fq.is (.int .i64 z)) (Fq.is (.bool true)), Fq.is (.int .i64 z), Fq.is (.bool true), Fq.is (.int .i64 z), Fq.is (.bool true)]) (ks := [none]) (new := []) E rfl (by kernel_rfl) rfl rfl (fun hp => ⟨?_, ?_, ?_, ?_, ?_, ?_, ?_, trivial⟩) ?_
   ·exact q_loadInt (off := 0) hp (free_of rfl) trivial (mq 0 rfl) (.inl rfl) (Nat.le_of_ble_eq_true rfl) (sq_out rfl rfl (fun _ _ => rfl)) (fun us w hl h => ld_num hl h)
   ·exact q_call1 (F := (Fq.num z).P) hp (free_of rfl) trivial (enq_Low) (sqi 0) (fun v w h => exLowQ h HL.out)
   ·exact q_move hp (free_of rfl) trivial (sqi 1)
   ·exact q_extract2 hp (free_of rfl) trivial (sqi 2) (fun v1 v2 w h1 h2 => ⟨_, rfl, h1⟩)
   ·exact q_extract2 hp (free_of rfl) trivial (sqi 2) (fun v1 v2 w h1 h2 => ⟨_, rfl, h2⟩)
   ·exact q_assign hp (free_of rfl) trivial (sqi 3)
   ·exact q_assign hp (free_of rfl) trivial (sqi 4)
   intro L vs w2 nb hL hC hn E2
   have e3 : vs 3 = .int .i64 z := hC 3 (by simp)
   have e4 : vs 4 = .bool true := hC 4 (by simp)
   have e5 : vs 5 = .int .i64 z := hC 5 (by simp)
   have e6 : vs 6 = .bool true := hC 6 (by simp)
   have E : Fr w [(b1, 2, Fq.num z)] w2 := E2
   rw [lay_all hL]
   simp only [putAll, dstOf, List.length_cons, List.length_nil, Nat.zero_add, Nat.reduceAdd, List.getElem?_toArray, List.getElem?_cons_zero, List.getElem?_cons_succ, Option.bind_some, Act.put, List.setIfInBounds_toArray, List.set_cons_succ, List.set_cons_zero]
   rw [e3, e4, e5, e6]
   generalize vs 0 = u2_0
   generalize vs 1 = u2_1
   generalize vs 2 = u2_2
   clear e3 e4 e5 e6 hC hn E2 hL vs L nb
   go_upto_region 2 with (fail)
   refine region_fr (C := [Fq.is (.bool true), Fq.is (.bool true), Fq.is (.int .i64 z), Fq.is (.bool true), Fq.is (.bool true), Fq.is (.bool true)]) (ks := [none]) (new := []) E rfl (by kernel_rfl) rfl rfl (fun hp => ⟨?_, ?_, ?_, ?_, ?_, ?_, trivial⟩) ?_
   ·exact q_move hp (free_of rfl) trivial (sq_out rfl rfl (fun _ _ => rfl))
   ·exact q_move hp (free_of rfl) trivial (sqi 0)
   ·exact q_move hp (free_of rfl) gqi (sq_out rfl rfl (fun _ _ => rfl))
   ·exact q_one (F := fun v _ => v = .int .i64 z) hp (free_of rfl) gqi (sqi 2) (fun ρ w hc h => ⟨.bool true, by simp [execOp, go_sem, h, hc, T.out], rfl⟩)
   ·exact q_two (F := fun v _ => v = .bool true) (G := fun v _ => v = .bool true) hp (free_of rfl) trivial (sqi 1) (sqi 3) (fun ρ w hc h h' => ⟨_, by simp [execOp, go_sem, h, h'], rfl⟩)
   ·exact q_assign hp (free_of rfl) trivial (sqi 4)
   intro L vs w3 nb hL hC hn E3
   have e0 : vs 0 = .bool true := hC 0 (by simp)
   have e1 : vs 1 = .bool true := hC 1 (by simp)
   have e2 : vs 2 = .int .i64 z := hC 2 (by simp)
   have e3 : vs 3 = .bool true := hC 3 (by simp)
   have e4 : vs 4 = .bool true := hC 4 (by simp)
   have e5 : vs 5 = .bool true := hC 5 (by simp)
   have E : Fr w [(b1, 2, Fq.num z)] w3 := E3
   rw [lay_all hL]
   simp only [putAll, dstOf, List.length_cons, List.length_nil, Nat.zero_add, Nat.reduceAdd, List.getElem?_toArray, List.getElem?_cons_zero, List.getElem?_cons_succ, Option.bind_some, Act.put, List.setIfInBounds_toArray, List.set_cons_succ, List.set_cons_zero]
   rw [e0, e1, e2, e3, e4, e5]
   clear e0 e1 e2 e3 e4 e5 hC hn E3 hL vs L nb
   clear T HL
   go_wp2
   refine bodyPost_ret (v := .bool true) ?_ rfl (by first | exact ⟨_, rfl, E.below, by rw [T2.out]⟩ | exact ⟨_, rfl, E.below⟩ | exact ⟨rfl, E.below⟩)
   simp [results, Try.results91, go_sem]
  ·have HL := hidd (lowV_in hl.1 hl.2)
   have T : Hid (¬ z = 1) := hc
   have T2 : Hid (decide (z = 1) = false) := decide_eq_false hc
   clear hl hc
   refine region_fr (C := [Fq.num z, Fq.tup2 (Fq.is (.int .i64 z)) (Fq.is (.bool true)), Fq.tup2 (Fq.is (.int .i64 z)) (Fq.is (.bool true)), Fq.is (.int .i64 z), Fq.is (.bool true), Fq.is (.int .i64 z), Fq.is (.bool true)]) (ks := [none]) (new := []) E rfl (by kernel_rfl) rfl rfl (fun hp => ⟨?_, ?_, ?_, ?_, ?_, ?_, ?_, trivial⟩) ?_
   ·exact q_loadInt (off := 0) hp (free_of rfl) trivial (mq 0 rfl) (.inl rfl) (Nat.le_of_ble_eq_true rfl) (sq_out rfl rfl (fun _ _ => rfl)) (fun us w hl h => ld_num hl h)
   ·exact q_call1 (F := (Fq.num z).P) hp (free_of rfl) trivial (enq_Low) (sqi 0) (fun v w h => exLowQ h HL.out)
   ·exact q_move hp (free_of rfl) trivial (sqi 1)
   ·exact q_extract2 hp (free_of rfl) trivial (sqi 2) (fun v1 v2 w h1 h2 => ⟨_, rfl, h1⟩)
   ·exact q_extract2 hp (free_of rfl) trivial (sqi 2) (fun v1 v2 w h1 h2 => ⟨_, rfl, h2⟩)
   ·exact q_assign hp (free_of rfl) trivial (sqi 3)
   ·exact q_assign hp (free_of rfl) trivial (sqi 4)
   intro L vs w4 nb hL hC hn E4
   have e3 : vs 3 = .int .i64 z := hC 3 (by simp)
   have e4 : vs 4 = .bool true := hC 4 (by simp)
   have e5 : vs 5 = .int .i64 z := hC 5 (by simp)
   have e6 : vs 6 = .bool true := hC 6 (by simp)
   have E : Fr w [(b1, 2, Fq.num z)] w4 := E4
   rw [lay_all hL]
   simp only [putAll, dstOf, List.length_cons, List.length_nil, Nat.zero_add, Nat.reduceAdd, List.getElem?_toArray, List.getElem?_cons_zero, List.getElem?_cons_succ, Option.bind_some, Act.put, List.setIfInBounds_toArray, List.set_cons_succ, List.set_cons_zero]
   rw [e3, e4, e5, e6]
   generalize vs 0 = u4_0
   generalize vs 1 = u4_1
   generalize vs 2 = u4_2
   clear e3 e4 e5 e6 hC hn E4 hL vs L nb
   go_upto_region 2 with (fail)
   refine region_fr (C := [Fq.is (.bool true), Fq.is (.bool true), Fq.is (.int .i64 z), Fq.is (.bool false), Fq.is (.bool false), Fq.is (.bool false)]) (ks := [none]) (new := []) E rfl (by kernel_rfl) rfl rfl (fun hp => ⟨?_, ?_, ?_, ?_, ?_, ?_, trivial⟩) ?_
   ·exact q_move hp (free_of rfl) trivial (sq_out rfl rfl (fun _ _ => rfl))
   ·exact q_move hp (free_of rfl) trivial (sqi 0)
   ·exact q_move hp (free_of rfl) gqi (sq_out rfl rfl (fun _ _ => rfl))
   ·exact q_one (F := fun v _ => v = .int .i64 z) hp (free_of rfl) gqi (sqi 2) (fun ρ w hc h => ⟨.bool false, by simp [execOp, go_sem, h, hc, T.out], rfl⟩)
   ·exact q_two (F := fun v _ => v = .bool true) (G := fun v _ => v = .bool false) hp (free_of rfl) trivial (sqi 1) (sqi 3) (fun ρ w hc h h' => ⟨_, by simp [execOp, go_sem, h, h'], rfl⟩)
   ·exact q_assign hp (free_of rfl) trivial (sqi 4)
   intro L vs w5 nb hL hC hn E5
   have e0 : vs 0 = .bool true := hC 0 (by simp)
   have e1 : vs 1 = .bool true := hC 1 (by simp)
   have e2 : vs 2 = .int .i64 z := hC 2 (by simp)
   have e3 : vs 3 = .bool false := hC 3 (by simp)
   have e4 : vs 4 = .bool false := hC 4 (by simp)
   have e5 : vs 5 = .bool false := hC 5 (by simp)
   have E : Fr w [(b1, 2, Fq.num z)] w5 := E5
   rw [lay_all hL]
   simp only [putAll, dstOf, List.length_cons, List.length_nil, Nat.zero_add, Nat.reduceAdd, List.getElem?_toArray, List.getElem?_cons_zero, List.getElem?_cons_succ, Option.bind_some, Act.put, List.setIfInBounds_toArray, List.set_cons_succ, List.set_cons_zero]
   rw [e0, e1, e2, e3, e4, e5]
   clear e0 e1 e2 e3 e4 e5 hC hn E5 hL vs L nb
   clear T HL
   go_wp2
   refine bodyPost_ret (v := .bool false) ?_ rfl (by first | exact ⟨_, rfl, E.below, by rw [T2.out]⟩ | exact ⟨_, rfl, E.below⟩ | exact ⟨rfl, E.below⟩)
   simp [results, Try.results91, go_sem]
 ·have HL := hidd (lowV_out hl)
  have T2 : Hid (decide (z = 1) = false) := decide_eq_false (by omega)
  clear hl
  refine region_fr (C := [Fq.num z, Fq.tup2 (Fq.is (.int .i64 0)) (Fq.is (.bool false)), Fq.tup2 (Fq.is (.int .i64 0)) (Fq.is (.bool false)), Fq.is (.int .i64 0), Fq.is (.bool false), Fq.is (.int .i64 0), Fq.is (.bool false)]) (ks := [none]) (new := []) E rfl (by kernel_rfl) rfl rfl (fun hp => ⟨?_, ?_, ?_, ?_, ?_, ?_, ?_, trivial⟩) ?_
  ·exact q_loadInt (off := 0) hp (free_of rfl) trivial (mq 0 rfl) (.inl rfl) (Nat.le_of_ble_eq_true rfl) (sq_out rfl rfl (fun _ _ => rfl)) (fun us w hl h => ld_num hl h)
  ·exact q_call1 (F := (Fq.num z).P) hp (free_of rfl) trivial (enq_Low) (sqi 0) (fun v w h => exLowQ h HL.out)
  ·exact q_move hp (free_of rfl) trivial (sqi 1)
  ·exact q_extract2 hp (free_of rfl) trivial (sqi 2) (fun v1 v2 w h1 h2 => ⟨_, rfl, h1⟩)
  ·exact q_extract2 hp (free_of rfl) trivial (sqi 2) (fun v1 v2 w h1 h2 => ⟨_, rfl, h2⟩)
  ·exact q_assign hp (free_of rfl) trivial (sqi 3)
  ·exact q_assign hp (free_of rfl) trivial (sqi 4)
  intro L vs w6 nb hL hC hn E6
  have e3 : vs 3 = .int .i64 0 := hC 3 (by simp)
  have e4 : vs 4 = .bool false := hC 4 (by simp)
  have e5 : vs 5 = .int .i64 0 := hC 5 (by simp)
  have e6 : vs 6 = .bool false := hC 6 (by simp)
  have E : Fr w [(b1, 2, Fq.num z)] w6 := E6
  rw [lay_all hL]
  simp only [putAll, dstOf, List.length_cons, List.length_nil, Nat.zero_add, Nat.reduceAdd, List.getElem?_toArray, List.getElem?_cons_zero, List.getElem?_cons_succ, Option.bind_some, Act.put, List.setIfInBounds_toArray, List.set_cons_succ, List.set_cons_zero]
  rw [e3, e4, e5, e6]
  generalize vs 0 = u6_0
  generalize vs 1 = u6_1
  generalize vs 2 = u6_2
  clear e3 e4 e5 e6 hC hn E6 hL vs L nb
  go_upto_region 2 with (fail)
  refine region_fr (C := [Fq.is (.bool false), Fq.is (.bool false), Fq.is (undef), Fq.is (undef), Fq.is (.bool false), Fq.is (.bool false)]) (ks := [none]) (new := []) E rfl (by kernel_rfl) rfl rfl (fun hp => ⟨?_, ?_, ?_, ?_, ?_, ?_, trivial⟩) ?_
  ·exact q_move hp (free_of rfl) trivial (sq_out rfl rfl (fun _ _ => rfl))
  ·exact q_move hp (free_of rfl) trivial (sqi 0)
  ·exact q_skip hp (free_of rfl) rfl gqi (fun _ => rfl)
  ·exact q_skip hp (free_of rfl) rfl gqi (fun _ => rfl)
  ·exact q_two (F := fun v _ => v = .bool false) (G := fun v _ => v = .bool false) hp (free_of rfl) trivial (sqi 1) (sq_const (fun _ => rfl)) (fun ρ w hc h h' => ⟨_, by simp [execOp, go_sem, h, h'], rfl⟩)
  ·exact q_assign hp (free_of rfl) trivial (sqi 4)
  intro L vs w7 nb hL hC hn E7
  have e0 : vs 0 = .bool false := hC 0 (by simp)
  have e1 : vs 1 = .bool false := hC 1 (by simp)
  have e2 : vs 2 = undef := hC 2 (by simp)
  have e3 : vs 3 = undef := hC 3 (by simp)
  have e4 : vs 4 = .bool false := hC 4 (by simp)
  have e5 : vs 5 = .bool false := hC 5 (by simp)
  have E : Fr w [(b1, 2, Fq.num z)] w7 := E7
  rw [lay_all hL]
  simp only [putAll, dstOf, List.length_cons, List.length_nil, Nat.zero_add, Nat.reduceAdd, List.getElem?_toArray, List.getElem?_cons_zero, List.getElem?_cons_succ, Option.bind_some, Act.put, List.setIfInBounds_toArray, List.set_cons_succ, List.set_cons_zero]
  rw [e0, e1, e2, e3, e4, e5]
  clear e0 e1 e2 e3 e4 e5 hC hn E7 hL vs L nb
  clear HL
  go_wp2
  refine bodyPost_ret (v := .bool false) ?_ rfl (by first | exact ⟨_, rfl, E.below, by rw [T2.out]⟩ | exact ⟨_, rfl, E.below⟩ | exact ⟨rfl, E.below⟩)
  simp [results, Try.results91, go_sem]

theorem exIsOneMB {w : World} {v : Value} {z : Int} {t : Bool} (h : Num w v z) (ht : decide (z = 1) = t) : Calls Try.prog 91 #[v] w fun e w' => ∃ v', e = .returned v' ∧ Below w.heap.size w w' ∧ v' = .bool t := by
 have := exIsOneM h
 rw [ht] at this
 exact this

theorem cmpI_le0 {x : Int} : cmpI x 0 ≤ 0 ↔ x ≤ 0 := by
 constructor
 ·intro h
  rcases Int.lt_or_le 0 x with h2 | h2
  ·have := cmpIqgt.2 h2; omega
  ·exact h2
 ·intro h
  rcases Int.lt_or_le 0 (cmpI x 0) with h2 | h2
  ·have := cmpIqgt.1 h2; omega
  ·exact h2

set_option maxRecDepth 100000 in
set_option maxHeartbeats 4000000 in
theorem exModP {w : World} {v v' : Value} {a m : Int} (h : Num w v a) (h' : Num w v' m) (ha : ab a < pw 300) (hm : ab m < pw 300) (h0 : 0 < m) :
  Calls Try.prog 48 #[v, v'] w fun e w' => ∃ v', e = .returned v' ∧ Below w.heap.size w w' ∧ (Fq.tup2 (Fq.num (a % m)) (Fq.is (.int .i64 0))).P v' w' := by
 replace ha := hidd ha
 replace hm := hidd hm
 obtain ⟨n0, ao0, k0, c0, rfl⟩ := h.parts
 obtain ⟨n1, ao1, k1, c1, rfl⟩ := h'.parts
 obtain ⟨w1, b1, hw1, hb1, hs1, E⟩ := fr_start w (F := Fq.num a) (us := [.bool n0, .slice ao0 k0 c0]) 29 rfl (by simp) (tame_int _ _ _ _) h
 obtain ⟨w2, b2, hw2, hb2, hs2, E⟩ := fr_more E hs1 (F := Fq.num m) (us := [.bool n1, .slice ao1 k1 c1]) 29 rfl (by simp) (tame_int _ _ _ _) (h'.mono E.below)
 obtain ⟨w3, b3, hw3, hb3, hs3, E⟩ := fr_more E hs2 (F := Fq.num 0) (us := [.bool false, .slice none 0 0]) 29 rfl (by simp) (tame_int _ _ _ _) (Num.zero _)
 go_enter Try.func48, Try.ntmps48
 go_upto_region 1 with (fail)
 rw [← hw1]
 rw [← hw2]
 rw [← hw3]
 rw [← hb3]
 rw [← hb2]
 rw [← hb1]
 clear hw1 hw2 hw3 hb1 hb2 hb3 hs3 hs1 hs2
 have T1 : Hid (¬ cmpI m 0 ≤ 0) := fun e => by have := cmpI_le0.1 e; omega
 have HM : Hid (m ≠ 0) := by show _ ≠ _; omega
 clear h0
 refine region_fr (C := [Fq.num m, Fq.is (.int .i64 (cmpI m 0)), Fq.is (.bool false)]) (ks := [none, none, none]) (new := []) E rfl (by kernel_rfl) rfl rfl (fun hp => ⟨?_, ?_, ?_, trivial⟩) ?_
 ·exact q_loadInt (off := 0) hp (free_of rfl) trivial (mq 1 rfl) (.inl rfl) (Nat.le_of_ble_eq_true rfl) (sq_out rfl rfl (fun _ _ => rfl)) (fun us w hl h => ld_num hl h)
 ·exact q_call1 (F := (Fq.num m).P) hp (free_of rfl) trivial (enq_Sign) (sqi 0) (fun v w h => exSign h)
 ·exact q_one (F := fun v _ => v = .int .i64 (cmpI m 0)) hp (free_of rfl) trivial (sqi 1) (fun ρ w hc h => ⟨.bool false, by simp [execOp, go_sem, h, hc, T1.out], rfl⟩)
 intro L vs w4 nb hL hC hn E4
 have e1 : vs 1 = .int .i64 (cmpI m 0) := hC 1 (by simp)
 have e2 : vs 2 = .bool false := hC 2 (by simp)
 have E : Fr w [(b3, 2, Fq.num 0), (b2, 2, Fq.num m), (b1, 2, Fq.num a)] w4 := E4
 rw [lay_all hL]
 simp only [putAll, dstOf, List.length_cons, List.length_nil, Nat.zero_add, Nat.reduceAdd, List.getElem?_toArray, List.getElem?_cons_zero, List.getElem?_cons_succ, Option.bind_some, Act.put, List.setIfInBounds_toArray, List.set_cons_succ, List.set_cons_zero]
 rw [e1, e2]
 generalize vs 0 = u4_0
 clear e1 e2 hC hn E4 hL vs L nb
 clear T1
 go_upto_region 3 with (fail)
 have B5 : Hid (ab ((a % m)) < pw 300) := ab_modB HM.out hm.out
 refine region_fr (C := [Fq.num m, Fq.any, Fq.num a, Fq.num (a % m), Fq.any, Fq.is (.int .i64 0)]) (ks := [some (4, Fq.num (a % m)), none, none]) (new := [⟨1, 1, 2, Fq.num m, Fq.num m, (some (.clo 87))⟩]) E rfl (by kernel_rfl) rfl rfl (fun hp => ⟨?_, ?_, ?_, ?_, ?_, ?_, trivial⟩) ?_
 ·exact q_loadInt (off := 0) hp (free_of rfl) trivial (mq 1 rfl) (.inl rfl) (Nat.le_of_ble_eq_true rfl) (sq_out rfl rfl (fun _ _ => rfl)) (fun us w hl h => ld_num hl h)
 ·exact q_callMake (F := (Fq.num m).P) hp enq_M_within (mq 0 rfl) rfl rfl rfl (sqi 0) (fun v w h => exWithin h) (fun _ _ => trivial) (old_ne rfl) (newks_ne rfl)
 ·exact q_loadInt (off := 0) hp (free_of rfl) trivial (mq 2 rfl) (.inl rfl) (Nat.le_of_ble_eq_true rfl) (sq_out rfl rfl (fun _ _ => rfl)) (fun us w hl h => ld_num hl h)
 ·exact q_callCloIn (F := (Fq.num a).P) hp (free_of rfl) trivial enq_M_within1 (mq 0 rfl) rfl (own_ptr rfl rfl (by simp) rfl) (sqi 2) (fun v b w h hb => exResidue h hb HM.out (Int.lt_of_lt_of_le ha.out (pw_le (by omega))) (Int.lt_of_lt_of_le hm.out (pw_le (by omega))))
 ·exact q_storeOldInt hp (mq 0 rfl) rfl rfl (sq_out rfl rfl (fun _ _ => rfl)) (sq_in 3 rfl rfl (by simp) rfl (fun v w h => intV_num h)) (fun _ _ => trivial) (newik_ne rfl)
 ·exact q_assign hp (free_of rfl) trivial (sq_const (fun _ => rfl))
 intro L vs w6 nb hL hC hn E6
 have e5 : vs 5 = .int .i64 0 := hC 5 (by simp)
 have e1 : vs 1 = cloV 87 (nb 1) := hn _ (mq 0 rfl)
 have E : Fr w [(nb 1, 2, Fq.num m), (b3, 2, Fq.num (a % m)), (b2, 2, Fq.num m), (b1, 2, Fq.num a)] w6 := E6
 rw [lay_all hL]
 simp only [putAll, dstOf, List.length_cons, List.length_nil, Nat.zero_add, Nat.reduceAdd, List.getElem?_toArray, List.getElem?_cons_zero, List.getElem?_cons_succ, Option.bind_some, Act.put, List.setIfInBounds_toArray, List.set_cons_succ, List.set_cons_zero]
 rw [e5, e1]
 generalize nb 1 = b6_1 at E ⊢
 generalize vs 0 = u6_0
 generalize vs 2 = u6_2
 generalize vs 3 = u6_3
 clear e5 e1 hC hn E6 hL vs L nb
 clear HM
 obtain ⟨p0, p1, c0, c1, hP⟩ := box_num (E.box 1 rfl)
 clear B5 ha hm
 go_wp2
 refine bodyPost_ret (v := .tuple #[.agg #[p0, p1], .int .i64 0]) ?_ rfl ⟨_, rfl, E.below, ⟨_, _, rfl, hP, rfl⟩⟩
 simp [results, Try.results48, go_sem, c0, c1]

theorem exBezout {w : World} {v v' : Value} {a m : Int} (h : Num w v a) (h' : Num w v' m) (ha : ab a < pw 300) (hn : ab m < pw 300) (hm : 0 < m) :
  Calls Try.prog 90 #[v, v'] w fun e w' => ∃ v', e = .returned v' ∧ Below w.heap.size w w' ∧ (Fq.tup3 (Fq.num (Int.gcd a m : Int)) (Fq.num (bezU a m)) (Fq.num (bezV a m))).P v' w' := by
 refine (BezoutV h h' ha hn (by omega)).mono fun e w' hh => ?_
 obtain ⟨hb, v1, v2, v3, g, u, x, rfl, h1, h2, h3, rfl, ⟨h4, _⟩ | ⟨_, h5, h6, h7⟩⟩ := hh
 ·omega
 ·rw [ab_of (by omega)] at h6
  obtain ⟨rfl, rfl⟩ := bez_uniq hm h5 h6 h7
  exact ⟨_, rfl, hb, _, _, _, rfl, h1, h2, h3⟩
theorem bezU_ab {a m : Int} {k : Nat} (hm : 0 < m) (h : ab m < pw k) : ab (bezU a m) < pw k := by
 have h1 := (bez_spec (a := a) hm).1
 have h2 := bez_lt (a := a) hm
 unfold ab at *
 omega

set_option maxRecDepth 100000 in
set_option maxHeartbeats 4000000 in
theorem exInvP {w : World} {v v' : Value} {a m : Int} (h : Num w v a) (h' : Num w v' m) (ha : ab a < pw 300) (hm : ab m < pw 300) (h0 : 0 < m) (hg : Int.gcd a m = 1) :
  Calls Try.prog 77 #[v, v'] w fun e w' => ∃ v', e = .returned v' ∧ Below w.heap.size w w' ∧ (Fq.tup2 (Fq.num (bezU a m)) (Fq.is (.int .i64 0))).P v' w' := by
 replace ha := hidd ha
 replace hm := hidd hm
 obtain ⟨n0, ao0, k0, c0, rfl⟩ := h.parts
 obtain ⟨n1, ao1, k1, c1, rfl⟩ := h'.parts
 obtain ⟨w1, b1, hw1, hb1, hs1, E⟩ := fr_start w (F := Fq.num a) (us := [.bool n0, .slice ao0 k0 c0]) 29 rfl (by simp) (tame_int _ _ _ _) h
 obtain ⟨w2, b2, hw2, hb2, hs2, E⟩ := fr_more E hs1 (F := Fq.num m) (us := [.bool n1, .slice ao1 k1 c1]) 29 rfl (by simp) (tame_int _ _ _ _) (h'.mono E.below)
 obtain ⟨w3, b3, hw3, hb3, hs3, E⟩ := fr_more E hs2 (F := Fq.num 0) (us := [.bool false, .slice none 0 0]) 29 rfl (by simp) (tame_int _ _ _ _) (Num.zero _)
 go_enter Try.func77, Try.ntmps77
 go_upto_region 1 with (fail)
 rw [← hw1]
 rw [← hw2]
 rw [← hw3]
 rw [← hb3]
 rw [← hb2]
 rw [← hb1]
 clear hw1 hw2 hw3 hb1 hb2 hb3 hs3 hs1 hs2
 have T1 : Hid (¬ cmpI m 0 ≤ 0) := fun e => by have := cmpI_le0.1 e; omega
 have HP := hidd h0
 have T2 : Hid (decide ((Int.gcd a m : Int) = 1) = true) := decide_eq_true (by omega)
 clear h0 hg
 refine region_fr (C := [Fq.num m, Fq.is (.int .i64 (cmpI m 0)), Fq.is (.bool false)]) (ks := [none, none, none]) (new := []) E rfl (by kernel_rfl) rfl rfl (fun hp => ⟨?_, ?_, ?_, trivial⟩) ?_
 ·exact q_loadInt (off := 0) hp (free_of rfl) trivial (mq 1 rfl) (.inl rfl) (Nat.le_of_ble_eq_true rfl) (sq_out rfl rfl (fun _ _ => rfl)) (fun us w hl h => ld_num hl h)
 ·exact q_call1 (F := (Fq.num m).P) hp (free_of rfl) trivial (enq_Sign) (sqi 0) (fun v w h => exSign h)
 ·exact q_one (F := fun v _ => v = .int .i64 (cmpI m 0)) hp (free_of rfl) trivial (sqi 1) (fun ρ w hc h => ⟨.bool false, by simp [execOp, go_sem, h, hc, T1.out], rfl⟩)
 intro L vs w4 nb hL hC hn E4
 have e1 : vs 1 = .int .i64 (cmpI m 0) := hC 1 (by simp)
 have e2 : vs 2 = .bool false := hC 2 (by simp)
 have E : Fr w [(b3, 2, Fq.num 0), (b2, 2, Fq.num m), (b1, 2, Fq.num a)] w4 := E4
 rw [lay_all hL]
 simp only [putAll, dstOf, List.length_cons, List.length_nil, Nat.zero_add, Nat.reduceAdd, List.getElem?_toArray, List.getElem?_cons_zero, List.getElem?_cons_succ, Option.bind_some, Act.put, List.setIfInBounds_toArray, List.set_cons_succ, List.set_cons_zero]
 rw [e1, e2]
 generalize vs 0 = u4_0
 clear e1 e2 hC hn E4 hL vs L nb
 clear T1
 go_upto_region 3 with (fail)
 have B5 : Hid (ab ((Int.gcd a m : Int)) < pw 300) := ab_gcdB ha.out hm.out (by omega) (by omega)
 have B6 : Hid (ab (bezU a m) < pw 300) := bezU_ab HP.out hm.out
 refine region_fr (C := [Fq.num a, Fq.num m, Fq.tup3 (Fq.num (Int.gcd a m : Int)) (Fq.num (bezU a m)) (Fq.num (bezV a m)), Fq.tup3 (Fq.num (Int.gcd a m : Int)) (Fq.num (bezU a m)) (Fq.num (bezV a m)), Fq.num (Int.gcd a m : Int), Fq.num (bezU a m), Fq.num (bezV a m), Fq.any, Fq.any, Fq.any, Fq.any, Fq.any, Fq.any]) (ks := [none, none, none]) (new := [⟨7, 10, 2, Fq.num 0, Fq.num (Int.gcd a m : Int), none⟩, ⟨8, 11, 2, Fq.num 0, Fq.num (bezU a m), none⟩, ⟨9, 12, 2, Fq.num 0, Fq.num (bezV a m), none⟩]) E rfl (by kernel_rfl) rfl rfl (fun hp => ⟨?_, ?_, ?_, ?_, ?_, ?_, ?_, ?_, ?_, ?_, ?_, ?_, ?_, trivial⟩) ?_
 ·exact q_loadInt (off := 0) hp (free_of rfl) trivial (mq 2 rfl) (.inl rfl) (Nat.le_of_ble_eq_true rfl) (sq_out rfl rfl (fun _ _ => rfl)) (fun us w hl h => ld_num hl h)
 ·exact q_loadInt (off := 0) hp (free_of rfl) trivial (mq 1 rfl) (.inl rfl) (Nat.le_of_ble_eq_true rfl) (sq_out rfl rfl (fun _ _ => rfl)) (fun us w hl h => ld_num hl h)
 ·exact q_call2 (F := (Fq.num a).P) (G := (Fq.num m).P) hp (free_of rfl) trivial (enq_Bezout) (sqi 0) (sqi 1) (fun v v' w h h' => exBezout h h' (Int.lt_of_lt_of_le ha.out (pw_le (by omega))) (Int.lt_of_lt_of_le hm.out (pw_le (by omega))) HP.out)
 ·exact q_move hp (free_of rfl) trivial (sqi 2)
 ·exact q_extract3 hp (free_of rfl) trivial (sqi 3) (fun v1 v2 v3 w h1 h2 h3 => ⟨_, rfl, h1⟩)
 ·exact q_extract3 hp (free_of rfl) trivial (sqi 3) (fun v1 v2 v3 w h1 h2 h3 => ⟨_, rfl, h2⟩)
 ·exact q_extract3 hp (free_of rfl) trivial (sqi 3) (fun v1 v2 v3 w h1 h2 h3 => ⟨_, rfl, h3⟩)
 ·exact q_allocInt hp (mq 0 rfl) rfl rfl rfl rfl (Nat.ne_of_beq_eq_false rfl) (fun _ _ => trivial) (old_ne rfl) (newk_ne rfl) (fun w => Num.zero w)
 ·exact q_allocInt hp (mq 1 rfl) rfl rfl rfl rfl (Nat.ne_of_beq_eq_false rfl) (fun _ _ => trivial) (old_ne rfl) (newk_ne rfl) (fun w => Num.zero w)
 ·exact q_allocInt hp (mq 2 rfl) rfl rfl rfl rfl (Nat.ne_of_beq_eq_false rfl) (fun _ _ => trivial) (old_ne rfl) (newk_ne rfl) (fun w => Num.zero w)
 ·exact q_storeNewInt hp (mq 0 rfl) rfl rfl rfl (own_ptr rfl rfl (by simp) rfl) (sq_in 4 rfl rfl (by simp) rfl (fun v w h => intV_num h)) (fun _ _ => trivial) (old_ne rfl) (newi_ne rfl)
 ·exact q_storeNewInt hp (mq 1 rfl) rfl rfl rfl (own_ptr rfl rfl (by simp) rfl) (sq_in 5 rfl rfl (by simp) rfl (fun v w h => intV_num h)) (fun _ _ => trivial) (old_ne rfl) (newi_ne rfl)
 ·exact q_storeNewInt hp (mq 2 rfl) rfl rfl rfl (own_ptr rfl rfl (by simp) rfl) (sq_in 6 rfl rfl (by simp) rfl (fun v w h => intV_num h)) (fun _ _ => trivial) (old_ne rfl) (newi_ne rfl)
 intro L vs w7 nb hL hC hn E7
 have e7 : vs 7 = .pointer (some ⟨nb 7, 0, none⟩) := hn _ (mq 0 rfl)
 have e8 : vs 8 = .pointer (some ⟨nb 8, 0, none⟩) := hn _ (mq 1 rfl)
 have e9 : vs 9 = .pointer (some ⟨nb 9, 0, none⟩) := hn _ (mq 2 rfl)
 have E : Fr w [(nb 7, 2, Fq.num (Int.gcd a m : Int)), (nb 8, 2, Fq.num (bezU a m)), (nb 9, 2, Fq.num (bezV a m)), (b3, 2, Fq.num 0), (b2, 2, Fq.num m), (b1, 2, Fq.num a)] w7 := E7
 rw [lay_all hL]
 simp only [putAll, dstOf, List.length_cons, List.length_nil, Nat.zero_add, Nat.reduceAdd, List.getElem?_toArray, List.getElem?_cons_zero, List.getElem?_cons_succ, Option.bind_some, Act.put, List.setIfInBounds_toArray, List.set_cons_succ, List.set_cons_zero]
 rw [e7, e8, e9]
 generalize nb 7 = b7_7 at E ⊢
 generalize nb 8 = b7_8 at E ⊢
 generalize nb 9 = b7_9 at E ⊢
 generalize vs 0 = u7_0
 generalize vs 1 = u7_1
 generalize vs 2 = u7_2
 generalize vs 3 = u7_3
 generalize vs 4 = u7_4
 generalize vs 5 = u7_5
 generalize vs 6 = u7_6
 clear e7 e8 e9 hC hn E7 hL vs L nb
 go_upto_region 4 with (fail)
 refine region_fr (C := [Fq.num (Int.gcd a m : Int), Fq.is (.bool true), Fq.is (.bool false)]) (ks := [none, none, none, none, none, none]) (new := []) E rfl (by kernel_rfl) rfl rfl (fun hp => ⟨?_, ?_, ?_, trivial⟩) ?_
 ·exact q_loadInt (off := 0) hp (free_of rfl) trivial (mq 0 rfl) (.inl rfl) (Nat.le_of_ble_eq_true rfl) (sq_out rfl rfl (fun _ _ => rfl)) (fun us w hl h => ld_num hl h)
 ·exact q_call1 (F := (Fq.num (Int.gcd a m : Int)).P) hp (free_of rfl) trivial (enq_M_isOne) (sqi 0) (fun v w h => exIsOneMB h T2.out)
 ·exact q_one (F := fun v _ => v = .bool true) hp (free_of rfl) trivial (sqi 1) (fun ρ w _ h => ⟨.bool false, by simp [execOp, go_sem, h], rfl⟩)
 intro L vs w8 nb hL hC hn E8
 have e1 : vs 1 = .bool true := hC 1 (by simp)
 have e2 : vs 2 = .bool false := hC 2 (by simp)
 have E : Fr w [(b7_7, 2, Fq.num (Int.gcd a m : Int)), (b7_8, 2, Fq.num (bezU a m)), (b7_9, 2, Fq.num (bezV a m)), (b3, 2, Fq.num 0), (b2, 2, Fq.num m), (b1, 2, Fq.num a)] w8 := E8
 rw [lay_all hL]
 simp only [putAll, dstOf, List.length_cons, List.length_nil, Nat.zero_add, Nat.reduceAdd, List.getElem?_toArray, List.getElem?_cons_zero, List.getElem?_cons_succ, Option.bind_some, Act.put, List.setIfInBounds_toArray, List.set_cons_succ, List.set_cons_zero]
 rw [e1, e2]
 generalize vs 0 = u8_0
 clear e1 e2 hC hn E8 hL vs L nb
 clear T2
 go_upto_region 6 with (fail)
 refine region_fr (C := [Fq.num (bezU a m), Fq.any, Fq.is (.int .i64 0)]) (ks := [none, none, none, some (1, Fq.num (bezU a m)), none, none]) (new := []) E rfl (by kernel_rfl) rfl rfl (fun hp => ⟨?_, ?_, ?_, trivial⟩) ?_
 ·exact q_loadInt (off := 0) hp (free_of rfl) trivial (mq 1 rfl) (.inl rfl) (Nat.le_of_ble_eq_true rfl) (sq_out rfl rfl (fun _ _ => rfl)) (fun us w hl h => ld_num hl h)
 ·exact q_storeOldInt hp (mq 3 rfl) rfl rfl (sq_out rfl rfl (fun _ _ => rfl)) (sq_in 0 rfl rfl (by simp) rfl (fun v w h => intV_num h)) (fun _ _ => trivial) (newik_ne rfl)
 ·exact q_assign hp (free_of rfl) trivial (sq_const (fun _ => rfl))
 intro L vs w9 nb hL hC hn E9
 have e2 : vs 2 = .int .i64 0 := hC 2 (by simp)
 have E : Fr w [(b7_7, 2, Fq.num (Int.gcd a m : Int)), (b7_8, 2, Fq.num (bezU a m)), (b7_9, 2, Fq.num (bezV a m)), (b3, 2, Fq.num (bezU a m)), (b2, 2, Fq.num m), (b1, 2, Fq.num a)] w9 := E9
 rw [lay_all hL]
 simp only [putAll, dstOf, List.length_cons, List.length_nil, Nat.zero_add, Nat.reduceAdd, List.getElem?_toArray, List.getElem?_cons_zero, List.getElem?_cons_succ, Option.bind_some, Act.put, List.setIfInBounds_toArray, List.set_cons_succ, List.set_cons_zero]
 rw [e2]
 generalize vs 0 = u9_0
 clear e2 hC hn E9 hL vs L nb
 clear HP
 obtain ⟨p0, p1, c0, c1, hP⟩ := box_num (E.box 3 rfl)
 clear B5 B6 ha hm
 go_wp2
 refine bodyPost_ret (v := .tuple #[.agg #[p0, p1], .int .i64 0]) ?_ rfl ⟨_, rfl, E.below, ⟨_, _, rfl, hP, rfl⟩⟩
 simp [results, Try.results77, go_sem, c0, c1]

set_option maxRecDepth 100000 in
set_option maxHeartbeats 4000000 in
theorem exInvN {w : World} {v v' : Value} {a m : Int} (h : Num w v a) (h' : Num w v' m) (ha : ab a < pw 300) (hm : ab m < pw 300) (h0 : 0 < m) (hg : Int.gcd a m ≠ 1) :
  Calls Try.prog 77 #[v, v'] w fun e w' => ∃ v', e = .returned v' ∧ Below w.heap.size w w' ∧ (Fq.tup2 (Fq.num 0) (Fq.is (.int .i64 4))).P v' w' := by
 replace ha := hidd ha
 replace hm := hidd hm
 obtain ⟨n0, ao0, k0, c0, rfl⟩ := h.parts
 obtain ⟨n1, ao1, k1, c1, rfl⟩ := h'.parts
 obtain ⟨w1, b1, hw1, hb1, hs1, E⟩ := fr_start w (F := Fq.num a) (us := [.bool n0, .slice ao0 k0 c0]) 29 rfl (by simp) (tame_int _ _ _ _) h
 obtain ⟨w2, b2, hw2, hb2, hs2, E⟩ := fr_more E hs1 (F := Fq.num m) (us := [.bool n1, .slice ao1 k1 c1]) 29 rfl (by simp) (tame_int _ _ _ _) (h'.mono E.below)
 obtain ⟨w3, b3, hw3, hb3, hs3, E⟩ := fr_more E hs2 (F := Fq.num 0) (us := [.bool false, .slice none 0 0]) 29 rfl (by simp) (tame_int _ _ _ _) (Num.zero _)
 go_enter Try.func77, Try.ntmps77
 go_upto_region 1 with (fail)
 rw [← hw1]
 rw [← hw2]
 rw [← hw3]
 rw [← hb3]
 rw [← hb2]
 rw [← hb1]
 clear hw1 hw2 hw3 hb1 hb2 hb3 hs3 hs1 hs2
 have T1 : Hid (¬ cmpI m 0 ≤ 0) := fun e => by have := cmpI_le0.1 e; omega
 have HP := hidd h0
 have T2 : Hid (decide ((Int.gcd a m : Int) = 1) = false) := decide_eq_false (by omega)
 clear h0 hg
 refine region_fr (C := [Fq.num m, Fq.is (.int .i64 (cmpI m 0)), Fq.is (.bool false)]) (ks := [none, none, none]) (new := []) E rfl (by kernel_rfl) rfl rfl (fun hp => ⟨?_, ?_, ?_, trivial⟩) ?_
 ·exact q_loadInt (off := 0) hp (free_of rfl) trivial (mq 1 rfl) (.inl rfl) (Nat.le_of_ble_eq_true rfl) (sq_out rfl rfl (fun _ _ => rfl)) (fun us w hl h => ld_num hl h)
 ·exact q_call1 (F := (Fq.num m).P) hp (free_of rfl) trivial (enq_Sign) (sqi 0) (fun v w h => exSign h)
 ·exact q_one (F := fun v _ => v = .int .i64 (cmpI m 0)) hp (free_of rfl) trivial (sqi 1) (fun ρ w hc h => ⟨.bool false, by simp [execOp, go_sem, h, hc, T1.out], rfl⟩)
 intro L vs w4 nb hL hC hn E4
 have e1 : vs 1 = .int .i64 (cmpI m 0) := hC 1 (by simp)
 have e2 : vs 2 = .bool false := hC 2 (by simp)
 have E : Fr w [(b3, 2, Fq.num 0), (b2, 2, Fq.num m), (b1, 2, Fq.num a)] w4 := E4
 rw [lay_all hL]
 simp only [putAll, dstOf, List.length_cons, List.length_nil, Nat.zero_add, Nat.reduceAdd, List.getElem?_toArray, List.getElem?_cons_zero, List.getElem?_cons_succ, Option.bind_some, Act.put, List.setIfInBounds_toArray, List.set_cons_succ, List.set_cons_zero]
 rw [e1, e2]
 generalize vs 0 = u4_0
 clear e1 e2 hC hn E4 hL vs L nb
 clear T1
 go_upto_region 3 with (fail)
 have B5 : Hid (ab ((Int.gcd a m : Int)) < pw 300) := ab_gcdB ha.out hm.out (by omega) (by omega)
 have B6 : Hid (ab (bezU a m) < pw 300) := bezU_ab HP.out hm.out
 refine region_fr (C := [Fq.num a, Fq.num m, Fq.tup3 (Fq.num (Int.gcd a m : Int)) (Fq.num (bezU a m)) (Fq.num (bezV a m)), Fq.tup3 (Fq.num (Int.gcd a m : Int)) (Fq.num (bezU a m)) (Fq.num (bezV a m)), Fq.num (Int.gcd a m : Int), Fq.num (bezU a m), Fq.num (bezV a m), Fq.any, Fq.any, Fq.any, Fq.any, Fq.any, Fq.any]) (ks := [none, none, none]) (new := [⟨7, 10, 2, Fq.num 0, Fq.num (Int.gcd a m : Int), none⟩, ⟨8, 11, 2, Fq.num 0, Fq.num (bezU a m), none⟩, ⟨9, 12, 2, Fq.num 0, Fq.num (bezV a m), none⟩]) E rfl (by kernel_rfl) rfl rfl (fun hp => ⟨?_, ?_, ?_, ?_, ?_, ?_, ?_, ?_, ?_, ?_, ?_, ?_, ?_, trivial⟩) ?_
 ·exact q_loadInt (off := 0) hp (free_of rfl) trivial (mq 2 rfl) (.inl rfl) (Nat.le_of_ble_eq_true rfl) (sq_out rfl rfl (fun _ _ => rfl)) (fun us w hl h => ld_num hl h)
 ·exact q_loadInt (off := 0) hp (free_of rfl) trivial (mq 1 rfl) (.inl rfl) (Nat.le_of_ble_eq_true rfl) (sq_out rfl rfl (fun _ _ => rfl)) (fun us w hl h => ld_num hl h)
 ·exact q_call2 (F := (Fq.num a).P) (G := (Fq.num m).P) hp (free_of rfl) trivial (enq_Bezout) (sqi 0) (sqi 1) (fun v v' w h h' => exBezout h h' (Int.lt_of_lt_of_le ha.out (pw_le (by omega))) (Int.lt_of_lt_of_le hm.out (pw_le (by omega))) HP.out)
 ·exact q_move hp (free_of rfl) trivial (sqi 2)
 ·exact q_extract3 hp (free_of rfl) trivial (sqi 3) (fun v1 v2 v3 w h1 h2 h3 => ⟨_, rfl, h1⟩)
 ·exact q_extract3 hp (free_of rfl) trivial (sqi 3) (fun v1 v2 v3 w h1 h2 h3 => ⟨_, rfl, h2⟩)
 ·exact q_extract3 hp (free_of rfl) trivial (sqi 3) (fun v1 v2 v3 w h1 h2 h3 => ⟨_, rfl, h3⟩)
 ·exact q_allocInt hp (mq 0 rfl) rfl rfl rfl rfl (Nat.ne_of_beq_eq_false rfl) (fun _ _ => trivial) (old_ne rfl) (newk_ne rfl) (fun w => Num.zero w)
 ·exact q_allocInt hp (mq 1 rfl) rfl rfl rfl rfl (Nat.ne_of_beq_eq_false rfl) (fun _ _ => trivial) (old_ne rfl) (newk_ne rfl) (fun w => Num.zero w)
 ·exact q_allocInt hp (mq 2 rfl) rfl rfl rfl rfl (Nat.ne_of_beq_eq_false rfl) (fun _ _ => trivial) (old_ne rfl) (newk_ne rfl) (fun w => Num.zero w)
 ·exact q_storeNewInt hp (mq 0 rfl) rfl rfl rfl (own_ptr rfl rfl (by simp) rfl) (sq_in 4 rfl rfl (by simp) rfl (fun v w h => intV_num h)) (fun _ _ => trivial) (old_ne rfl) (newi_ne rfl)
 ·exact q_storeNewInt hp (mq 1 rfl) rfl rfl rfl (own_ptr rfl rfl (by simp) rfl) (sq_in 5 rfl rfl (by simp) rfl (fun v w h => intV_num h)) (fun _ _ => trivial) (old_ne rfl) (newi_ne rfl)
 ·exact q_storeNewInt hp (mq 2 rfl) rfl rfl rfl (own_ptr rfl rfl (by simp) rfl) (sq_in 6 rfl rfl (by simp) rfl (fun v w h => intV_num h)) (fun _ _ => trivial) (old_ne rfl) (newi_ne rfl)
 intro L vs w7 nb hL hC hn E7
 have e7 : vs 7 = .pointer (some ⟨nb 7, 0, none⟩) := hn _ (mq 0 rfl)
 have e8 : vs 8 = .pointer (some ⟨nb 8, 0, none⟩) := hn _ (mq 1 rfl)
 have e9 : vs 9 = .pointer (some ⟨nb 9, 0, none⟩) := hn _ (mq 2 rfl)
 have E : Fr w [(nb 7, 2, Fq.num (Int.gcd a m : Int)), (nb 8, 2, Fq.num (bezU a m)), (nb 9, 2, Fq.num (bezV a m)), (b3, 2, Fq.num 0), (b2, 2, Fq.num m), (b1, 2, Fq.num a)] w7 := E7
 rw [lay_all hL]
 simp only [putAll, dstOf, List.length_cons, List.length_nil, Nat.zero_add, Nat.reduceAdd, List.getElem?_toArray, List.getElem?_cons_zero, List.getElem?_cons_succ, Option.bind_some, Act.put, List.setIfInBounds_toArray, List.set_cons_succ, List.set_cons_zero]
 rw [e7, e8, e9]
 generalize nb 7 = b7_7 at E ⊢
 generalize nb 8 = b7_8 at E ⊢
 generalize nb 9 = b7_9 at E ⊢
 generalize vs 0 = u7_0
 generalize vs 1 = u7_1
 generalize vs 2 = u7_2
 generalize vs 3 = u7_3
 generalize vs 4 = u7_4
 generalize vs 5 = u7_5
 generalize vs 6 = u7_6
 clear e7 e8 e9 hC hn E7 hL vs L nb
 go_upto_region 4 with (fail)
 refine region_fr (C := [Fq.num (Int.gcd a m : Int), Fq.is (.bool false), Fq.is (.bool true)]) (ks := [none, none, none, none, none, none]) (new := []) E rfl (by kernel_rfl) rfl rfl (fun hp => ⟨?_, ?_, ?_, trivial⟩) ?_
 ·exact q_loadInt (off := 0) hp (free_of rfl) trivial (mq 0 rfl) (.inl rfl) (Nat.le_of_ble_eq_true rfl) (sq_out rfl rfl (fun _ _ => rfl)) (fun us w hl h => ld_num hl h)
 ·exact q_call1 (F := (Fq.num (Int.gcd a m : Int)).P) hp (free_of rfl) trivial (enq_M_isOne) (sqi 0) (fun v w h => exIsOneMB h T2.out)
 ·exact q_one (F := fun v _ => v = .bool false) hp (free_of rfl) trivial (sqi 1) (fun ρ w _ h => ⟨.bool true, by simp [execOp, go_sem, h], rfl⟩)
 intro L vs w8 nb hL hC hn E8
 have e1 : vs 1 = .bool false := hC 1 (by simp)
 have e2 : vs 2 = .bool true := hC 2 (by simp)
 have E : Fr w [(b7_7, 2, Fq.num (Int.gcd a m : Int)), (b7_8, 2, Fq.num (bezU a m)), (b7_9, 2, Fq.num (bezV a m)), (b3, 2, Fq.num 0), (b2, 2, Fq.num m), (b1, 2, Fq.num a)] w8 := E8
 rw [lay_all hL]
 simp only [putAll, dstOf, List.length_cons, List.length_nil, Nat.zero_add, Nat.reduceAdd, List.getElem?_toArray, List.getElem?_cons_zero, List.getElem?_cons_succ, Option.bind_some, Act.put, List.setIfInBounds_toArray, List.set_cons_succ, List.set_cons_zero]
 rw [e1, e2]
 generalize vs 0 = u8_0
 clear e1 e2 hC hn E8 hL vs L nb
 clear T2
 go_upto_region 5 with (fail)
 refine region_fr (C := [Fq.num 0, Fq.any, Fq.is (.int .i64 4)]) (ks := [none, none, none, some (1, Fq.num 0), none, none]) (new := []) E rfl (by kernel_rfl) rfl rfl (fun hp => ⟨?_, ?_, ?_, trivial⟩) ?_
 ·exact q_zeroInt hp (free_of rfl) trivial (fun w => Num.zero w)
 ·exact q_storeOldInt hp (mq 3 rfl) rfl rfl (sq_out rfl rfl (fun _ _ => rfl)) (sq_in 0 rfl rfl (by simp) rfl (fun v w h => intV_num h)) (fun _ _ => trivial) (newik_ne rfl)
 ·exact q_assign hp (free_of rfl) trivial (sq_const (fun _ => rfl))
 intro L vs w9 nb hL hC hn E9
 have e2 : vs 2 = .int .i64 4 := hC 2 (by simp)
 have E : Fr w [(b7_7, 2, Fq.num (Int.gcd a m : Int)), (b7_8, 2, Fq.num (bezU a m)), (b7_9, 2, Fq.num (bezV a m)), (b3, 2, Fq.num 0), (b2, 2, Fq.num m), (b1, 2, Fq.num a)] w9 := E9
 rw [lay_all hL]
 simp only [putAll, dstOf, List.length_cons, List.length_nil, Nat.zero_add, Nat.reduceAdd, List.getElem?_toArray, List.getElem?_cons_zero, List.getElem?_cons_succ, Option.bind_some, Act.put, List.setIfInBounds_toArray, List.set_cons_succ, List.set_cons_zero]
 rw [e2]
 generalize vs 0 = u9_0
 clear e2 hC hn E9 hL vs L nb
 clear HP
 obtain ⟨p0, p1, c0, c1, hP⟩ := box_num (E.box 3 rfl)
 clear B5 B6 ha hm
 go_wp2
 refine bodyPost_ret (v := .tuple #[.agg #[p0, p1], .int .i64 4]) ?_ rfl ⟨_, rfl, E.below, ⟨_, _, rfl, hP, rfl⟩⟩
 simp [results, Try.results77, go_sem, c0, c1]

end Go.Proofs.Ytihhlaagndingaa

namespace Go.Proofs.Ytihhlaagndingaa
open Go Go.RowKit

theorem row_api_Mod : rowB 31 6 = true := by kernel_rfl
theorem size_api_Mod : sizeB 31 6 = true := by kernel_rfl
theorem fits0_api_Mod (w : World) : Fits w [.n 0, .n 0, .n 0] [.bool false, .slice none 0 0, .bool false, .slice none 0 0, .bool false, .slice none 0 0] := ⟨_, _, _, rfl, Num.zero w, _, _, _, rfl, Num.zero w, _, _, _, rfl, Num.zero w, rfl⟩
theorem fits0P_api_Mod (w : World) : (Fq.st [.n 0, .n 0, .n 0]).P (.agg ([.bool false, .slice none 0 0, .bool false, .slice none 0 0, .bool false, .slice none 0 0] : List Value).toArray) w := ⟨_, rfl, fits0_api_Mod w⟩
theorem ralloc_api_Mod {d : Option Tmp} {ty : TypeId} {ps : String} {af : Array Edge} (ρ : Operand → Value) (w : World) : (execOp ρ { dst := d, op := .alloc 31, type := ty, pos := ps, after := af, guard := none }).run Try.prog w = .ok (.value (.pointer (some ⟨w.heap.size, 0, none⟩))) (w.alloc (.cells [.bool false, .slice none 0 0, .bool false, .slice none 0 0, .bool false, .slice none 0 0].toArray 31)) := by
 simp [execOp, go_sem]
theorem row_api_Point : rowB 37 5 = true := by kernel_rfl
theorem size_api_Point : sizeB 37 5 = true := by kernel_rfl
theorem fits0_api_Point (w : World) : Fits w [.n 0, .n 0, .v (.bool false)] [.bool false, .slice none 0 0, .bool false, .slice none 0 0, .bool false] := ⟨_, _, _, rfl, Num.zero w, _, _, _, rfl, Num.zero w, _, rfl, rfl, rfl⟩
theorem fits0P_api_Point (w : World) : (Fq.st [.n 0, .n 0, .v (.bool false)]).P (.agg ([.bool false, .slice none 0 0, .bool false, .slice none 0 0, .bool false] : List Value).toArray) w := ⟨_, rfl, fits0_api_Point w⟩
theorem ralloc_api_Point {d : Option Tmp} {ty : TypeId} {ps : String} {af : Array Edge} (ρ : Operand → Value) (w : World) : (execOp ρ { dst := d, op := .alloc 37, type := ty, pos := ps, after := af, guard := none }).run Try.prog w = .ok (.value (.pointer (some ⟨w.heap.size, 0, none⟩))) (w.alloc (.cells [.bool false, .slice none 0 0, .bool false, .slice none 0 0, .bool false].toArray 37)) := by
 simp [execOp, go_sem]
theorem row_api_Int : rowB 29 2 = true := by kernel_rfl
theorem size_api_Errno : sizeB 39 1 = true := by kernel_rfl
theorem exAbsN {w : World} {v : Value} {z : Int} (h : Num w v z) (hz : ab z < pw 40) (h0 : 0 ≤ z) : Calls Try.prog 62 #[v] w fun e w' => ∃ v', e = .returned v' ∧ Below w.heap.size w w' ∧ Num w' v' z := by
 have e : (z.natAbs : Int) = z := by omega
 have := exK (AbsV h) (k := 40) (by rw [e]; exact hz) (by omega)
 rw [e] at this
 exact this
section
variable {os : List Oper} {Q : Exit → Act → World → Prop} {a : Act} {p : Pq} {B B0 : Nat} {w0 : World}
variable {i s : Nat} {d : Option Tmp} {ty : TypeId} {ps : String} {af : Array Edge} {gd : Option (Nat × Bool)}
theorem q_build_api_Point_012 {x0 : Operand} {z0 : Int} {x1 : Operand} {z1 : Int} {x2 : Operand} {u2 : Bool} (hp : p.Ok B B0) (hF : p.Free i) (hg : GdQ os a p B B0 w0 af gd) (h0 : SrcQ os a p B B0 w0 af x0 fun v w => Num w v z0) (h1 : SrcQ os a p B B0 w0 af x1 fun v w => Num w v z1) (h2 : SrcQ os a p B B0 w0 af x2 fun v _ => v = .bool u2) (hC : ∀ v w, (Fq.st [.n z0, .n z1, .v (.bool u2)]).P v w → (p.c i).P v w) :
  StepQ os Q a p B B0 w0 i { dst := d, op := .build 37 #[(0, x0), (1, x1), (2, x2)], type := ty, pos := ps, after := af, guard := gd } := by
 refine stq_val hp hF hg fun L vs w hG hL hc hd => ?_
 have g0 := h0 L vs w hG hd
 obtain ⟨n0, ao0, k0, c0, e0⟩ := g0.parts
 have m0 : Num w (.agg #[.bool n0, .slice ao0 k0 c0]) z0 := by rw [← e0]; exact g0
 have g1 := h1 L vs w hG hd
 obtain ⟨n1, ao1, k1, c1, e1⟩ := g1.parts
 have m1 : Num w (.agg #[.bool n1, .slice ao1 k1 c1]) z1 := by rw [← e1]; exact g1
 have g2 := h2 L vs w hG hd
 refine ⟨.agg #[.bool n0, .slice ao0 k0 c0, .bool n1, .slice ao1 k1 c1, .bool u2], ?_, hC _ _ ⟨_, rfl, _, _, _, rfl, m0, _, _, _, rfl, m1, _, rfl, rfl, rfl⟩⟩
 generalize (lay os.toArray L vs os.toArray.size a).eval = ρ at e0 e1 g2
 simp [execOp, go_sem, e0, e1, g2]
end
set_option maxRecDepth 100000 in
set_option maxHeartbeats 4000000 in
theorem exResP {w : World} {v v' : Value} {a m : Int} (h : Num w v a) (h' : Num w v' m) (ha : ab a < pw 40) (hm : ab m < pw 40) (h0 : 0 < m) :
  Calls Try.prog 61 #[v, v'] w fun e w' => ∃ v', e = .returned v' ∧ Below w.heap.size w w' ∧ Num w' v' (a % m) := by
 replace ha := hidd ha
 replace hm := hidd hm
 replace h0 := hidd h0
 obtain ⟨n0, ao0, k0, c0, rfl⟩ := h.parts
 obtain ⟨n1, ao1, k1, c1, rfl⟩ := h'.parts
 obtain ⟨w1, b1, hw1, hb1, hs1, E⟩ := fr_start w (F := Fq.num a) (us := [.bool n0, .slice ao0 k0 c0]) 29 rfl (by simp) (tame_int _ _ _ _) h
 obtain ⟨w2, b2, hw2, hb2, hs2, E⟩ := fr_more E hs1 (F := Fq.num m) (us := [.bool n1, .slice ao1 k1 c1]) 29 rfl (by simp) (tame_int _ _ _ _) (h'.mono E.below)
 obtain ⟨w3, b3, hw3, hb3, hs3, E⟩ := fr_more E hs2 (F := Fq.num 0) (us := [.bool false, .slice none 0 0]) 29 rfl (by simp) (tame_int _ _ _ _) (Num.zero _)
 go_enter Try.func61, Try.ntmps61
 go_upto_region 1 with (fail)
 rw [← hw1]
 rw [← hw2]
 rw [← hw3]
 rw [← hb3]
 rw [← hb2]
 rw [← hb1]
 clear hw1 hw2 hw3 hb1 hb2 hb3 hs3 hs1 hs2
 refine region_fr (C := [Fq.num a, Fq.num m, Fq.tup2 (Fq.num (a % m)) (Fq.is (.int .i64 0)), Fq.tup2 (Fq.num (a % m)) (Fq.is (.int .i64 0)), Fq.num (a % m), Fq.is (.int .i64 0), Fq.any, Fq.any, Fq.is (.int .i64 0)]) (ks := [none, none, none]) (new := [⟨6, 7, 2, Fq.num 0, Fq.num (a % m), none⟩]) E rfl (by kernel_rfl) rfl rfl (fun hp => ⟨?_, ?_, ?_, ?_, ?_, ?_, ?_, ?_, ?_, trivial⟩) ?_
 ·exact q_loadInt (off := 0) hp (free_of rfl) trivial (mq 2 rfl) (.inl rfl) (Nat.le_of_ble_eq_true rfl) (sqo 2) (fun us w hl h => ld_num hl h)
 ·exact q_loadInt (off := 0) hp (free_of rfl) trivial (mq 1 rfl) (.inl rfl) (Nat.le_of_ble_eq_true rfl) (sqo 3) (fun us w hl h => ld_num hl h)
 ·exact q_call2 (F := (Fq.num a).P) (G := (Fq.num m).P) hp (free_of rfl) trivial (enq_M_Mod) (sqi 0) (sqi 1) (fun v v' w h h' => exModP h h' (Int.lt_of_lt_of_le ha.out (pw_le (by omega))) (Int.lt_of_lt_of_le hm.out (pw_le (by omega))) h0.out)
 ·exact q_move hp (free_of rfl) trivial (sqi 2)
 ·exact q_extract2 hp (free_of rfl) trivial (sqi 3) (fun v1 v2 w h1 h2 => ⟨_, rfl, h1⟩)
 ·exact q_extract2 hp (free_of rfl) trivial (sqi 3) (fun v1 v2 w h1 h2 => ⟨_, rfl, h2⟩)
 ·exact q_allocInt hp (mq 0 rfl) rfl rfl rfl rfl (Nat.ne_of_beq_eq_false rfl) (fun _ _ => trivial) (old_ne rfl) (newk_ne rfl) (fun w => Num.zero w)
 ·exact q_storeNewInt hp (mq 0 rfl) rfl rfl rfl (own_ptr rfl rfl (by simp) rfl) (sq_in 4 rfl rfl (by simp) rfl (fun v w h => intV_num h)) (fun _ _ => trivial) (old_ne rfl) (newi_ne rfl)
 ·exact q_assign hp (free_of rfl) trivial (sqi 5)
 intro L vs w4 nb hL hC hn E4
 have e5 : vs 5 = .int .i64 0 := hC 5 (by simp)
 have e8 : vs 8 = .int .i64 0 := hC 8 (by simp)
 have e6 : vs 6 = .pointer (some ⟨nb 6, 0, none⟩) := hn _ (mq 0 rfl)
 have E : Fr w [(nb 6, 2, Fq.num (a % m)), (b3, 2, Fq.num 0), (b2, 2, Fq.num m), (b1, 2, Fq.num a)] w4 := E4
 rw [lay_all hL]
 simp only [putAll, dstOf, List.length_cons, List.length_nil, Nat.zero_add, Nat.reduceAdd, List.getElem?_toArray, List.getElem?_cons_zero, List.getElem?_cons_succ, Option.bind_some, Act.put, List.setIfInBounds_toArray, List.set_cons_succ, List.set_cons_zero]
 rw [e5, e8, e6]
 generalize nb 6 = b4_6 at E ⊢
 generalize vs 0 = u4_0
 generalize vs 1 = u4_1
 generalize vs 2 = u4_2
 generalize vs 3 = u4_3
 generalize vs 4 = u4_4
 clear e5 e8 e6 hC hn E4 hL vs L nb
 go_upto_region 2 with (fail)
 refine region_fr (C := [Fq.num (a % m), Fq.any]) (ks := [none, some (1, Fq.num (a % m)), none, none]) (new := []) E rfl (by kernel_rfl) rfl rfl (fun hp => ⟨?_, ?_, trivial⟩) ?_
 ·exact q_loadInt (off := 0) hp (free_of rfl) trivial (mq 0 rfl) (.inl rfl) (Nat.le_of_ble_eq_true rfl) (sqo 5) (fun us w hl h => ld_num hl h)
 ·exact q_storeOldInt hp (mq 1 rfl) rfl rfl (sqo 4) (sq_in 0 rfl rfl (by simp) rfl (fun v w h => intV_num h)) (fun _ _ => trivial) (newik_ne rfl)
 intro L vs w5 nb hL hC hn E5
 have E : Fr w [(b4_6, 2, Fq.num (a % m)), (b3, 2, Fq.num (a % m)), (b2, 2, Fq.num m), (b1, 2, Fq.num a)] w5 := E5
 rw [lay_all hL]
 simp only [putAll, dstOf, List.length_cons, List.length_nil, Nat.zero_add, Nat.reduceAdd, List.getElem?_toArray, List.getElem?_cons_zero, List.getElem?_cons_succ, Option.bind_some, Act.put, List.setIfInBounds_toArray, List.set_cons_succ, List.set_cons_zero]
 generalize vs 0 = u5_0
 clear  hC hn E5 hL vs L nb
 clear h0
 obtain ⟨p0_0, p0_1, c0_0, c0_1, hP0⟩ := box_num (E.box 1 rfl)
 clear ha hm
 go_wp2
 refine bodyPost_ret (v := .agg #[p0_0, p0_1]) ?_ rfl ⟨_, rfl, E.below, hP0⟩
 simp [results, Try.results61, go_sem, c0_0, c0_1]

set_option maxRecDepth 100000 in
set_option maxHeartbeats 4000000 in
theorem exCopied {w : World} {v : Value} {x y : Int} {i : Bool} (h : (Fq.st [.n x, .n y, .v (.bool i)]).P v w) (hx : ab x < pw 40) (hy : ab y < pw 40) (hx0 : 0 ≤ x) (hy0 : 0 ≤ y) :
  Calls Try.prog 75 #[v] w fun e w' => ∃ v', e = .returned v' ∧ Below w.heap.size w w' ∧ (Fq.st [.n x, .n y, .v (.bool i)]).P v' w' := by
 replace hx := hidd hx
 replace hy := hidd hy
 obtain ⟨_, rfl, hf0⟩ := h
 have hF0 := hf0
 obtain ⟨y0_p0, y0_q0, _, rfl, _y0_n0, y0_p1, y0_q1, _, rfl, _y0_n1, _, rfl, _, rfl⟩ := hf0
 obtain ⟨w1, b1, hw1, hb1, hs1, E⟩ := fr_start w (F := Fq.st [.n x, .n y, .v (.bool i)]) (us := [y0_p0, y0_q0, y0_p1, y0_q1, .bool i]) 37 rfl (by simp) (hF0.tame) (show (Fq.st [.n x, .n y, .v (.bool i)]).P _ w from ⟨_, rfl, hF0⟩)
 obtain ⟨w2, b2, hw2, hb2, hs2, E⟩ := fr_more E hs1 (F := Fq.st [.n 0, .n 0, .v (.bool false)]) (us := [.bool false, .slice none 0 0, .bool false, .slice none 0 0, .bool false]) 37 rfl (by simp) ((Fits.tame (fits0_api_Point w))) (fits0P_api_Point _)
 go_enter Try.func75, Try.ntmps75
 go_upto_region 1 with (fail)
 rw [← hw1]
 rw [← hw2]
 rw [← hb2]
 rw [← hb1]
 clear hw1 hw2 hb1 hb2 hs2 hs1
 replace hx0 := hidd hx0
 replace hy0 := hidd hy0
 refine region_fr (C := [Fq.is (.pointer (some ⟨b1, 0, none⟩)), Fq.num x, Fq.num x, Fq.is (.pointer (some ⟨b1, 2, none⟩)), Fq.num y, Fq.num y, Fq.is (.pointer (some ⟨b1, 4, none⟩)), Fq.is (.bool i), Fq.st [.n x, .n y, .v (.bool i)], Fq.any]) (ks := [some (9, Fq.st [.n x, .n y, .v (.bool i)]), none]) (new := []) E rfl (by kernel_rfl) rfl rfl (fun hp => ⟨?_, ?_, ?_, ?_, ?_, ?_, ?_, ?_, ?_, ?_, trivial⟩) ?_
 ·exact q_addr (b := b1) (off := 0) (off' := 0) hp (free_of rfl) trivial (sqo 1) (fun ρ w h => by simp [execOp, go_sem, h]) (fun _ => rfl)
 ·exact q_loadSt (off := 0) (l := 2) (fs := [.n x, .n y, .v (.bool i)]) (gs := [.n x]) hp (free_of rfl) trivial (mq 1 rfl) (.inl rfl) rfl row_api_Int rfl (sqi 0) (fun v w h => st_num h)
 ·exact q_call1 (F := (Fq.num x).P) hp (free_of rfl) trivial (enq_Abs) (sqi 1) (fun v w h => exAbsN h hx.out hx0.out)
 ·exact q_addr (b := b1) (off := 0) (off' := 2) hp (free_of rfl) trivial (sqo 1) (fun ρ w h => by simp [execOp, go_sem, h]) (fun _ => rfl)
 ·exact q_loadSt (off := 2) (l := 2) (fs := [.n x, .n y, .v (.bool i)]) (gs := [.n y]) hp (free_of rfl) trivial (mq 1 rfl) (.inl rfl) rfl row_api_Int rfl (sqi 3) (fun v w h => st_num h)
 ·exact q_call1 (F := (Fq.num y).P) hp (free_of rfl) trivial (enq_Abs) (sqi 4) (fun v w h => exAbsN h hy.out hy0.out)
 ·exact q_addr (b := b1) (off := 0) (off' := 4) hp (free_of rfl) trivial (sqo 1) (fun ρ w h => by simp [execOp, go_sem, h]) (fun _ => rfl)
 ·exact q_load1 (off := 4) (fs := [.n x, .n y, .v (.bool i)]) (u := .bool i) hp (free_of rfl) trivial (mq 1 rfl) (.inl rfl) rfl rfl (fun ρ w b h1 h2 => by simp [execOp, go_sem, h1, h2]) (sqi 6) (fun _ => rfl)
 ·exact q_build_api_Point_012 (z0 := x) (z1 := y) (u2 := i) hp (free_of rfl) trivial (sqi 2) (sqi 5) (sqi 7) (fun v w h => h)
 ·exact q_storeOldSt (off := 0) (fs := [.n 0, .n 0, .v (.bool false)]) (gs := [.n x, .n y, .v (.bool i)]) (fs' := [.n x, .n y, .v (.bool i)]) hp (mq 0 rfl) rfl rfl rfl size_api_Point rfl (sqo 2) (sq_in 8 rfl rfl (by simp) rfl (fun v w h => fitv_st h)) (fun _ _ => trivial) (newik_ne rfl)
 intro L vs w3 nb hL hC hn E3
 have e0 : vs 0 = .pointer (some ⟨b1, 0, none⟩) := hC 0 (by simp)
 have e3 : vs 3 = .pointer (some ⟨b1, 2, none⟩) := hC 3 (by simp)
 have e6 : vs 6 = .pointer (some ⟨b1, 4, none⟩) := hC 6 (by simp)
 have e7 : vs 7 = .bool i := hC 7 (by simp)
 have E : Fr w [(b2, 5, Fq.st [.n x, .n y, .v (.bool i)]), (b1, 5, Fq.st [.n x, .n y, .v (.bool i)])] w3 := E3
 rw [lay_all hL]
 simp only [putAll, dstOf, List.length_cons, List.length_nil, Nat.zero_add, Nat.reduceAdd, List.getElem?_toArray, List.getElem?_cons_zero, List.getElem?_cons_succ, Option.bind_some, Act.put, List.setIfInBounds_toArray, List.set_cons_succ, List.set_cons_zero]
 rw [e0, e3, e6, e7]
 generalize vs 1 = u3_1
 generalize vs 2 = u3_2
 generalize vs 4 = u3_4
 generalize vs 5 = u3_5
 generalize vs 8 = u3_8
 clear e0 e3 e6 e7 hC hn E3 hL vs L nb
 clear hx0 hy0
 obtain ⟨_, _, hc0, hf0⟩ := box_st (E.box 0 rfl)
 have hP0 := hf0
 obtain ⟨r0_p0, r0_q0, _, rfl, _r0_n0, r0_p1, r0_q1, _, rfl, _r0_n1, _, rfl, _, rfl⟩ := hf0
 have c0_0 := hc0 0 (by simp)
 have c0_1 := hc0 1 (by simp)
 have c0_2 := hc0 2 (by simp)
 have c0_3 := hc0 3 (by simp)
 have c0_4 := hc0 4 (by simp)
 simp only [List.getD_cons_zero, List.getD_cons_succ] at c0_0 c0_1 c0_2 c0_3 c0_4
 clear hc0
 clear hx hy
 go_wp2
 refine bodyPost_ret (v := .agg #[r0_p0, r0_q0, r0_p1, r0_q1, .bool i]) ?_ rfl ⟨_, rfl, E.below, ⟨_, rfl, hP0⟩⟩
 simp [results, Try.results75, go_sem, c0_0, c0_1, c0_2, c0_3, c0_4]

end Go.Proofs.Ytihhlaagndingaa

namespace Go.Proofs.Ytihhlaagndingaa
open Go Go.RowKit

def FiveAt (zs : List Int) (g : Nat) (w : World) : Prop :=
 g < w.heap.size ∧ ∀ j, j < 5 → ∃ (n : Bool) (ao : Option Addr) (k c : Nat), w.cell? ⟨g, 2 * j, none⟩ = some (.bool n) ∧ w.cell? ⟨g, 2 * j + 1, none⟩ = some (.slice ao k c) ∧ Num w (.agg #[.bool n, .slice ao k c]) (zs.getD j 0)

theorem FiveAt.mono {zs : List Int} {g : Nat} {w w' : World} (h : FiveAt zs g w) (hb : Below w.heap.size w w') : FiveAt zs g w' := by
 refine ⟨Nat.lt_of_lt_of_le h.1 hb.size, fun j hj => ?_⟩
 obtain ⟨n, ao, k, c, h1, h2, h3⟩ := h.2 j hj
 exact ⟨n, ao, k, c, (hb.cell (p := ⟨g, 2 * j, none⟩) h.1).trans h1, (hb.cell (p := ⟨g, 2 * j + 1, none⟩) h.1).trans h2, h3.mono hb⟩

section
variable {os : List Oper} {Q : Exit → Act → World → Prop} {a : Act} {p : Plan} {B B0 : Nat} {w0 : World}
variable {i s : Nat} {d : Option Tmp} {ty : TypeId} {ps : String} {af : Array Edge} {gd : Option (Nat × Bool)}

end

theorem valid_canon {neg : Bool} {xs : List Int} (hc : Canon xs) (hn : neg = true → xs.length ≠ 0) : validB neg xs = true := by
 unfold validB
 by_cases h : xs.length = 0
 ·rw [if_pos h]
  cases neg with
  | false => rfl
  | true => exact absurd h (hn rfl)
 ·rw [if_neg h]
  have h1 : pw (xs.length - 1) ≤ val xs := hc.2.resolve_left h
  have h2 := val_take_succ xs (xs.length - 1)
  rw [show xs.length - 1 + 1 = xs.length by omega, List.take_length] at h2
  have h3 := val_lt (hc.1.take (xs.length - 1))
  rw [List.length_take, Nat.min_eq_left (by omega)] at h3
  simp only [bne_iff_ne, ne_eq]
  intro h0
  rw [h0, Int.mul_zero] at h2
  omega

theorem exValid {w : World} {n : Bool} {ao : Option Addr} {k c : Nat} {z : Int} (h : Num w (.agg #[.bool n, .slice ao k c]) z) : Calls Try.prog 56 #[.agg #[.bool n, .slice ao k c]] w fun e w' => e = .returned (.bool true) ∧ Below w.heap.size w w' := by
 obtain ⟨neg, ao', k', c', xs, hv, hs, hn, hz, hc, hnn⟩ := h
 obtain ⟨rfl, rfl, rfl, rfl⟩ : n = neg ∧ ao = ao' ∧ k = k' ∧ c = c' := by
  simp at hv; exact ⟨hv.1, hv.2.1, hv.2.2.1, hv.2.2.2⟩
 have := Valid_any w n ao k c xs hs (by omega)
 rw [valid_canon hc (by rw [hs.len]; exact hnn)] at this
 exact this

end Go.Proofs.Ytihhlaagndingaa

namespace Go.Proofs.Ytihhlaagndingaa
open Go Go.RowKit

end Go.Proofs.Ytihhlaagndingaa

namespace Go.Proofs.Ytihhlaagndingaa
open Go Go.RowKit

theorem bits_uniq {v : Int} {m m' : Nat} (h : IsBits v m) (h' : IsBits v m') : m = m' := by
 rcases h with ⟨h1, h2⟩ | ⟨h1, h2, h3⟩ <;> rcases h' with ⟨h4, h5⟩ | ⟨h4, h5, h6⟩
 ·omega
 ·have := pow_two_pos (m' - 1); omega
 ·have := pow_two_pos (m - 1); omega
 ·rcases Nat.lt_trichotomy m m' with h | h | h
  ·have := two_pow_le (show m ≤ m' - 1 by omega); omega
  ·exact h
  ·have := two_pow_le (show m' ≤ m - 1 by omega); omega

end Go.Proofs.Ytihhlaagndingaa

namespace Go.Proofs.Ytihhlaagndingaa
open Go Go.RowKit

end Go.Proofs.Ytihhlaagndingaa

namespace Go.Proofs.Ytihhlaagndingaa
open Go Go.RowKit

def Fc.sz (V : Int) : Fc := ⟨fun v w => ∃ (ao : Option Addr) (l c : Nat) (zs : List Int), v = .slice ao l c ∧ Sl w ao l c zs ∧ l ≤ 3000000 ∧ val zs = V,
 fun ⟨ao, l, c, zs, e, h, h1, h2⟩ hb => ⟨ao, l, c, zs, e, h.mono hb, h1, h2⟩, fun ⟨ao, l, c, zs, e, h, h1, h2⟩ hb n' a' k' c' => by
 obtain ⟨p, q, r, t, hI, _⟩ := hb
 exact ⟨ao, l, c, zs, e, h.putBox hI n' a' k' c', h1, h2⟩⟩

end Go.Proofs.Ytihhlaagndingaa

namespace Go.Proofs.Ytihhlaagndingaa
open Go Go.RowKit

theorem bit_of_val {xs : List Int} (hd : Digs xs) {k r : Nat} (hk : k < xs.length) (hr : r < 32) : (val xs / 2 ^ (32 * k + r)) % 2 = (xs.getD k 0 / 2 ^ r) % 2 := by
 have h1 := val_split xs (k := k) (by omega)
 have h2 := val_drop_step xs hk
 have h3 := val_lt (hd.take k)
 have h4 := val_nonneg (hd.take k)
 rw [List.length_take, Nat.min_eq_left (by omega)] at h3
 rw [Int.pow_add, ← pw_two, ← Int.ediv_ediv_of_nonneg (by have := pw_pos k; omega)]
 have e1 : val xs / pw k = xs.getD k 0 + 4294967296 * val (xs.drop (k + 1)) := by
  rw [h1, Int.add_mul_ediv_left _ _ (by have := pw_pos k; omega), Int.ediv_eq_zero_of_lt h4 h3, Int.zero_add, h2]
 rw [e1]
 have e2 : (4294967296 : Int) = 2 ^ r * 2 ^ (32 - r) := by rw [← Int.pow_add, show r + (32 - r) = 32 by omega]; rfl
 obtain ⟨m, hm⟩ : ∃ m, 32 - r = m + 1 := ⟨31 - r, by omega⟩
 rw [e2, hm, Int.mul_assoc, Int.add_mul_ediv_left _ _ (by have := pow_two_pos r; omega), pow_two_succ, Int.mul_assoc, Int.mul_left_comm, Int.add_mul_emod_self_left]

theorem and_one (x : Int) (h0 : 0 ≤ x) (h1 : x < 4294967296) : bits .and .u32 x 1 = x % 2 := by
 obtain ⟨n, rfl⟩ := Int.eq_ofNat_of_zero_le h0
 have hn : n < 4294967296 := by omega
 have h2 : (BitVec.ofInt 32 ((n : Nat) : Int)).toNat = n := by rw [BitVec.ofInt_natCast, BitVec.toNat_ofNat]; exact Nat.mod_eq_of_lt (by omega)
 show IntKind.u32.wrap (((BitVec.ofInt 32 (n : Int)) &&& (BitVec.ofInt 32 1)).toNat : Int) = _
 rw [BitVec.toNat_and, h2]
 have h3 : (BitVec.ofInt 32 1).toNat = 1 := rfl
 rw [h3, Nat.and_one_is_mod]
 simp only [IntKind.wrap, IntKind.bits, IntKind.signed]
 simp
 omega

def nbits (z : Int) : Nat := if z = 0 then 0 else z.natAbs.log2 + 1
theorem nbits_isBits (z : Int) : IsBits (ab z) (nbits z) := by
 unfold nbits IsBits ab
 by_cases h : z = 0
 ·rw [if_pos h, h]; exact .inl ⟨rfl, rfl⟩
 ·rw [if_neg h]
  right
  have h0 : z.natAbs ≠ 0 := by omega
  have h1 := Nat.log2_self_le h0
  have h2 := Nat.lt_log2_self (n := z.natAbs)
  refine ⟨by omega, ?_, ?_⟩
  ·rw [show z.natAbs.log2 + 1 - 1 = z.natAbs.log2 by omega]
   exact_mod_cast h1
  ·exact_mod_cast h2
theorem nbits_le {z : Int} {k : Nat} (h : ab z < pw k) : nbits z ≤ 32 * k := by
 rcases nbits_isBits z with ⟨_, h2⟩ | ⟨h1, h2, _⟩
 ·omega
 ·rw [pw_two] at h
  by_cases hc : nbits z ≤ 32 * k
  ·exact hc
  ·exfalso
   have h3 : (2 : Int) ^ (32 * k) ≤ 2 ^ (nbits z - 1) := two_pow_le (by omega)
   omega
theorem exBits {w : World} {v : Value} {z : Int} (h : Num w v z) : Calls Try.prog 79 #[v] w fun e w' => ∃ v', e = .returned v' ∧ Below w.heap.size w w' ∧ v' = .int .i64 ((nbits z : Nat) : Int) := by
 obtain ⟨neg, ao, n, c, xs, rfl, hs, hn, rfl, hc, _⟩ := h
 refine (Bits_any _ _ _ _ _ _ hs (by omega)).mono fun e w' hh => ?_
 obtain ⟨m, rfl, hm, _, hb⟩ := hh
 refine ⟨_, rfl, hb, ?_⟩
 have h2 := nbits_isBits (sgn neg (val xs))
 rw [ab_sgn, ab_of (val_nonneg hs.digs)] at h2
 rw [bits_uniq hm h2]
theorem measP {i : Nat} : (intOf (.int .i64 ((i : Int) - 1)) + 1).toNat < (intOf (.int .i64 (i : Int)) + 1).toNat := by simp [intOf]
end Go.Proofs.Ytihhlaagndingaa

namespace Go.Proofs.Ytihhlaagndingaa
open Go Go.RowKit

theorem enq_f_algorist_point_isZero (args : Array Value) (w : World) : (callFunc 59 args).run Try.prog w = .ok (.enter 59 args) w := enter_of Try.func59 (by kernel_rfl) rfl args w
theorem enq_f_algorist_point_isResidue (args : Array Value) (w : World) : (callFunc 58 args).run Try.prog w = .ok (.enter 58 args) w := enter_of Try.func58 (by kernel_rfl) rfl args w
theorem enq_f_algorist_point_isCurve (args : Array Value) (w : World) : (callFunc 35 args).run Try.prog w = .ok (.enter 35 args) w := enter_of Try.func35 (by kernel_rfl) rfl args w
theorem enq_f_algorist_point_isPoint (args : Array Value) (w : World) : (callFunc 36 args).run Try.prog w = .ok (.enter 36 args) w := enter_of Try.func36 (by kernel_rfl) rfl args w
theorem enq_f_algorist_point_On (args : Array Value) (w : World) : (callFunc 15 args).run Try.prog w = .ok (.enter 15 args) w := enter_of Try.func15 (by kernel_rfl) rfl args w
theorem enq_f_algorist_point_opposite (args : Array Value) (w : World) : (callFunc 37 args).run Try.prog w = .ok (.enter 37 args) w := enter_of Try.func37 (by kernel_rfl) rfl args w
theorem enq_f_algorist_point_slope (args : Array Value) (w : World) : (callFunc 76 args).run Try.prog w = .ok (.enter 76 args) w := enter_of Try.func76 (by kernel_rfl) rfl args w
theorem enq_f_algorist_point_sum (args : Array Value) (w : World) : (callFunc 55 args).run Try.prog w = .ok (.enter 55 args) w := enter_of Try.func55 (by kernel_rfl) rfl args w
theorem enq_f_algorist_point_residue (args : Array Value) (w : World) : (callFunc 61 args).run Try.prog w = .ok (.enter 61 args) w := enter_of Try.func61 (by kernel_rfl) rfl args w
theorem enq_f_algorist_point_copied (args : Array Value) (w : World) : (callFunc 75 args).run Try.prog w = .ok (.enter 75 args) w := enter_of Try.func75 (by kernel_rfl) rfl args w
theorem enq_f_algorist_point_Neg (args : Array Value) (w : World) : (callFunc 16 args).run Try.prog w = .ok (.enter 16 args) w := enter_of Try.func16 (by kernel_rfl) rfl args w
theorem enq_f_algorist_point_Add (args : Array Value) (w : World) : (callFunc 34 args).run Try.prog w = .ok (.enter 34 args) w := enter_of Try.func34 (by kernel_rfl) rfl args w
theorem enq_f_algorist_point_existing (args : Array Value) (w : World) : (callFunc 80 args).run Try.prog w = .ok (.enter 80 args) w := enter_of Try.func80 (by kernel_rfl) rfl args w
theorem enq_f_algorist_point_multiple (args : Array Value) (w : World) : (callFunc 66 args).run Try.prog w = .ok (.enter 66 args) w := enter_of Try.func66 (by kernel_rfl) rfl args w
theorem enq_f_algorist_point_Times (args : Array Value) (w : World) : (callFunc 39 args).run Try.prog w = .ok (.enter 39 args) w := enter_of Try.func39 (by kernel_rfl) rfl args w
theorem exValidV {w : World} {v : Value} {z : Int} (h : Num w v z) : Calls Try.prog 56 #[v] w fun e w' => ∃ v', e = .returned v' ∧ Below w.heap.size w w' ∧ v' = .bool true := by
 obtain ⟨n, ao, k, c, rfl⟩ := h.parts
 refine (exValid h).mono ?_
 rintro e w' ⟨rfl, hb⟩
 exact ⟨_, rfl, hb, rfl⟩
theorem bfalse {b : Bool} (h : ¬ b = true) : b = false := by cases b <;> simp_all
theorem first_par {n : Bool} {xs : List Int} {z : Int} {k : Nat} (h : z = sgn n (val xs) ∧ Canon xs ∧ xs.length = k ∧ (n = true → k ≠ 0) ∧ Digs xs) (h0 : 0 < z) : 0 < k ∧ ∃ x0 : Int, xs.getD 0 0 = x0 ∧ bits .and .u32 x0 1 = z % 2 := by
 obtain ⟨hz, hc, hl, hn, hd⟩ := h
 match xs, hl with
 | [], _ => cases n <;> simp [val, sgn] at hz <;> omega
 | x :: t, hl =>
  refine ⟨by rw [← hl]; exact Nat.succ_pos _, x, rfl, ?_⟩
  have hx := hd.getD 0
  have ht := val_nonneg hd
  have hv : val (x :: t) = x + val t * 4294967296 := by simp [val]; try omega
  have hzv : z = val (x :: t) := by cases n <;> simp [sgn] at hz <;> omega
  have hx0 : 0 ≤ x := hx.1
  have hx1 : x < 4294967296 := hx.2
  rw [and_one x hx0 hx1, hzv, hv]
  omega
def resB (a m : Int) : Bool := decide (0 ≤ a ∧ a < m)
def curveB (A B M : Int) : Bool := decide (3 < M ∧ M % 2 = 1) && (resB A M && resB B M)
def ptB (A B M x y : Int) (i : Bool) : Bool := if i then decide (x = 0 ∧ y = 0) else resB x M && (resB y M && decide ((y * y - (((x * x) + A) * x + B)) % M = 0))
def onB (A B M x y : Int) (i : Bool) : Bool := curveB A B M && ptB A B M x y i
theorem curve_of {A B M : Int} (h : curveB A B M = true) : 0 < M ∧ (3 < M ∧ M % 2 = 1) ∧ (0 ≤ A ∧ A < M) ∧ 0 ≤ B ∧ B < M := by
 simp only [curveB, resB, Bool.and_eq_true, decide_eq_true_eq] at h
 exact ⟨by omega, h.1, h.2.1, h.2.2⟩
set_option maxRecDepth 100000 in
set_option maxHeartbeats 4000000 in
theorem exIsZero {w : World} {v : Value} {a : Int} {t : Bool} (h : Num w v a) (ht : decide (a = 0) = t) :
  Calls Try.prog 59 #[v] w fun e w' => ∃ v', e = .returned v' ∧ Below w.heap.size w w' ∧ v' = .bool t := by
 obtain ⟨n0, ao0, k0, c0, rfl⟩ := h.parts
 obtain ⟨w1, b1, hw1, hb1, hs1, E⟩ := fr_start w (F := Fq.num a) (us := [.bool n0, .slice ao0 k0 c0]) 29 rfl (by simp) (tame_int _ _ _ _) h
 go_enter Try.func59, Try.ntmps59
 go_upto_region 1 with (fail)
 rw [← hw1]
 rw [← hb1]
 clear hw1 hb1 hs1
 by_cases h0 : a = 0
 ·have T1 : Hid (cmpI a 0 = 0) := cmpIq0.2 h0
  have ht2 : t = true := ht.symm.trans (decide_eq_true h0)
  subst ht2
  clear ht
  clear h0
  refine region_fr (C := [Fq.num a, Fq.is (.bool true), Fq.is (.bool true), Fq.num a, Fq.is (.int .i64 (cmpI a 0)), Fq.is (.bool true), Fq.is (.bool true), Fq.is (.bool true)]) (ks := [none]) (new := []) E rfl (by kernel_rfl) rfl rfl (fun hp => ⟨?_, ?_, ?_, ?_, ?_, ?_, ?_, ?_, trivial⟩) ?_
  ·exact q_loadInt (off := 0) hp (free_of rfl) trivial (mq 0 rfl) (.inl rfl) (Nat.le_of_ble_eq_true rfl) (sqo 1) (fun us w hl h => ld_num hl h)
  ·exact q_call1 (F := (Fq.num a).P) hp (free_of rfl) trivial (enq_Valid) (sqi 0) (fun v w h => exValidV h)
  ·exact q_move hp (free_of rfl) trivial (sqi 1)
  ·exact q_loadInt (off := 0) hp (free_of rfl) gqi (mq 0 rfl) (.inl rfl) (Nat.le_of_ble_eq_true rfl) (sqo 1) (fun us w hl h => ld_num hl h)
  ·exact q_call1 (F := (Fq.num a).P) hp (free_of rfl) gqi (enq_Sign) (sqi 3) (fun v w h => exSign h)
  ·exact q_one (F := fun v _ => v = .int .i64 (cmpI a 0)) hp (free_of rfl) gqi (sqi 4) (fun ρ w hc h => ⟨.bool true, by simp [execOp, go_sem, h, hc, T1.out], rfl⟩)
  ·exact q_two (F := fun v _ => v = .bool true) (G := fun v _ => v = .bool true) hp (free_of rfl) trivial (sqi 2) (sqi 5) (fun ρ w hc h h' => ⟨_, by simp [execOp, go_sem, h, h'], rfl⟩)
  ·exact q_assign hp (free_of rfl) trivial (sqi 6)
  intro L vs w2 nb hL hC hn E2
  have e1 : vs 1 = .bool true := hC 1 (by simp)
  have e2 : vs 2 = .bool true := hC 2 (by simp)
  have e4 : vs 4 = .int .i64 (cmpI a 0) := hC 4 (by simp)
  have e5 : vs 5 = .bool true := hC 5 (by simp)
  have e6 : vs 6 = .bool true := hC 6 (by simp)
  have e7 : vs 7 = .bool true := hC 7 (by simp)
  have E : Fr w [(b1, 2, Fq.num a)] w2 := E2
  rw [lay_all hL]
  simp only [putAll, dstOf, List.length_cons, List.length_nil, Nat.zero_add, Nat.reduceAdd, List.getElem?_toArray, List.getElem?_cons_zero, List.getElem?_cons_succ, Option.bind_some, Act.put, List.setIfInBounds_toArray, List.set_cons_succ, List.set_cons_zero]
  rw [e1, e2, e4, e5, e6, e7]
  generalize vs 0 = u2_0
  generalize vs 3 = u2_3
  clear e1 e2 e4 e5 e6 e7 hC hn E2 hL vs L nb
  clear T1
  go_wp2
  refine bodyPost_ret (v := .bool true) ?_ rfl ⟨_, rfl, E.below, rfl⟩
  simp [results, Try.results59, go_sem]
 ·have T1 : Hid (¬ cmpI a 0 = 0) := fun e => h0 (cmpIq0.1 e)
  have ht2 : t = false := ht.symm.trans (decide_eq_false h0)
  subst ht2
  clear ht
  clear h0
  refine region_fr (C := [Fq.num a, Fq.is (.bool true), Fq.is (.bool true), Fq.num a, Fq.is (.int .i64 (cmpI a 0)), Fq.is (.bool false), Fq.is (.bool false), Fq.is (.bool false)]) (ks := [none]) (new := []) E rfl (by kernel_rfl) rfl rfl (fun hp => ⟨?_, ?_, ?_, ?_, ?_, ?_, ?_, ?_, trivial⟩) ?_
  ·exact q_loadInt (off := 0) hp (free_of rfl) trivial (mq 0 rfl) (.inl rfl) (Nat.le_of_ble_eq_true rfl) (sqo 1) (fun us w hl h => ld_num hl h)
  ·exact q_call1 (F := (Fq.num a).P) hp (free_of rfl) trivial (enq_Valid) (sqi 0) (fun v w h => exValidV h)
  ·exact q_move hp (free_of rfl) trivial (sqi 1)
  ·exact q_loadInt (off := 0) hp (free_of rfl) gqi (mq 0 rfl) (.inl rfl) (Nat.le_of_ble_eq_true rfl) (sqo 1) (fun us w hl h => ld_num hl h)
  ·exact q_call1 (F := (Fq.num a).P) hp (free_of rfl) gqi (enq_Sign) (sqi 3) (fun v w h => exSign h)
  ·exact q_one (F := fun v _ => v = .int .i64 (cmpI a 0)) hp (free_of rfl) gqi (sqi 4) (fun ρ w hc h => ⟨.bool false, by simp [execOp, go_sem, h, hc, T1.out], rfl⟩)
  ·exact q_two (F := fun v _ => v = .bool true) (G := fun v _ => v = .bool false) hp (free_of rfl) trivial (sqi 2) (sqi 5) (fun ρ w hc h h' => ⟨_, by simp [execOp, go_sem, h, h'], rfl⟩)
  ·exact q_assign hp (free_of rfl) trivial (sqi 6)
  intro L vs w3 nb hL hC hn E3
  have e1 : vs 1 = .bool true := hC 1 (by simp)
  have e2 : vs 2 = .bool true := hC 2 (by simp)
  have e4 : vs 4 = .int .i64 (cmpI a 0) := hC 4 (by simp)
  have e5 : vs 5 = .bool false := hC 5 (by simp)
  have e6 : vs 6 = .bool false := hC 6 (by simp)
  have e7 : vs 7 = .bool false := hC 7 (by simp)
  have E : Fr w [(b1, 2, Fq.num a)] w3 := E3
  rw [lay_all hL]
  simp only [putAll, dstOf, List.length_cons, List.length_nil, Nat.zero_add, Nat.reduceAdd, List.getElem?_toArray, List.getElem?_cons_zero, List.getElem?_cons_succ, Option.bind_some, Act.put, List.setIfInBounds_toArray, List.set_cons_succ, List.set_cons_zero]
  rw [e1, e2, e4, e5, e6, e7]
  generalize vs 0 = u3_0
  generalize vs 3 = u3_3
  clear e1 e2 e4 e5 e6 e7 hC hn E3 hL vs L nb
  clear T1
  go_wp2
  refine bodyPost_ret (v := .bool false) ?_ rfl ⟨_, rfl, E.below, rfl⟩
  simp [results, Try.results59, go_sem]

set_option maxRecDepth 100000 in
set_option maxHeartbeats 4000000 in
theorem exIsRes {w : World} {v v' : Value} {a m : Int} (h : Num w v a) (h' : Num w v' m) {t : Bool} (ht : resB a m = t) :
  Calls Try.prog 58 #[v, v'] w fun e w' => ∃ v', e = .returned v' ∧ Below w.heap.size w w' ∧ v' = .bool t := by
 obtain ⟨n0, ao0, k0, c0, rfl⟩ := h.parts
 obtain ⟨n1, ao1, k1, c1, rfl⟩ := h'.parts
 obtain ⟨w1, b1, hw1, hb1, hs1, E⟩ := fr_start w (F := Fq.num a) (us := [.bool n0, .slice ao0 k0 c0]) 29 rfl (by simp) (tame_int _ _ _ _) h
 obtain ⟨w2, b2, hw2, hb2, hs2, E⟩ := fr_more E hs1 (F := Fq.num m) (us := [.bool n1, .slice ao1 k1 c1]) 29 rfl (by simp) (tame_int _ _ _ _) (h'.mono E.below)
 go_enter Try.func58, Try.ntmps58
 go_upto_region 1 with (fail)
 rw [← hw1]
 rw [← hw2]
 rw [← hb2]
 rw [← hb1]
 clear hw1 hw2 hb1 hb2 hs2 hs1
 by_cases h0 : 0 ≤ a
 ·have T1 : Hid (0 ≤ cmpI a 0) := by have := mt cmpIqlt.1 (show ¬ a < 0 by omega); show _ ≤ _; omega
  by_cases h1 : a < m
  ·have T2 : Hid (cmpI a m < 0) := cmpIqlt.2 h1
   have ht2 : t = true := ht.symm.trans (decide_eq_true ⟨h0, h1⟩)
   subst ht2
   clear ht
   clear h0 h1
   refine region_fr (C := [Fq.num a, Fq.is (.bool true), Fq.is (.bool true), Fq.num a, Fq.is (.int .i64 (cmpI a 0)), Fq.is (.bool true), Fq.is (.bool true), Fq.is (.bool true), Fq.num a, Fq.num m, Fq.is (.int .i64 (cmpI a m)), Fq.is (.bool true), Fq.is (.bool true), Fq.is (.bool true)]) (ks := [none, none]) (new := []) E rfl (by kernel_rfl) rfl rfl (fun hp => ⟨?_, ?_, ?_, ?_, ?_, ?_, ?_, ?_, ?_, ?_, ?_, ?_, ?_, ?_, trivial⟩) ?_
   ·exact q_loadInt (off := 0) hp (free_of rfl) trivial (mq 1 rfl) (.inl rfl) (Nat.le_of_ble_eq_true rfl) (sqo 2) (fun us w hl h => ld_num hl h)
   ·exact q_call1 (F := (Fq.num a).P) hp (free_of rfl) trivial (enq_Valid) (sqi 0) (fun v w h => exValidV h)
   ·exact q_move hp (free_of rfl) trivial (sqi 1)
   ·exact q_loadInt (off := 0) hp (free_of rfl) gqi (mq 1 rfl) (.inl rfl) (Nat.le_of_ble_eq_true rfl) (sqo 2) (fun us w hl h => ld_num hl h)
   ·exact q_call1 (F := (Fq.num a).P) hp (free_of rfl) gqi (enq_Sign) (sqi 3) (fun v w h => exSign h)
   ·exact q_one (F := fun v _ => v = .int .i64 (cmpI a 0)) hp (free_of rfl) gqi (sqi 4) (fun ρ w hc h => ⟨.bool true, by simp [execOp, go_sem, h, hc, T1.out], rfl⟩)
   ·exact q_two (F := fun v _ => v = .bool true) (G := fun v _ => v = .bool true) hp (free_of rfl) trivial (sqi 2) (sqi 5) (fun ρ w hc h h' => ⟨_, by simp [execOp, go_sem, h, h'], rfl⟩)
   ·exact q_move hp (free_of rfl) trivial (sqi 6)
   ·exact q_loadInt (off := 0) hp (free_of rfl) gqi (mq 1 rfl) (.inl rfl) (Nat.le_of_ble_eq_true rfl) (sqo 2) (fun us w hl h => ld_num hl h)
   ·exact q_loadInt (off := 0) hp (free_of rfl) gqi (mq 0 rfl) (.inl rfl) (Nat.le_of_ble_eq_true rfl) (sqo 3) (fun us w hl h => ld_num hl h)
   ·exact q_call2 (F := (Fq.num a).P) (G := (Fq.num m).P) hp (free_of rfl) gqi (enq_Cmp) (sqi 8) (sqi 9) (fun v v' w h h' => exCmp h h')
   ·exact q_one (F := fun v _ => v = .int .i64 (cmpI a m)) hp (free_of rfl) gqi (sqi 10) (fun ρ w hc h => ⟨.bool true, by simp [execOp, go_sem, h, hc, T2.out], rfl⟩)
   ·exact q_two (F := fun v _ => v = .bool true) (G := fun v _ => v = .bool true) hp (free_of rfl) trivial (sqi 7) (sqi 11) (fun ρ w hc h h' => ⟨_, by simp [execOp, go_sem, h, h'], rfl⟩)
   ·exact q_assign hp (free_of rfl) trivial (sqi 12)
   intro L vs w3 nb hL hC hn E3
   have e1 : vs 1 = .bool true := hC 1 (by simp)
   have e2 : vs 2 = .bool true := hC 2 (by simp)
   have e4 : vs 4 = .int .i64 (cmpI a 0) := hC 4 (by simp)
   have e5 : vs 5 = .bool true := hC 5 (by simp)
   have e6 : vs 6 = .bool true := hC 6 (by simp)
   have e7 : vs 7 = .bool true := hC 7 (by simp)
   have e10 : vs 10 = .int .i64 (cmpI a m) := hC 10 (by simp)
   have e11 : vs 11 = .bool true := hC 11 (by simp)
   have e12 : vs 12 = .bool true := hC 12 (by simp)
   have e13 : vs 13 = .bool true := hC 13 (by simp)
   have E : Fr w [(b2, 2, Fq.num m), (b1, 2, Fq.num a)] w3 := E3
   rw [lay_all hL]
   simp only [putAll, dstOf, List.length_cons, List.length_nil, Nat.zero_add, Nat.reduceAdd, List.getElem?_toArray, List.getElem?_cons_zero, List.getElem?_cons_succ, Option.bind_some, Act.put, List.setIfInBounds_toArray, List.set_cons_succ, List.set_cons_zero]
   rw [e1, e2, e4, e5, e6, e7, e10, e11, e12, e13]
   generalize vs 0 = u3_0
   generalize vs 3 = u3_3
   generalize vs 8 = u3_8
   generalize vs 9 = u3_9
   clear e1 e2 e4 e5 e6 e7 e10 e11 e12 e13 hC hn E3 hL vs L nb
   clear T1 T2
   go_wp2
   refine bodyPost_ret (v := .bool true) ?_ rfl ⟨_, rfl, E.below, rfl⟩
   simp [results, Try.results58, go_sem]
  ·have T2 : Hid (¬ cmpI a m < 0) := fun e => h1 (cmpIqlt.1 e)
   have ht2 : t = false := ht.symm.trans (decide_eq_false fun e => h1 e.2)
   subst ht2
   clear ht
   clear h0 h1
   refine region_fr (C := [Fq.num a, Fq.is (.bool true), Fq.is (.bool true), Fq.num a, Fq.is (.int .i64 (cmpI a 0)), Fq.is (.bool true), Fq.is (.bool true), Fq.is (.bool true), Fq.num a, Fq.num m, Fq.is (.int .i64 (cmpI a m)), Fq.is (.bool false), Fq.is (.bool false), Fq.is (.bool false)]) (ks := [none, none]) (new := []) E rfl (by kernel_rfl) rfl rfl (fun hp => ⟨?_, ?_, ?_, ?_, ?_, ?_, ?_, ?_, ?_, ?_, ?_, ?_, ?_, ?_, trivial⟩) ?_
   ·exact q_loadInt (off := 0) hp (free_of rfl) trivial (mq 1 rfl) (.inl rfl) (Nat.le_of_ble_eq_true rfl) (sqo 2) (fun us w hl h => ld_num hl h)
   ·exact q_call1 (F := (Fq.num a).P) hp (free_of rfl) trivial (enq_Valid) (sqi 0) (fun v w h => exValidV h)
   ·exact q_move hp (free_of rfl) trivial (sqi 1)
   ·exact q_loadInt (off := 0) hp (free_of rfl) gqi (mq 1 rfl) (.inl rfl) (Nat.le_of_ble_eq_true rfl) (sqo 2) (fun us w hl h => ld_num hl h)
   ·exact q_call1 (F := (Fq.num a).P) hp (free_of rfl) gqi (enq_Sign) (sqi 3) (fun v w h => exSign h)
   ·exact q_one (F := fun v _ => v = .int .i64 (cmpI a 0)) hp (free_of rfl) gqi (sqi 4) (fun ρ w hc h => ⟨.bool true, by simp [execOp, go_sem, h, hc, T1.out], rfl⟩)
   ·exact q_two (F := fun v _ => v = .bool true) (G := fun v _ => v = .bool true) hp (free_of rfl) trivial (sqi 2) (sqi 5) (fun ρ w hc h h' => ⟨_, by simp [execOp, go_sem, h, h'], rfl⟩)
   ·exact q_move hp (free_of rfl) trivial (sqi 6)
   ·exact q_loadInt (off := 0) hp (free_of rfl) gqi (mq 1 rfl) (.inl rfl) (Nat.le_of_ble_eq_true rfl) (sqo 2) (fun us w hl h => ld_num hl h)
   ·exact q_loadInt (off := 0) hp (free_of rfl) gqi (mq 0 rfl) (.inl rfl) (Nat.le_of_ble_eq_true rfl) (sqo 3) (fun us w hl h => ld_num hl h)
   ·exact q_call2 (F := (Fq.num a).P) (G := (Fq.num m).P) hp (free_of rfl) gqi (enq_Cmp) (sqi 8) (sqi 9) (fun v v' w h h' => exCmp h h')
   ·exact q_one (F := fun v _ => v = .int .i64 (cmpI a m)) hp (free_of rfl) gqi (sqi 10) (fun ρ w hc h => ⟨.bool false, by simp [execOp, go_sem, h, hc, T2.out], rfl⟩)
   ·exact q_two (F := fun v _ => v = .bool true) (G := fun v _ => v = .bool false) hp (free_of rfl) trivial (sqi 7) (sqi 11) (fun ρ w hc h h' => ⟨_, by simp [execOp, go_sem, h, h'], rfl⟩)
   ·exact q_assign hp (free_of rfl) trivial (sqi 12)
   intro L vs w4 nb hL hC hn E4
   have e1 : vs 1 = .bool true := hC 1 (by simp)
   have e2 : vs 2 = .bool true := hC 2 (by simp)
   have e4 : vs 4 = .int .i64 (cmpI a 0) := hC 4 (by simp)
   have e5 : vs 5 = .bool true := hC 5 (by simp)
   have e6 : vs 6 = .bool true := hC 6 (by simp)
   have e7 : vs 7 = .bool true := hC 7 (by simp)
   have e10 : vs 10 = .int .i64 (cmpI a m) := hC 10 (by simp)
   have e11 : vs 11 = .bool false := hC 11 (by simp)
   have e12 : vs 12 = .bool false := hC 12 (by simp)
   have e13 : vs 13 = .bool false := hC 13 (by simp)
   have E : Fr w [(b2, 2, Fq.num m), (b1, 2, Fq.num a)] w4 := E4
   rw [lay_all hL]
   simp only [putAll, dstOf, List.length_cons, List.length_nil, Nat.zero_add, Nat.reduceAdd, List.getElem?_toArray, List.getElem?_cons_zero, List.getElem?_cons_succ, Option.bind_some, Act.put, List.setIfInBounds_toArray, List.set_cons_succ, List.set_cons_zero]
   rw [e1, e2, e4, e5, e6, e7, e10, e11, e12, e13]
   generalize vs 0 = u4_0
   generalize vs 3 = u4_3
   generalize vs 8 = u4_8
   generalize vs 9 = u4_9
   clear e1 e2 e4 e5 e6 e7 e10 e11 e12 e13 hC hn E4 hL vs L nb
   clear T1 T2
   go_wp2
   refine bodyPost_ret (v := .bool false) ?_ rfl ⟨_, rfl, E.below, rfl⟩
   simp [results, Try.results58, go_sem]
 ·have T1 : Hid (¬ 0 ≤ cmpI a 0) := by have := cmpIqlt.2 (show a < 0 by omega); show ¬ _; omega
  have ht2 : t = false := ht.symm.trans (decide_eq_false fun e => h0 e.1)
  subst ht2
  clear ht
  clear h0
  refine region_fr (C := [Fq.num a, Fq.is (.bool true), Fq.is (.bool true), Fq.num a, Fq.is (.int .i64 (cmpI a 0)), Fq.is (.bool false), Fq.is (.bool false), Fq.is (.bool false), Fq.is (undef), Fq.is (undef), Fq.is (undef), Fq.is (undef), Fq.is (.bool false), Fq.is (.bool false)]) (ks := [none, none]) (new := []) E rfl (by kernel_rfl) rfl rfl (fun hp => ⟨?_, ?_, ?_, ?_, ?_, ?_, ?_, ?_, ?_, ?_, ?_, ?_, ?_, ?_, trivial⟩) ?_
  ·exact q_loadInt (off := 0) hp (free_of rfl) trivial (mq 1 rfl) (.inl rfl) (Nat.le_of_ble_eq_true rfl) (sqo 2) (fun us w hl h => ld_num hl h)
  ·exact q_call1 (F := (Fq.num a).P) hp (free_of rfl) trivial (enq_Valid) (sqi 0) (fun v w h => exValidV h)
  ·exact q_move hp (free_of rfl) trivial (sqi 1)
  ·exact q_loadInt (off := 0) hp (free_of rfl) gqi (mq 1 rfl) (.inl rfl) (Nat.le_of_ble_eq_true rfl) (sqo 2) (fun us w hl h => ld_num hl h)
  ·exact q_call1 (F := (Fq.num a).P) hp (free_of rfl) gqi (enq_Sign) (sqi 3) (fun v w h => exSign h)
  ·exact q_one (F := fun v _ => v = .int .i64 (cmpI a 0)) hp (free_of rfl) gqi (sqi 4) (fun ρ w hc h => ⟨.bool false, by simp [execOp, go_sem, h, hc, T1.out], rfl⟩)
  ·exact q_two (F := fun v _ => v = .bool true) (G := fun v _ => v = .bool false) hp (free_of rfl) trivial (sqi 2) (sqi 5) (fun ρ w hc h h' => ⟨_, by simp [execOp, go_sem, h, h'], rfl⟩)
  ·exact q_move hp (free_of rfl) trivial (sqi 6)
  ·exact q_skip hp (free_of rfl) rfl gqi (fun _ => rfl)
  ·exact q_skip hp (free_of rfl) rfl gqi (fun _ => rfl)
  ·exact q_skip hp (free_of rfl) rfl gqi (fun _ => rfl)
  ·exact q_skip hp (free_of rfl) rfl gqi (fun _ => rfl)
  ·exact q_two (F := fun v _ => v = .bool false) (G := fun v _ => v = .bool false) hp (free_of rfl) trivial (sqi 7) (sq_const (fun _ => rfl)) (fun ρ w hc h h' => ⟨_, by simp [execOp, go_sem, h, h'], rfl⟩)
  ·exact q_assign hp (free_of rfl) trivial (sqi 12)
  intro L vs w5 nb hL hC hn E5
  have e1 : vs 1 = .bool true := hC 1 (by simp)
  have e2 : vs 2 = .bool true := hC 2 (by simp)
  have e4 : vs 4 = .int .i64 (cmpI a 0) := hC 4 (by simp)
  have e5 : vs 5 = .bool false := hC 5 (by simp)
  have e6 : vs 6 = .bool false := hC 6 (by simp)
  have e7 : vs 7 = .bool false := hC 7 (by simp)
  have e8 : vs 8 = undef := hC 8 (by simp)
  have e9 : vs 9 = undef := hC 9 (by simp)
  have e10 : vs 10 = undef := hC 10 (by simp)
  have e11 : vs 11 = undef := hC 11 (by simp)
  have e12 : vs 12 = .bool false := hC 12 (by simp)
  have e13 : vs 13 = .bool false := hC 13 (by simp)
  have E : Fr w [(b2, 2, Fq.num m), (b1, 2, Fq.num a)] w5 := E5
  rw [lay_all hL]
  simp only [putAll, dstOf, List.length_cons, List.length_nil, Nat.zero_add, Nat.reduceAdd, List.getElem?_toArray, List.getElem?_cons_zero, List.getElem?_cons_succ, Option.bind_some, Act.put, List.setIfInBounds_toArray, List.set_cons_succ, List.set_cons_zero]
  rw [e1, e2, e4, e5, e6, e7, e8, e9, e10, e11, e12, e13]
  generalize vs 0 = u5_0
  generalize vs 3 = u5_3
  clear e1 e2 e4 e5 e6 e7 e8 e9 e10 e11 e12 e13 hC hn E5 hL vs L nb
  clear T1
  go_wp2
  refine bodyPost_ret (v := .bool false) ?_ rfl ⟨_, rfl, E.below, rfl⟩
  simp [results, Try.results58, go_sem]

set_option maxRecDepth 100000 in
set_option maxHeartbeats 4000000 in
theorem exIsCurve {w : World} {v : Value} {A B M : Int} (h : (Fq.st [.n A, .n B, .n M]).P v w) (hM : ab M < pw 40) {t : Bool} (ht : curveB A B M = t) :
  Calls Try.prog 35 #[v] w fun e w' => ∃ v', e = .returned v' ∧ Below w.heap.size w w' ∧ v' = .bool t := by
 replace hM := hidd hM
 obtain ⟨n, ao, k, c, xs, hop, h⟩ := st_open (z := M) [.n A, .n B] [] h
 by_cases h3 : 3 < M
 ·by_cases h2 : M % 2 = 0
  ·have ht2 : t = false := ht.symm.trans (by unfold curveB; rw [show decide (3 < M ∧ M % 2 = 1) = false from decide_eq_false fun e => by omega]; rfl)
   subst ht2
   clear ht
   have T1 : Hid (¬ cmpI M 3 ≤ 0) := by have := cmpIqgt.2 h3; show ¬ _; omega
   obtain ⟨hj, x0, hy, hm⟩ := first_par hop (by omega)
   obtain ⟨ad, off, rfl⟩ := st_addr (off := 4) h rfl hj
   have HJ := hidd hj
   have HY := hidd hy
   have WM := hidd (hm.trans h2)
   clear hop hj hy hm h3 h2
   obtain ⟨_, rfl, hf0⟩ := h
   have hF0 := hf0
   obtain ⟨y0_p0, y0_q0, _, rfl, _y0_n0, y0_p1, y0_q1, _, rfl, _y0_n1, _, rfl, _, rfl⟩ := hf0
   obtain ⟨w1, b1, hw1, hb1, hs1, E⟩ := fr_start w (F := Fq.st [.n A, .n B, .r n (some ⟨ad, off, none⟩) k c xs M]) (us := [y0_p0, y0_q0, y0_p1, y0_q1, .bool n, .slice (some ⟨ad, off, none⟩) k c]) 31 rfl (by simp) (hF0.tame) (show (Fq.st [.n A, .n B, .r n (some ⟨ad, off, none⟩) k c xs M]).P _ w from ⟨_, rfl, hF0⟩)
   go_enter Try.func35, Try.ntmps35
   go_upto_region 1 with (fail)
   rw [← hw1]
   rw [← hb1]
   clear hw1 hb1 hs1
   have B2 : Hid (ab ((3)) < pw 3) := ab_lit (by decide)
   refine region_fr (C := [Fq.is (.pointer (some ⟨b1, 4, none⟩)), Fq.num M, Fq.is (.bool true), Fq.is (.bool false), Fq.is (.bool false), Fq.is (.pointer (some ⟨b1, 4, none⟩)), Fq.num M, Fq.num (3), Fq.is (.int .i64 (cmpI M (3))), Fq.is (.bool false), Fq.is (.bool false), Fq.is (.bool false), Fq.is (.pointer (some ⟨b1, 4, none⟩)), Fq.is (.pointer (some ⟨b1, 5, none⟩)), Fq.is (.slice (some ⟨ad, off, none⟩) k c), Fq.is (.pointer (some ⟨ad, off, none⟩)), Fq.is (.int .u32 x0), Fq.is (.int .u32 (0)), Fq.is (.bool true), Fq.is (.bool true)]) (ks := [none]) (new := []) E rfl (by kernel_rfl) rfl rfl (fun hp => ⟨?_, ?_, ?_, ?_, ?_, ?_, ?_, ?_, ?_, ?_, ?_, ?_, ?_, ?_, ?_, ?_, ?_, ?_, ?_, ?_, trivial⟩) ?_
   ·exact q_addr (b := b1) (off := 0) (off' := 4) hp (free_of rfl) trivial (sqo 1) (fun ρ w h => by simp [execOp, go_sem, h]) (fun _ => rfl)
   ·exact q_loadSt (off := 4) (l := 2) (fs := [.n A, .n B, .r n (some ⟨ad, off, none⟩) k c xs M]) (gs := [.r n (some ⟨ad, off, none⟩) k c xs M]) hp (free_of rfl) trivial (mq 0 rfl) (.inl rfl) rfl row_api_Int rfl (sqi 0) (fun v w h => st_numR h)
   ·exact q_call1 (F := (Fq.num M).P) hp (free_of rfl) trivial (enq_Valid) (sqi 1) (fun v w h => exValidV h)
   ·exact q_one (F := fun v _ => v = .bool true) hp (free_of rfl) trivial (sqi 2) (fun ρ w _ h => ⟨.bool false, by simp [execOp, go_sem, h], rfl⟩)
   ·exact q_move hp (free_of rfl) trivial (sqi 3)
   ·exact q_addr (b := b1) (off := 0) (off' := 4) hp (free_of rfl) gqi (sqo 1) (fun ρ w h => by simp [execOp, go_sem, h]) (fun _ => rfl)
   ·exact q_loadSt (off := 4) (l := 2) (fs := [.n A, .n B, .r n (some ⟨ad, off, none⟩) k c xs M]) (gs := [.r n (some ⟨ad, off, none⟩) k c xs M]) hp (free_of rfl) gqi (mq 0 rfl) (.inl rfl) rfl row_api_Int rfl (sqi 5) (fun v w h => st_numR h)
   ·exact q_call1 (F := (Fq.is (.int .i64 3)).P) hp (free_of rfl) gqi (enq_Of) (sq_const (fun _ => rfl)) (fun v w h => (by subst h; exact OfK w (3) (by omega) (by omega)))
   ·exact q_call2 (F := (Fq.num M).P) (G := (Fq.num (3)).P) hp (free_of rfl) gqi (enq_Cmp) (sqi 6) (sqi 7) (fun v v' w h h' => exCmp h h')
   ·exact q_one (F := fun v _ => v = .int .i64 (cmpI M (3))) hp (free_of rfl) gqi (sqi 8) (fun ρ w hc h => ⟨.bool false, by simp [execOp, go_sem, h, hc, T1.out], rfl⟩)
   ·exact q_two (F := fun v _ => v = .bool false) (G := fun v _ => v = .bool false) hp (free_of rfl) trivial (sqi 4) (sqi 9) (fun ρ w hc h h' => ⟨_, by simp [execOp, go_sem, h, h'], rfl⟩)
   ·exact q_move hp (free_of rfl) trivial (sqi 10)
   ·exact q_addr (b := b1) (off := 0) (off' := 4) hp (free_of rfl) gqi (sqo 1) (fun ρ w h => by simp [execOp, go_sem, h]) (fun _ => rfl)
   ·exact q_addr (b := b1) (off := 4) (off' := 5) hp (free_of rfl) gqi (sqi 12) (fun ρ w h => by simp [execOp, go_sem, h]) (fun _ => rfl)
   ·exact q_loadMagS (off := 5) (v := .slice (some ⟨ad, off, none⟩) k c) hp (free_of rfl) gqi (mq 0 rfl) (.inl rfl) (Nat.le_of_ble_eq_true rfl) (sqi 13) (fun us w hl h => ⟨(fits_mag (off := 4) h rfl).1, rfl⟩)
   ·exact q_one (F := fun v _ => v = .slice (some ⟨ad, off, none⟩) k c) hp (free_of rfl) gqi (sqi 14) (fun ρ w hc h => ⟨.pointer (some ⟨ad, off, none⟩), by simp [execOp, go_sem, h, hc, HJ.out], rfl⟩)
   ·exact q_loadWordS (bx := b1) (x0 := x0) hp (free_of rfl) gqi (mq 0 rfl) (.inl rfl) (sqi 15) (fun us w hl h => fits_word0 (off := 4) rfl HJ.out HY.out h) (fun _ => rfl)
   ·exact q_one (F := fun v _ => v = .int .u32 x0) hp (free_of rfl) gqi (sqi 16) (fun ρ w hc h => ⟨.int .u32 (0), by simp [execOp, go_sem, h, hc, WM.out], rfl⟩)
   ·exact q_one (F := fun v _ => v = .int .u32 (0)) hp (free_of rfl) gqi (sqi 17) (fun ρ w hc h => ⟨.bool true, by simp [execOp, go_sem, h, hc], rfl⟩)
   ·exact q_two (F := fun v _ => v = .bool false) (G := fun v _ => v = .bool true) hp (free_of rfl) trivial (sqi 11) (sqi 18) (fun ρ w hc h h' => ⟨_, by simp [execOp, go_sem, h, h'], rfl⟩)
   intro L vs w3 nb hL hC hn E3
   have e0 : vs 0 = .pointer (some ⟨b1, 4, none⟩) := hC 0 (by simp)
   have e2 : vs 2 = .bool true := hC 2 (by simp)
   have e3 : vs 3 = .bool false := hC 3 (by simp)
   have e4 : vs 4 = .bool false := hC 4 (by simp)
   have e5 : vs 5 = .pointer (some ⟨b1, 4, none⟩) := hC 5 (by simp)
   have e8 : vs 8 = .int .i64 (cmpI M (3)) := hC 8 (by simp)
   have e9 : vs 9 = .bool false := hC 9 (by simp)
   have e10 : vs 10 = .bool false := hC 10 (by simp)
   have e11 : vs 11 = .bool false := hC 11 (by simp)
   have e12 : vs 12 = .pointer (some ⟨b1, 4, none⟩) := hC 12 (by simp)
   have e13 : vs 13 = .pointer (some ⟨b1, 5, none⟩) := hC 13 (by simp)
   have e14 : vs 14 = .slice (some ⟨ad, off, none⟩) k c := hC 14 (by simp)
   have e15 : vs 15 = .pointer (some ⟨ad, off, none⟩) := hC 15 (by simp)
   have e16 : vs 16 = .int .u32 x0 := hC 16 (by simp)
   have e17 : vs 17 = .int .u32 (0) := hC 17 (by simp)
   have e18 : vs 18 = .bool true := hC 18 (by simp)
   have e19 : vs 19 = .bool true := hC 19 (by simp)
   have E : Fr w [(b1, 6, Fq.st [.n A, .n B, .r n (some ⟨ad, off, none⟩) k c xs M])] w3 := E3
   rw [lay_all hL]
   simp only [putAll, dstOf, List.length_cons, List.length_nil, Nat.zero_add, Nat.reduceAdd, List.getElem?_toArray, List.getElem?_cons_zero, List.getElem?_cons_succ, Option.bind_some, Act.put, List.setIfInBounds_toArray, List.set_cons_succ, List.set_cons_zero]
   rw [e0, e2, e3, e4, e5, e8, e9, e10, e11, e12, e13, e14, e15, e16, e17, e18, e19]
   generalize vs 1 = u3_1
   generalize vs 6 = u3_6
   generalize vs 7 = u3_7
   clear e0 e2 e3 e4 e5 e8 e9 e10 e11 e12 e13 e14 e15 e16 e17 e18 e19 hC hn E3 hL vs L nb
   clear T1 HJ HY WM
   go_upto_region 2 with (fail)
   refine region_fr (C := [Fq.is (.bool false)]) (ks := [none]) (new := []) E rfl (by kernel_rfl) rfl rfl (fun hp => ⟨?_, trivial⟩) ?_
   ·exact q_assign hp (free_of rfl) trivial (sq_const (fun _ => rfl))
   intro L vs w4 nb hL hC hn E4
   have e0 : vs 0 = .bool false := hC 0 (by simp)
   have E : Fr w [(b1, 6, Fq.st [.n A, .n B, .r n (some ⟨ad, off, none⟩) k c xs M])] w4 := E4
   rw [lay_all hL]
   simp only [putAll, dstOf, List.length_cons, List.length_nil, Nat.zero_add, List.getElem?_toArray, List.getElem?_cons_zero, Option.bind_some, Act.put, List.setIfInBounds_toArray, List.set_cons_succ, List.set_cons_zero]
   rw [e0]
   clear e0 hC hn E4 hL vs L nb
   clear B2 hM
   go_wp2
   refine bodyPost_ret (v := .bool false) ?_ rfl ⟨_, rfl, E.below, rfl⟩
   simp [results, Try.results35, go_sem]
  ·replace h2 : M % 2 = 1 := by omega
   have ht2 : t = (resB A M && resB B M) := ht.symm.trans (by unfold curveB; rw [show decide (3 < M ∧ M % 2 = 1) = true from decide_eq_true ⟨h3, h2⟩]; rfl)
   clear ht
   have T1 : Hid (¬ cmpI M 3 ≤ 0) := by have := cmpIqgt.2 h3; show ¬ _; omega
   obtain ⟨hj, x0, hy, hm⟩ := first_par hop (by omega)
   obtain ⟨ad, off, rfl⟩ := st_addr (off := 4) h rfl hj
   have HJ := hidd hj
   have HY := hidd hy
   have WM := hidd (hm.trans h2)
   clear hop hj hy hm h3 h2
   obtain ⟨_, rfl, hf0⟩ := h
   have hF0 := hf0
   obtain ⟨y0_p0, y0_q0, _, rfl, _y0_n0, y0_p1, y0_q1, _, rfl, _y0_n1, _, rfl, _, rfl⟩ := hf0
   obtain ⟨w5, b5, hw5, hb5, hs5, E⟩ := fr_start w (F := Fq.st [.n A, .n B, .r n (some ⟨ad, off, none⟩) k c xs M]) (us := [y0_p0, y0_q0, y0_p1, y0_q1, .bool n, .slice (some ⟨ad, off, none⟩) k c]) 31 rfl (by simp) (hF0.tame) (show (Fq.st [.n A, .n B, .r n (some ⟨ad, off, none⟩) k c xs M]).P _ w from ⟨_, rfl, hF0⟩)
   go_enter Try.func35, Try.ntmps35
   go_upto_region 1 with (fail)
   rw [← hw5]
   rw [← hb5]
   clear hw5 hb5 hs5
   have B6 : Hid (ab ((3)) < pw 3) := ab_lit (by decide)
   refine region_fr (C := [Fq.is (.pointer (some ⟨b5, 4, none⟩)), Fq.num M, Fq.is (.bool true), Fq.is (.bool false), Fq.is (.bool false), Fq.is (.pointer (some ⟨b5, 4, none⟩)), Fq.num M, Fq.num (3), Fq.is (.int .i64 (cmpI M (3))), Fq.is (.bool false), Fq.is (.bool false), Fq.is (.bool false), Fq.is (.pointer (some ⟨b5, 4, none⟩)), Fq.is (.pointer (some ⟨b5, 5, none⟩)), Fq.is (.slice (some ⟨ad, off, none⟩) k c), Fq.is (.pointer (some ⟨ad, off, none⟩)), Fq.is (.int .u32 x0), Fq.is (.int .u32 (1)), Fq.is (.bool false), Fq.is (.bool false)]) (ks := [none]) (new := []) E rfl (by kernel_rfl) rfl rfl (fun hp => ⟨?_, ?_, ?_, ?_, ?_, ?_, ?_, ?_, ?_, ?_, ?_, ?_, ?_, ?_, ?_, ?_, ?_, ?_, ?_, ?_, trivial⟩) ?_
   ·exact q_addr (b := b5) (off := 0) (off' := 4) hp (free_of rfl) trivial (sqo 1) (fun ρ w h => by simp [execOp, go_sem, h]) (fun _ => rfl)
   ·exact q_loadSt (off := 4) (l := 2) (fs := [.n A, .n B, .r n (some ⟨ad, off, none⟩) k c xs M]) (gs := [.r n (some ⟨ad, off, none⟩) k c xs M]) hp (free_of rfl) trivial (mq 0 rfl) (.inl rfl) rfl row_api_Int rfl (sqi 0) (fun v w h => st_numR h)
   ·exact q_call1 (F := (Fq.num M).P) hp (free_of rfl) trivial (enq_Valid) (sqi 1) (fun v w h => exValidV h)
   ·exact q_one (F := fun v _ => v = .bool true) hp (free_of rfl) trivial (sqi 2) (fun ρ w _ h => ⟨.bool false, by simp [execOp, go_sem, h], rfl⟩)
   ·exact q_move hp (free_of rfl) trivial (sqi 3)
   ·exact q_addr (b := b5) (off := 0) (off' := 4) hp (free_of rfl) gqi (sqo 1) (fun ρ w h => by simp [execOp, go_sem, h]) (fun _ => rfl)
   ·exact q_loadSt (off := 4) (l := 2) (fs := [.n A, .n B, .r n (some ⟨ad, off, none⟩) k c xs M]) (gs := [.r n (some ⟨ad, off, none⟩) k c xs M]) hp (free_of rfl) gqi (mq 0 rfl) (.inl rfl) rfl row_api_Int rfl (sqi 5) (fun v w h => st_numR h)
   ·exact q_call1 (F := (Fq.is (.int .i64 3)).P) hp (free_of rfl) gqi (enq_Of) (sq_const (fun _ => rfl)) (fun v w h => (by subst h; exact OfK w (3) (by omega) (by omega)))
   ·exact q_call2 (F := (Fq.num M).P) (G := (Fq.num (3)).P) hp (free_of rfl) gqi (enq_Cmp) (sqi 6) (sqi 7) (fun v v' w h h' => exCmp h h')
   ·exact q_one (F := fun v _ => v = .int .i64 (cmpI M (3))) hp (free_of rfl) gqi (sqi 8) (fun ρ w hc h => ⟨.bool false, by simp [execOp, go_sem, h, hc, T1.out], rfl⟩)
   ·exact q_two (F := fun v _ => v = .bool false) (G := fun v _ => v = .bool false) hp (free_of rfl) trivial (sqi 4) (sqi 9) (fun ρ w hc h h' => ⟨_, by simp [execOp, go_sem, h, h'], rfl⟩)
   ·exact q_move hp (free_of rfl) trivial (sqi 10)
   ·exact q_addr (b := b5) (off := 0) (off' := 4) hp (free_of rfl) gqi (sqo 1) (fun ρ w h => by simp [execOp, go_sem, h]) (fun _ => rfl)
   ·exact q_addr (b := b5) (off := 4) (off' := 5) hp (free_of rfl) gqi (sqi 12) (fun ρ w h => by simp [execOp, go_sem, h]) (fun _ => rfl)
   ·exact q_loadMagS (off := 5) (v := .slice (some ⟨ad, off, none⟩) k c) hp (free_of rfl) gqi (mq 0 rfl) (.inl rfl) (Nat.le_of_ble_eq_true rfl) (sqi 13) (fun us w hl h => ⟨(fits_mag (off := 4) h rfl).1, rfl⟩)
   ·exact q_one (F := fun v _ => v = .slice (some ⟨ad, off, none⟩) k c) hp (free_of rfl) gqi (sqi 14) (fun ρ w hc h => ⟨.pointer (some ⟨ad, off, none⟩), by simp [execOp, go_sem, h, hc, HJ.out], rfl⟩)
   ·exact q_loadWordS (bx := b5) (x0 := x0) hp (free_of rfl) gqi (mq 0 rfl) (.inl rfl) (sqi 15) (fun us w hl h => fits_word0 (off := 4) rfl HJ.out HY.out h) (fun _ => rfl)
   ·exact q_one (F := fun v _ => v = .int .u32 x0) hp (free_of rfl) gqi (sqi 16) (fun ρ w hc h => ⟨.int .u32 (1), by simp [execOp, go_sem, h, hc, WM.out], rfl⟩)
   ·exact q_one (F := fun v _ => v = .int .u32 (1)) hp (free_of rfl) gqi (sqi 17) (fun ρ w hc h => ⟨.bool false, by simp [execOp, go_sem, h, hc], rfl⟩)
   ·exact q_two (F := fun v _ => v = .bool false) (G := fun v _ => v = .bool false) hp (free_of rfl) trivial (sqi 11) (sqi 18) (fun ρ w hc h h' => ⟨_, by simp [execOp, go_sem, h, h'], rfl⟩)
   intro L vs w7 nb hL hC hn E7
   have e0 : vs 0 = .pointer (some ⟨b5, 4, none⟩) := hC 0 (by simp)
   have e2 : vs 2 = .bool true := hC 2 (by simp)
   have e3 : vs 3 = .bool false := hC 3 (by simp)
   have e4 : vs 4 = .bool false := hC 4 (by simp)
   have e5 : vs 5 = .pointer (some ⟨b5, 4, none⟩) := hC 5 (by simp)
   have e8 : vs 8 = .int .i64 (cmpI M (3)) := hC 8 (by simp)
   have e9 : vs 9 = .bool false := hC 9 (by simp)
   have e10 : vs 10 = .bool false := hC 10 (by simp)
   have e11 : vs 11 = .bool false := hC 11 (by simp)
   have e12 : vs 12 = .pointer (some ⟨b5, 4, none⟩) := hC 12 (by simp)
   have e13 : vs 13 = .pointer (some ⟨b5, 5, none⟩) := hC 13 (by simp)
   have e14 : vs 14 = .slice (some ⟨ad, off, none⟩) k c := hC 14 (by simp)
   have e15 : vs 15 = .pointer (some ⟨ad, off, none⟩) := hC 15 (by simp)
   have e16 : vs 16 = .int .u32 x0 := hC 16 (by simp)
   have e17 : vs 17 = .int .u32 (1) := hC 17 (by simp)
   have e18 : vs 18 = .bool false := hC 18 (by simp)
   have e19 : vs 19 = .bool false := hC 19 (by simp)
   have E : Fr w [(b5, 6, Fq.st [.n A, .n B, .r n (some ⟨ad, off, none⟩) k c xs M])] w7 := E7
   rw [lay_all hL]
   simp only [putAll, dstOf, List.length_cons, List.length_nil, Nat.zero_add, Nat.reduceAdd, List.getElem?_toArray, List.getElem?_cons_zero, List.getElem?_cons_succ, Option.bind_some, Act.put, List.setIfInBounds_toArray, List.set_cons_succ, List.set_cons_zero]
   rw [e0, e2, e3, e4, e5, e8, e9, e10, e11, e12, e13, e14, e15, e16, e17, e18, e19]
   generalize vs 1 = u7_1
   generalize vs 6 = u7_6
   generalize vs 7 = u7_7
   clear e0 e2 e3 e4 e5 e8 e9 e10 e11 e12 e13 e14 e15 e16 e17 e18 e19 hC hn E7 hL vs L nb
   clear T1 HJ HY WM
   go_upto_region 3 with (fail)
   cases ha : resB A M
   case false =>
    have HA := hidd ha
    rw [ha, Bool.false_and] at ht2
    subst ht2
    clear ha
    refine region_fr (C := [Fq.is (.pointer (some ⟨b5, 0, none⟩)), Fq.num A, Fq.is (.pointer (some ⟨b5, 4, none⟩)), Fq.num M, Fq.is (.bool false), Fq.is (.bool false), Fq.is (undef), Fq.is (undef), Fq.is (undef), Fq.is (undef), Fq.is (undef), Fq.is (.bool false), Fq.is (.bool false)]) (ks := [none]) (new := []) E rfl (by kernel_rfl) rfl rfl (fun hp => ⟨?_, ?_, ?_, ?_, ?_, ?_, ?_, ?_, ?_, ?_, ?_, ?_, ?_, trivial⟩) ?_
    ·exact q_addr (b := b5) (off := 0) (off' := 0) hp (free_of rfl) trivial (sqo 1) (fun ρ w h => by simp [execOp, go_sem, h]) (fun _ => rfl)
    ·exact q_loadSt (off := 0) (l := 2) (fs := [.n A, .n B, .r n (some ⟨ad, off, none⟩) k c xs M]) (gs := [.n A]) hp (free_of rfl) trivial (mq 0 rfl) (.inl rfl) rfl row_api_Int rfl (sqi 0) (fun v w h => st_num h)
    ·exact q_addr (b := b5) (off := 0) (off' := 4) hp (free_of rfl) trivial (sqo 1) (fun ρ w h => by simp [execOp, go_sem, h]) (fun _ => rfl)
    ·exact q_loadSt (off := 4) (l := 2) (fs := [.n A, .n B, .r n (some ⟨ad, off, none⟩) k c xs M]) (gs := [.r n (some ⟨ad, off, none⟩) k c xs M]) hp (free_of rfl) trivial (mq 0 rfl) (.inl rfl) rfl row_api_Int rfl (sqi 2) (fun v w h => st_numR h)
    ·exact q_call2 (F := (Fq.num A).P) (G := (Fq.num M).P) hp (free_of rfl) trivial (enq_f_algorist_point_isResidue) (sqi 1) (sqi 3) (fun v v' w h h' => exIsRes h h' HA.out)
    ·exact q_move hp (free_of rfl) trivial (sqi 4)
    ·exact q_skip hp (free_of rfl) rfl gqi (fun _ => rfl)
    ·exact q_skip hp (free_of rfl) rfl gqi (fun _ => rfl)
    ·exact q_skip hp (free_of rfl) rfl gqi (fun _ => rfl)
    ·exact q_skip hp (free_of rfl) rfl gqi (fun _ => rfl)
    ·exact q_skip hp (free_of rfl) rfl gqi (fun _ => rfl)
    ·exact q_two (F := fun v _ => v = .bool false) (G := fun v _ => v = .bool false) hp (free_of rfl) trivial (sqi 5) (sq_const (fun _ => rfl)) (fun ρ w hc h h' => ⟨_, by simp [execOp, go_sem, h, h'], rfl⟩)
    ·exact q_assign hp (free_of rfl) trivial (sqi 11)
    intro L vs w8 nb hL hC hn E8
    have e0 : vs 0 = .pointer (some ⟨b5, 0, none⟩) := hC 0 (by simp)
    have e2 : vs 2 = .pointer (some ⟨b5, 4, none⟩) := hC 2 (by simp)
    have e4 : vs 4 = .bool false := hC 4 (by simp)
    have e5 : vs 5 = .bool false := hC 5 (by simp)
    have e6 : vs 6 = undef := hC 6 (by simp)
    have e7 : vs 7 = undef := hC 7 (by simp)
    have e8 : vs 8 = undef := hC 8 (by simp)
    have e9 : vs 9 = undef := hC 9 (by simp)
    have e10 : vs 10 = undef := hC 10 (by simp)
    have e11 : vs 11 = .bool false := hC 11 (by simp)
    have e12 : vs 12 = .bool false := hC 12 (by simp)
    have E : Fr w [(b5, 6, Fq.st [.n A, .n B, .r n (some ⟨ad, off, none⟩) k c xs M])] w8 := E8
    rw [lay_all hL]
    simp only [putAll, dstOf, List.length_cons, List.length_nil, Nat.zero_add, Nat.reduceAdd, List.getElem?_toArray, List.getElem?_cons_zero, List.getElem?_cons_succ, Option.bind_some, Act.put, List.setIfInBounds_toArray, List.set_cons_succ, List.set_cons_zero]
    rw [e0, e2, e4, e5, e6, e7, e8, e9, e10, e11, e12]
    generalize vs 1 = u8_1
    generalize vs 3 = u8_3
    clear e0 e2 e4 e5 e6 e7 e8 e9 e10 e11 e12 hC hn E8 hL vs L nb
    clear HA
    clear B6 hM
    go_wp2
    refine bodyPost_ret (v := .bool false) ?_ rfl ⟨_, rfl, E.below, rfl⟩
    simp [results, Try.results35, go_sem]
   case true =>
    have HA := hidd ha
    rw [ha, Bool.true_and] at ht2
    subst ht2
    clear ha
    refine region_fr (C := [Fq.is (.pointer (some ⟨b5, 0, none⟩)), Fq.num A, Fq.is (.pointer (some ⟨b5, 4, none⟩)), Fq.num M, Fq.is (.bool true), Fq.is (.bool true), Fq.is (.pointer (some ⟨b5, 2, none⟩)), Fq.num B, Fq.is (.pointer (some ⟨b5, 4, none⟩)), Fq.num M, Fq.is (.bool (resB B M)), Fq.is (.bool (resB B M)), Fq.is (.bool (resB B M))]) (ks := [none]) (new := []) E rfl (by kernel_rfl) rfl rfl (fun hp => ⟨?_, ?_, ?_, ?_, ?_, ?_, ?_, ?_, ?_, ?_, ?_, ?_, ?_, trivial⟩) ?_
    ·exact q_addr (b := b5) (off := 0) (off' := 0) hp (free_of rfl) trivial (sqo 1) (fun ρ w h => by simp [execOp, go_sem, h]) (fun _ => rfl)
    ·exact q_loadSt (off := 0) (l := 2) (fs := [.n A, .n B, .r n (some ⟨ad, off, none⟩) k c xs M]) (gs := [.n A]) hp (free_of rfl) trivial (mq 0 rfl) (.inl rfl) rfl row_api_Int rfl (sqi 0) (fun v w h => st_num h)
    ·exact q_addr (b := b5) (off := 0) (off' := 4) hp (free_of rfl) trivial (sqo 1) (fun ρ w h => by simp [execOp, go_sem, h]) (fun _ => rfl)
    ·exact q_loadSt (off := 4) (l := 2) (fs := [.n A, .n B, .r n (some ⟨ad, off, none⟩) k c xs M]) (gs := [.r n (some ⟨ad, off, none⟩) k c xs M]) hp (free_of rfl) trivial (mq 0 rfl) (.inl rfl) rfl row_api_Int rfl (sqi 2) (fun v w h => st_numR h)
    ·exact q_call2 (F := (Fq.num A).P) (G := (Fq.num M).P) hp (free_of rfl) trivial (enq_f_algorist_point_isResidue) (sqi 1) (sqi 3) (fun v v' w h h' => exIsRes h h' HA.out)
    ·exact q_move hp (free_of rfl) trivial (sqi 4)
    ·exact q_addr (b := b5) (off := 0) (off' := 2) hp (free_of rfl) gqi (sqo 1) (fun ρ w h => by simp [execOp, go_sem, h]) (fun _ => rfl)
    ·exact q_loadSt (off := 2) (l := 2) (fs := [.n A, .n B, .r n (some ⟨ad, off, none⟩) k c xs M]) (gs := [.n B]) hp (free_of rfl) gqi (mq 0 rfl) (.inl rfl) rfl row_api_Int rfl (sqi 6) (fun v w h => st_num h)
    ·exact q_addr (b := b5) (off := 0) (off' := 4) hp (free_of rfl) gqi (sqo 1) (fun ρ w h => by simp [execOp, go_sem, h]) (fun _ => rfl)
    ·exact q_loadSt (off := 4) (l := 2) (fs := [.n A, .n B, .r n (some ⟨ad, off, none⟩) k c xs M]) (gs := [.r n (some ⟨ad, off, none⟩) k c xs M]) hp (free_of rfl) gqi (mq 0 rfl) (.inl rfl) rfl row_api_Int rfl (sqi 8) (fun v w h => st_numR h)
    ·exact q_call2 (F := (Fq.num B).P) (G := (Fq.num M).P) hp (free_of rfl) gqi (enq_f_algorist_point_isResidue) (sqi 7) (sqi 9) (fun v v' w h h' => exIsRes h h' rfl)
    ·exact q_two (F := fun v _ => v = .bool true) (G := fun v _ => v = .bool (resB B M)) hp (free_of rfl) trivial (sqi 5) (sqi 10) (fun ρ w hc h h' => ⟨_, by simp [execOp, go_sem, h, h'], rfl⟩)
    ·exact q_assign hp (free_of rfl) trivial (sqi 11)
    intro L vs w9 nb hL hC hn E9
    have e0 : vs 0 = .pointer (some ⟨b5, 0, none⟩) := hC 0 (by simp)
    have e2 : vs 2 = .pointer (some ⟨b5, 4, none⟩) := hC 2 (by simp)
    have e4 : vs 4 = .bool true := hC 4 (by simp)
    have e5 : vs 5 = .bool true := hC 5 (by simp)
    have e6 : vs 6 = .pointer (some ⟨b5, 2, none⟩) := hC 6 (by simp)
    have e8 : vs 8 = .pointer (some ⟨b5, 4, none⟩) := hC 8 (by simp)
    have e10 : vs 10 = .bool (resB B M) := hC 10 (by simp)
    have e11 : vs 11 = .bool (resB B M) := hC 11 (by simp)
    have e12 : vs 12 = .bool (resB B M) := hC 12 (by simp)
    have E : Fr w [(b5, 6, Fq.st [.n A, .n B, .r n (some ⟨ad, off, none⟩) k c xs M])] w9 := E9
    rw [lay_all hL]
    simp only [putAll, dstOf, List.length_cons, List.length_nil, Nat.zero_add, Nat.reduceAdd, List.getElem?_toArray, List.getElem?_cons_zero, List.getElem?_cons_succ, Option.bind_some, Act.put, List.setIfInBounds_toArray, List.set_cons_succ, List.set_cons_zero]
    rw [e0, e2, e4, e5, e6, e8, e10, e11, e12]
    generalize vs 1 = u9_1
    generalize vs 3 = u9_3
    generalize vs 7 = u9_7
    generalize vs 9 = u9_9
    clear e0 e2 e4 e5 e6 e8 e10 e11 e12 hC hn E9 hL vs L nb
    clear HA
    clear B6 hM
    go_wp2
    refine bodyPost_ret (v := .bool (resB B M)) ?_ rfl ⟨_, rfl, E.below, rfl⟩
    simp [results, Try.results35, go_sem]
 ·have T1 : Hid (cmpI M 3 ≤ 0) := by have := mt cmpIqgt.1 h3; show _ ≤ _; omega
  have ht2 : t = false := ht.symm.trans (by unfold curveB; rw [show decide (3 < M ∧ M % 2 = 1) = false from decide_eq_false fun e => by omega]; rfl)
  subst ht2
  clear ht
  clear hop h3
  obtain ⟨_, rfl, hf0⟩ := h
  have hF0 := hf0
  obtain ⟨y0_p0, y0_q0, _, rfl, _y0_n0, y0_p1, y0_q1, _, rfl, _y0_n1, _, rfl, _, rfl⟩ := hf0
  obtain ⟨w10, b10, hw10, hb10, hs10, E⟩ := fr_start w (F := Fq.st [.n A, .n B, .r n ao k c xs M]) (us := [y0_p0, y0_q0, y0_p1, y0_q1, .bool n, .slice ao k c]) 31 rfl (by simp) (hF0.tame) (show (Fq.st [.n A, .n B, .r n ao k c xs M]).P _ w from ⟨_, rfl, hF0⟩)
  go_enter Try.func35, Try.ntmps35
  go_upto_region 1 with (fail)
  rw [← hw10]
  rw [← hb10]
  clear hw10 hb10 hs10
  have B11 : Hid (ab ((3)) < pw 3) := ab_lit (by decide)
  refine region_fr (C := [Fq.is (.pointer (some ⟨b10, 4, none⟩)), Fq.num M, Fq.is (.bool true), Fq.is (.bool false), Fq.is (.bool false), Fq.is (.pointer (some ⟨b10, 4, none⟩)), Fq.num M, Fq.num (3), Fq.is (.int .i64 (cmpI M (3))), Fq.is (.bool true), Fq.is (.bool true), Fq.is (.bool true), Fq.is (undef), Fq.is (undef), Fq.is (undef), Fq.is (undef), Fq.is (undef), Fq.is (undef), Fq.is (undef), Fq.is (.bool true)]) (ks := [none]) (new := []) E rfl (by kernel_rfl) rfl rfl (fun hp => ⟨?_, ?_, ?_, ?_, ?_, ?_, ?_, ?_, ?_, ?_, ?_, ?_, ?_, ?_, ?_, ?_, ?_, ?_, ?_, ?_, trivial⟩) ?_
  ·exact q_addr (b := b10) (off := 0) (off' := 4) hp (free_of rfl) trivial (sqo 1) (fun ρ w h => by simp [execOp, go_sem, h]) (fun _ => rfl)
  ·exact q_loadSt (off := 4) (l := 2) (fs := [.n A, .n B, .r n ao k c xs M]) (gs := [.r n ao k c xs M]) hp (free_of rfl) trivial (mq 0 rfl) (.inl rfl) rfl row_api_Int rfl (sqi 0) (fun v w h => st_numR h)
  ·exact q_call1 (F := (Fq.num M).P) hp (free_of rfl) trivial (enq_Valid) (sqi 1) (fun v w h => exValidV h)
  ·exact q_one (F := fun v _ => v = .bool true) hp (free_of rfl) trivial (sqi 2) (fun ρ w _ h => ⟨.bool false, by simp [execOp, go_sem, h], rfl⟩)
  ·exact q_move hp (free_of rfl) trivial (sqi 3)
  ·exact q_addr (b := b10) (off := 0) (off' := 4) hp (free_of rfl) gqi (sqo 1) (fun ρ w h => by simp [execOp, go_sem, h]) (fun _ => rfl)
  ·exact q_loadSt (off := 4) (l := 2) (fs := [.n A, .n B, .r n ao k c xs M]) (gs := [.r n ao k c xs M]) hp (free_of rfl) gqi (mq 0 rfl) (.inl rfl) rfl row_api_Int rfl (sqi 5) (fun v w h => st_numR h)
  ·exact q_call1 (F := (Fq.is (.int .i64 3)).P) hp (free_of rfl) gqi (enq_Of) (sq_const (fun _ => rfl)) (fun v w h => (by subst h; exact OfK w (3) (by omega) (by omega)))
  ·exact q_call2 (F := (Fq.num M).P) (G := (Fq.num (3)).P) hp (free_of rfl) gqi (enq_Cmp) (sqi 6) (sqi 7) (fun v v' w h h' => exCmp h h')
  ·exact q_one (F := fun v _ => v = .int .i64 (cmpI M (3))) hp (free_of rfl) gqi (sqi 8) (fun ρ w hc h => ⟨.bool true, by simp [execOp, go_sem, h, hc, T1.out], rfl⟩)
  ·exact q_two (F := fun v _ => v = .bool false) (G := fun v _ => v = .bool true) hp (free_of rfl) trivial (sqi 4) (sqi 9) (fun ρ w hc h h' => ⟨_, by simp [execOp, go_sem, h, h'], rfl⟩)
  ·exact q_move hp (free_of rfl) trivial (sqi 10)
  ·exact q_skip hp (free_of rfl) rfl gqi (fun _ => rfl)
  ·exact q_skip hp (free_of rfl) rfl gqi (fun _ => rfl)
  ·exact q_skip hp (free_of rfl) rfl gqi (fun _ => rfl)
  ·exact q_skip hp (free_of rfl) rfl gqi (fun _ => rfl)
  ·exact q_skip hp (free_of rfl) rfl gqi (fun _ => rfl)
  ·exact q_skip hp (free_of rfl) rfl gqi (fun _ => rfl)
  ·exact q_skip hp (free_of rfl) rfl gqi (fun _ => rfl)
  ·exact q_two (F := fun v _ => v = .bool true) (G := fun v _ => v = .bool true) hp (free_of rfl) trivial (sqi 11) (sq_const (fun _ => rfl)) (fun ρ w hc h h' => ⟨_, by simp [execOp, go_sem, h, h'], rfl⟩)
  intro L vs w12 nb hL hC hn E12
  have e0 : vs 0 = .pointer (some ⟨b10, 4, none⟩) := hC 0 (by simp)
  have e2 : vs 2 = .bool true := hC 2 (by simp)
  have e3 : vs 3 = .bool false := hC 3 (by simp)
  have e4 : vs 4 = .bool false := hC 4 (by simp)
  have e5 : vs 5 = .pointer (some ⟨b10, 4, none⟩) := hC 5 (by simp)
  have e8 : vs 8 = .int .i64 (cmpI M (3)) := hC 8 (by simp)
  have e9 : vs 9 = .bool true := hC 9 (by simp)
  have e10 : vs 10 = .bool true := hC 10 (by simp)
  have e11 : vs 11 = .bool true := hC 11 (by simp)
  have e12 : vs 12 = undef := hC 12 (by simp)
  have e13 : vs 13 = undef := hC 13 (by simp)
  have e14 : vs 14 = undef := hC 14 (by simp)
  have e15 : vs 15 = undef := hC 15 (by simp)
  have e16 : vs 16 = undef := hC 16 (by simp)
  have e17 : vs 17 = undef := hC 17 (by simp)
  have e18 : vs 18 = undef := hC 18 (by simp)
  have e19 : vs 19 = .bool true := hC 19 (by simp)
  have E : Fr w [(b10, 6, Fq.st [.n A, .n B, .r n ao k c xs M])] w12 := E12
  rw [lay_all hL]
  simp only [putAll, dstOf, List.length_cons, List.length_nil, Nat.zero_add, Nat.reduceAdd, List.getElem?_toArray, List.getElem?_cons_zero, List.getElem?_cons_succ, Option.bind_some, Act.put, List.setIfInBounds_toArray, List.set_cons_succ, List.set_cons_zero]
  rw [e0, e2, e3, e4, e5, e8, e9, e10, e11, e12, e13, e14, e15, e16, e17, e18, e19]
  generalize vs 1 = u12_1
  generalize vs 6 = u12_6
  generalize vs 7 = u12_7
  clear e0 e2 e3 e4 e5 e8 e9 e10 e11 e12 e13 e14 e15 e16 e17 e18 e19 hC hn E12 hL vs L nb
  clear T1
  go_upto_region 2 with (fail)
  refine region_fr (C := [Fq.is (.bool false)]) (ks := [none]) (new := []) E rfl (by kernel_rfl) rfl rfl (fun hp => ⟨?_, trivial⟩) ?_
  ·exact q_assign hp (free_of rfl) trivial (sq_const (fun _ => rfl))
  intro L vs w13 nb hL hC hn E13
  have e0 : vs 0 = .bool false := hC 0 (by simp)
  have E : Fr w [(b10, 6, Fq.st [.n A, .n B, .r n ao k c xs M])] w13 := E13
  rw [lay_all hL]
  simp only [putAll, dstOf, List.length_cons, List.length_nil, Nat.zero_add, List.getElem?_toArray, List.getElem?_cons_zero, Option.bind_some, Act.put, List.setIfInBounds_toArray, List.set_cons_succ, List.set_cons_zero]
  rw [e0]
  clear e0 hC hn E13 hL vs L nb
  clear B11 hM
  go_wp2
  refine bodyPost_ret (v := .bool false) ?_ rfl ⟨_, rfl, E.below, rfl⟩
  simp [results, Try.results35, go_sem]

set_option maxRecDepth 100000 in
set_option maxHeartbeats 4000000 in
theorem exIsPointI {w : World} {v v' : Value} {A B M x y : Int} (h : (Fq.st [.n A, .n B, .n M]).P v w) (h' : (Fq.st [.n x, .n y, .v (.bool true)]).P v' w) (hM : ab M < pw 5) (hA : ab A < pw 5) (hB : ab B < pw 5) (hx : ab x < pw 5) (hy : ab y < pw 5) {t : Bool} (ht : decide (x = 0 ∧ y = 0) = t) :
  Calls Try.prog 36 #[v, v'] w fun e w' => ∃ v', e = .returned v' ∧ Below w.heap.size w w' ∧ v' = .bool t := by
 replace hM := hidd hM
 replace hA := hidd hA
 replace hB := hidd hB
 replace hx := hidd hx
 replace hy := hidd hy
 obtain ⟨_, rfl, hf0⟩ := h
 have hF0 := hf0
 obtain ⟨y0_p0, y0_q0, _, rfl, _y0_n0, y0_p1, y0_q1, _, rfl, _y0_n1, y0_p2, y0_q2, _, rfl, _y0_n2, rfl⟩ := hf0
 obtain ⟨_, rfl, hf1⟩ := h'
 have hF1 := hf1
 obtain ⟨y1_p0, y1_q0, _, rfl, _y1_n0, y1_p1, y1_q1, _, rfl, _y1_n1, _, rfl, _, rfl⟩ := hf1
 obtain ⟨w1, b1, hw1, hb1, hs1, E⟩ := fr_start w (F := Fq.st [.n A, .n B, .n M]) (us := [y0_p0, y0_q0, y0_p1, y0_q1, y0_p2, y0_q2]) 31 rfl (by simp) (hF0.tame) (show (Fq.st [.n A, .n B, .n M]).P _ w from ⟨_, rfl, hF0⟩)
 obtain ⟨w2, b2, hw2, hb2, hs2, E⟩ := fr_more E hs1 (F := Fq.st [.n x, .n y, .v (.bool true)]) (us := [y1_p0, y1_q0, y1_p1, y1_q1, .bool true]) 37 rfl (by simp) (hF1.tame) ((Fq.st [.n x, .n y, .v (.bool true)]).mono (show (Fq.st [.n x, .n y, .v (.bool true)]).P _ w from ⟨_, rfl, hF1⟩) E.below)
 go_enter Try.func36, Try.ntmps36
 go_upto_region 1 with (fail)
 rw [← hw1]
 rw [← hw2]
 rw [← hb2]
 rw [← hb1]
 clear hw1 hw2 hb1 hb2 hs2 hs1
 refine region_fr (C := [Fq.is (.pointer (some ⟨b2, 4, none⟩)), Fq.is (.bool true)]) (ks := [none, none]) (new := []) E rfl (by kernel_rfl) rfl rfl (fun hp => ⟨?_, ?_, trivial⟩) ?_
 ·exact q_addr (b := b2) (off := 0) (off' := 4) hp (free_of rfl) trivial (sqo 3) (fun ρ w h => by simp [execOp, go_sem, h]) (fun _ => rfl)
 ·exact q_load1 (off := 4) (fs := [.n x, .n y, .v (.bool true)]) (u := .bool true) hp (free_of rfl) trivial (mq 0 rfl) (.inl rfl) rfl rfl (fun ρ w b h1 h2 => by simp [execOp, go_sem, h1, h2]) (sqi 0) (fun _ => rfl)
 intro L vs w3 nb hL hC hn E3
 have e0 : vs 0 = .pointer (some ⟨b2, 4, none⟩) := hC 0 (by simp)
 have e1 : vs 1 = .bool true := hC 1 (by simp)
 have E : Fr w [(b2, 5, Fq.st [.n x, .n y, .v (.bool true)]), (b1, 6, Fq.st [.n A, .n B, .n M])] w3 := E3
 rw [lay_all hL]
 simp only [putAll, dstOf, List.length_cons, List.length_nil, Nat.zero_add, Nat.reduceAdd, List.getElem?_toArray, List.getElem?_cons_zero, List.getElem?_cons_succ, Option.bind_some, Act.put, List.setIfInBounds_toArray, List.set_cons_succ, List.set_cons_zero]
 rw [e0, e1]
 clear e0 e1 hC hn E3 hL vs L nb
 go_upto_region 2 with (fail)
 by_cases h0 : x = 0
 ·have ht2 : t = decide (y = 0) := ht.symm.trans (by rw [decide_eq_decide.2 (show (x = 0 ∧ y = 0) ↔ y = 0 from ⟨fun e => e.2, fun e => ⟨h0, e⟩⟩)])
  subst ht2
  clear ht
  have HX := hidd (decide_eq_true h0)
  clear h0
  refine region_fr (C := [Fq.is (.pointer (some ⟨b2, 0, none⟩)), Fq.num x, Fq.is (.bool true), Fq.is (.bool true), Fq.is (.pointer (some ⟨b2, 2, none⟩)), Fq.num y, Fq.is (.bool (decide (y = 0))), Fq.is (.bool (decide (y = 0))), Fq.is (.bool (decide (y = 0)))]) (ks := [none, none]) (new := []) E rfl (by kernel_rfl) rfl rfl (fun hp => ⟨?_, ?_, ?_, ?_, ?_, ?_, ?_, ?_, ?_, trivial⟩) ?_
  ·exact q_addr (b := b2) (off := 0) (off' := 0) hp (free_of rfl) trivial (sqo 3) (fun ρ w h => by simp [execOp, go_sem, h]) (fun _ => rfl)
  ·exact q_loadSt (off := 0) (l := 2) (fs := [.n x, .n y, .v (.bool true)]) (gs := [.n x]) hp (free_of rfl) trivial (mq 0 rfl) (.inl rfl) rfl row_api_Int rfl (sqi 0) (fun v w h => st_num h)
  ·exact q_call1 (F := (Fq.num x).P) hp (free_of rfl) trivial (enq_f_algorist_point_isZero) (sqi 1) (fun v w h => exIsZero h HX.out)
  ·exact q_move hp (free_of rfl) trivial (sqi 2)
  ·exact q_addr (b := b2) (off := 0) (off' := 2) hp (free_of rfl) gqi (sqo 3) (fun ρ w h => by simp [execOp, go_sem, h]) (fun _ => rfl)
  ·exact q_loadSt (off := 2) (l := 2) (fs := [.n x, .n y, .v (.bool true)]) (gs := [.n y]) hp (free_of rfl) gqi (mq 0 rfl) (.inl rfl) rfl row_api_Int rfl (sqi 4) (fun v w h => st_num h)
  ·exact q_call1 (F := (Fq.num y).P) hp (free_of rfl) gqi (enq_f_algorist_point_isZero) (sqi 5) (fun v w h => exIsZero h rfl)
  ·exact q_two (F := fun v _ => v = .bool true) (G := fun v _ => v = .bool (decide (y = 0))) hp (free_of rfl) trivial (sqi 3) (sqi 6) (fun ρ w hc h h' => ⟨_, by simp [execOp, go_sem, h, h'], rfl⟩)
  ·exact q_assign hp (free_of rfl) trivial (sqi 7)
  intro L vs w4 nb hL hC hn E4
  have e0 : vs 0 = .pointer (some ⟨b2, 0, none⟩) := hC 0 (by simp)
  have e2 : vs 2 = .bool true := hC 2 (by simp)
  have e3 : vs 3 = .bool true := hC 3 (by simp)
  have e4 : vs 4 = .pointer (some ⟨b2, 2, none⟩) := hC 4 (by simp)
  have e6 : vs 6 = .bool (decide (y = 0)) := hC 6 (by simp)
  have e7 : vs 7 = .bool (decide (y = 0)) := hC 7 (by simp)
  have e8 : vs 8 = .bool (decide (y = 0)) := hC 8 (by simp)
  have E : Fr w [(b2, 5, Fq.st [.n x, .n y, .v (.bool true)]), (b1, 6, Fq.st [.n A, .n B, .n M])] w4 := E4
  rw [lay_all hL]
  simp only [putAll, dstOf, List.length_cons, List.length_nil, Nat.zero_add, Nat.reduceAdd, List.getElem?_toArray, List.getElem?_cons_zero, List.getElem?_cons_succ, Option.bind_some, Act.put, List.setIfInBounds_toArray, List.set_cons_succ, List.set_cons_zero]
  rw [e0, e2, e3, e4, e6, e7, e8]
  generalize vs 1 = u4_1
  generalize vs 5 = u4_5
  clear e0 e2 e3 e4 e6 e7 e8 hC hn E4 hL vs L nb
  clear HX
  clear hM hA hB hx hy
  go_wp2
  refine bodyPost_ret (v := .bool (decide (y = 0))) ?_ rfl ⟨_, rfl, E.below, rfl⟩
  simp [results, Try.results36, go_sem]
 ·have ht2 : t = false := ht.symm.trans (decide_eq_false fun e => h0 e.1)
  subst ht2
  clear ht
  have HX := hidd (decide_eq_false h0)
  clear h0
  refine region_fr (C := [Fq.is (.pointer (some ⟨b2, 0, none⟩)), Fq.num x, Fq.is (.bool false), Fq.is (.bool false), Fq.is (undef), Fq.is (undef), Fq.is (undef), Fq.is (.bool false), Fq.is (.bool false)]) (ks := [none, none]) (new := []) E rfl (by kernel_rfl) rfl rfl (fun hp => ⟨?_, ?_, ?_, ?_, ?_, ?_, ?_, ?_, ?_, trivial⟩) ?_
  ·exact q_addr (b := b2) (off := 0) (off' := 0) hp (free_of rfl) trivial (sqo 3) (fun ρ w h => by simp [execOp, go_sem, h]) (fun _ => rfl)
  ·exact q_loadSt (off := 0) (l := 2) (fs := [.n x, .n y, .v (.bool true)]) (gs := [.n x]) hp (free_of rfl) trivial (mq 0 rfl) (.inl rfl) rfl row_api_Int rfl (sqi 0) (fun v w h => st_num h)
  ·exact q_call1 (F := (Fq.num x).P) hp (free_of rfl) trivial (enq_f_algorist_point_isZero) (sqi 1) (fun v w h => exIsZero h HX.out)
  ·exact q_move hp (free_of rfl) trivial (sqi 2)
  ·exact q_skip hp (free_of rfl) rfl gqi (fun _ => rfl)
  ·exact q_skip hp (free_of rfl) rfl gqi (fun _ => rfl)
  ·exact q_skip hp (free_of rfl) rfl gqi (fun _ => rfl)
  ·exact q_two (F := fun v _ => v = .bool false) (G := fun v _ => v = .bool false) hp (free_of rfl) trivial (sqi 3) (sq_const (fun _ => rfl)) (fun ρ w hc h h' => ⟨_, by simp [execOp, go_sem, h, h'], rfl⟩)
  ·exact q_assign hp (free_of rfl) trivial (sqi 7)
  intro L vs w5 nb hL hC hn E5
  have e0 : vs 0 = .pointer (some ⟨b2, 0, none⟩) := hC 0 (by simp)
  have e2 : vs 2 = .bool false := hC 2 (by simp)
  have e3 : vs 3 = .bool false := hC 3 (by simp)
  have e4 : vs 4 = undef := hC 4 (by simp)
  have e5 : vs 5 = undef := hC 5 (by simp)
  have e6 : vs 6 = undef := hC 6 (by simp)
  have e7 : vs 7 = .bool false := hC 7 (by simp)
  have e8 : vs 8 = .bool false := hC 8 (by simp)
  have E : Fr w [(b2, 5, Fq.st [.n x, .n y, .v (.bool true)]), (b1, 6, Fq.st [.n A, .n B, .n M])] w5 := E5
  rw [lay_all hL]
  simp only [putAll, dstOf, List.length_cons, List.length_nil, Nat.zero_add, Nat.reduceAdd, List.getElem?_toArray, List.getElem?_cons_zero, List.getElem?_cons_succ, Option.bind_some, Act.put, List.setIfInBounds_toArray, List.set_cons_succ, List.set_cons_zero]
  rw [e0, e2, e3, e4, e5, e6, e7, e8]
  generalize vs 1 = u5_1
  clear e0 e2 e3 e4 e5 e6 e7 e8 hC hn E5 hL vs L nb
  clear HX
  clear hM hA hB hx hy
  go_wp2
  refine bodyPost_ret (v := .bool false) ?_ rfl ⟨_, rfl, E.below, rfl⟩
  simp [results, Try.results36, go_sem]

set_option maxRecDepth 100000 in
set_option maxHeartbeats 4000000 in
theorem exIsPointF {w : World} {v v' : Value} {A B M x y : Int} (h : (Fq.st [.n A, .n B, .n M]).P v w) (h' : (Fq.st [.n x, .n y, .v (.bool false)]).P v' w) (hM : ab M < pw 5) (hA : ab A < pw 5) (hB : ab B < pw 5) (hx : ab x < pw 5) (hy : ab y < pw 5) (hM0 : 0 < M) {t : Bool} (ht : (resB x M && (resB y M && decide ((y * y - (((x * x) + A) * x + B)) % M = 0))) = t) :
  Calls Try.prog 36 #[v, v'] w fun e w' => ∃ v', e = .returned v' ∧ Below w.heap.size w w' ∧ v' = .bool t := by
 replace hM := hidd hM
 replace hA := hidd hA
 replace hB := hidd hB
 replace hx := hidd hx
 replace hy := hidd hy
 obtain ⟨_, rfl, hf0⟩ := h
 have hF0 := hf0
 obtain ⟨y0_p0, y0_q0, _, rfl, _y0_n0, y0_p1, y0_q1, _, rfl, _y0_n1, y0_p2, y0_q2, _, rfl, _y0_n2, rfl⟩ := hf0
 obtain ⟨_, rfl, hf1⟩ := h'
 have hF1 := hf1
 obtain ⟨y1_p0, y1_q0, _, rfl, _y1_n0, y1_p1, y1_q1, _, rfl, _y1_n1, _, rfl, _, rfl⟩ := hf1
 obtain ⟨w1, b1, hw1, hb1, hs1, E⟩ := fr_start w (F := Fq.st [.n A, .n B, .n M]) (us := [y0_p0, y0_q0, y0_p1, y0_q1, y0_p2, y0_q2]) 31 rfl (by simp) (hF0.tame) (show (Fq.st [.n A, .n B, .n M]).P _ w from ⟨_, rfl, hF0⟩)
 obtain ⟨w2, b2, hw2, hb2, hs2, E⟩ := fr_more E hs1 (F := Fq.st [.n x, .n y, .v (.bool false)]) (us := [y1_p0, y1_q0, y1_p1, y1_q1, .bool false]) 37 rfl (by simp) (hF1.tame) ((Fq.st [.n x, .n y, .v (.bool false)]).mono (show (Fq.st [.n x, .n y, .v (.bool false)]).P _ w from ⟨_, rfl, hF1⟩) E.below)
 go_enter Try.func36, Try.ntmps36
 go_upto_region 1 with (fail)
 rw [← hw1]
 rw [← hw2]
 rw [← hb2]
 rw [← hb1]
 clear hw1 hw2 hb1 hb2 hs2 hs1
 have HM0 := hidd hM0
 clear hM0
 refine region_fr (C := [Fq.is (.pointer (some ⟨b2, 4, none⟩)), Fq.is (.bool false)]) (ks := [none, none]) (new := []) E rfl (by kernel_rfl) rfl rfl (fun hp => ⟨?_, ?_, trivial⟩) ?_
 ·exact q_addr (b := b2) (off := 0) (off' := 4) hp (free_of rfl) trivial (sqo 3) (fun ρ w h => by simp [execOp, go_sem, h]) (fun _ => rfl)
 ·exact q_load1 (off := 4) (fs := [.n x, .n y, .v (.bool false)]) (u := .bool false) hp (free_of rfl) trivial (mq 0 rfl) (.inl rfl) rfl rfl (fun ρ w b h1 h2 => by simp [execOp, go_sem, h1, h2]) (sqi 0) (fun _ => rfl)
 intro L vs w3 nb hL hC hn E3
 have e0 : vs 0 = .pointer (some ⟨b2, 4, none⟩) := hC 0 (by simp)
 have e1 : vs 1 = .bool false := hC 1 (by simp)
 have E : Fr w [(b2, 5, Fq.st [.n x, .n y, .v (.bool false)]), (b1, 6, Fq.st [.n A, .n B, .n M])] w3 := E3
 rw [lay_all hL]
 simp only [putAll, dstOf, List.length_cons, List.length_nil, Nat.zero_add, Nat.reduceAdd, List.getElem?_toArray, List.getElem?_cons_zero, List.getElem?_cons_succ, Option.bind_some, Act.put, List.setIfInBounds_toArray, List.set_cons_succ, List.set_cons_zero]
 rw [e0, e1]
 clear e0 e1 hC hn E3 hL vs L nb
 go_upto_region 3 with (fail)
 by_cases hx0 : resB x M = true
 ·by_cases hy0 : resB y M = true
  ·have ht2 : t = decide ((y * y - (((x * x) + A) * x + B)) % M = 0) := ht.symm.trans (by rw [hx0, hy0, Bool.true_and, Bool.true_and])
   subst ht2
   clear ht
   have HX := hidd hx0
   have HY := hidd hy0
   clear hx0 hy0
   refine region_fr (C := [Fq.is (.pointer (some ⟨b2, 0, none⟩)), Fq.num x, Fq.is (.pointer (some ⟨b1, 4, none⟩)), Fq.num M, Fq.is (.bool true), Fq.is (.bool false), Fq.is (.bool false), Fq.is (.pointer (some ⟨b2, 2, none⟩)), Fq.num y, Fq.is (.pointer (some ⟨b1, 4, none⟩)), Fq.num M, Fq.is (.bool true), Fq.is (.bool false), Fq.is (.bool false)]) (ks := [none, none]) (new := []) E rfl (by kernel_rfl) rfl rfl (fun hp => ⟨?_, ?_, ?_, ?_, ?_, ?_, ?_, ?_, ?_, ?_, ?_, ?_, ?_, ?_, trivial⟩) ?_
   ·exact q_addr (b := b2) (off := 0) (off' := 0) hp (free_of rfl) trivial (sqo 3) (fun ρ w h => by simp [execOp, go_sem, h]) (fun _ => rfl)
   ·exact q_loadSt (off := 0) (l := 2) (fs := [.n x, .n y, .v (.bool false)]) (gs := [.n x]) hp (free_of rfl) trivial (mq 0 rfl) (.inl rfl) rfl row_api_Int rfl (sqi 0) (fun v w h => st_num h)
   ·exact q_addr (b := b1) (off := 0) (off' := 4) hp (free_of rfl) trivial (sqo 2) (fun ρ w h => by simp [execOp, go_sem, h]) (fun _ => rfl)
   ·exact q_loadSt (off := 4) (l := 2) (fs := [.n A, .n B, .n M]) (gs := [.n M]) hp (free_of rfl) trivial (mq 1 rfl) (.inl rfl) rfl row_api_Int rfl (sqi 2) (fun v w h => st_num h)
   ·exact q_call2 (F := (Fq.num x).P) (G := (Fq.num M).P) hp (free_of rfl) trivial (enq_f_algorist_point_isResidue) (sqi 1) (sqi 3) (fun v v' w h h' => exIsRes h h' HX.out)
   ·exact q_one (F := fun v _ => v = .bool true) hp (free_of rfl) trivial (sqi 4) (fun ρ w _ h => ⟨.bool false, by simp [execOp, go_sem, h], rfl⟩)
   ·exact q_move hp (free_of rfl) trivial (sqi 5)
   ·exact q_addr (b := b2) (off := 0) (off' := 2) hp (free_of rfl) gqi (sqo 3) (fun ρ w h => by simp [execOp, go_sem, h]) (fun _ => rfl)
   ·exact q_loadSt (off := 2) (l := 2) (fs := [.n x, .n y, .v (.bool false)]) (gs := [.n y]) hp (free_of rfl) gqi (mq 0 rfl) (.inl rfl) rfl row_api_Int rfl (sqi 7) (fun v w h => st_num h)
   ·exact q_addr (b := b1) (off := 0) (off' := 4) hp (free_of rfl) gqi (sqo 2) (fun ρ w h => by simp [execOp, go_sem, h]) (fun _ => rfl)
   ·exact q_loadSt (off := 4) (l := 2) (fs := [.n A, .n B, .n M]) (gs := [.n M]) hp (free_of rfl) gqi (mq 1 rfl) (.inl rfl) rfl row_api_Int rfl (sqi 9) (fun v w h => st_num h)
   ·exact q_call2 (F := (Fq.num y).P) (G := (Fq.num M).P) hp (free_of rfl) gqi (enq_f_algorist_point_isResidue) (sqi 8) (sqi 10) (fun v v' w h h' => exIsRes h h' HY.out)
   ·exact q_one (F := fun v _ => v = .bool true) hp (free_of rfl) gqi (sqi 11) (fun ρ w _ h => ⟨.bool false, by simp [execOp, go_sem, h], rfl⟩)
   ·exact q_two (F := fun v _ => v = .bool false) (G := fun v _ => v = .bool false) hp (free_of rfl) trivial (sqi 6) (sqi 12) (fun ρ w hc h h' => ⟨_, by simp [execOp, go_sem, h, h'], rfl⟩)
   intro L vs w4 nb hL hC hn E4
   have e0 : vs 0 = .pointer (some ⟨b2, 0, none⟩) := hC 0 (by simp)
   have e2 : vs 2 = .pointer (some ⟨b1, 4, none⟩) := hC 2 (by simp)
   have e4 : vs 4 = .bool true := hC 4 (by simp)
   have e5 : vs 5 = .bool false := hC 5 (by simp)
   have e6 : vs 6 = .bool false := hC 6 (by simp)
   have e7 : vs 7 = .pointer (some ⟨b2, 2, none⟩) := hC 7 (by simp)
   have e9 : vs 9 = .pointer (some ⟨b1, 4, none⟩) := hC 9 (by simp)
   have e11 : vs 11 = .bool true := hC 11 (by simp)
   have e12 : vs 12 = .bool false := hC 12 (by simp)
   have e13 : vs 13 = .bool false := hC 13 (by simp)
   have E : Fr w [(b2, 5, Fq.st [.n x, .n y, .v (.bool false)]), (b1, 6, Fq.st [.n A, .n B, .n M])] w4 := E4
   rw [lay_all hL]
   simp only [putAll, dstOf, List.length_cons, List.length_nil, Nat.zero_add, Nat.reduceAdd, List.getElem?_toArray, List.getElem?_cons_zero, List.getElem?_cons_succ, Option.bind_some, Act.put, List.setIfInBounds_toArray, List.set_cons_succ, List.set_cons_zero]
   rw [e0, e2, e4, e5, e6, e7, e9, e11, e12, e13]
   generalize vs 1 = u4_1
   generalize vs 3 = u4_3
   generalize vs 8 = u4_8
   generalize vs 10 = u4_10
   clear e0 e2 e4 e5 e6 e7 e9 e11 e12 e13 hC hn E4 hL vs L nb
   clear HX HY
   go_upto_region 5 with (fail)
   have B5 : Hid (ab ((x * x)) < pw 10) := ab_mulM hx.out hx.out (by omega)
   have B6 : Hid (ab (((x * x) + A)) < pw 11) := ab_addB B5.out hA.out (by omega) (by omega)
   have B7 : Hid (ab ((((x * x) + A) * x)) < pw 16) := ab_mulM B6.out hx.out (by omega)
   refine region_fr (C := [Fq.is (.pointer (some ⟨b2, 0, none⟩)), Fq.num x, Fq.is (.pointer (some ⟨b2, 0, none⟩)), Fq.num x, Fq.num (x * x), Fq.is (.pointer (some ⟨b1, 0, none⟩)), Fq.num A, Fq.num ((x * x) + A), Fq.is (.pointer (some ⟨b2, 0, none⟩)), Fq.num x, Fq.num (((x * x) + A) * x), Fq.any, Fq.any]) (ks := [none, none]) (new := [⟨11, 12, 2, Fq.num 0, Fq.num (((x * x) + A) * x), none⟩]) E rfl (by kernel_rfl) rfl rfl (fun hp => ⟨?_, ?_, ?_, ?_, ?_, ?_, ?_, ?_, ?_, ?_, ?_, ?_, ?_, trivial⟩) ?_
   ·exact q_addr (b := b2) (off := 0) (off' := 0) hp (free_of rfl) trivial (sqo 3) (fun ρ w h => by simp [execOp, go_sem, h]) (fun _ => rfl)
   ·exact q_loadSt (off := 0) (l := 2) (fs := [.n x, .n y, .v (.bool false)]) (gs := [.n x]) hp (free_of rfl) trivial (mq 0 rfl) (.inl rfl) rfl row_api_Int rfl (sqi 0) (fun v w h => st_num h)
   ·exact q_addr (b := b2) (off := 0) (off' := 0) hp (free_of rfl) trivial (sqo 3) (fun ρ w h => by simp [execOp, go_sem, h]) (fun _ => rfl)
   ·exact q_loadSt (off := 0) (l := 2) (fs := [.n x, .n y, .v (.bool false)]) (gs := [.n x]) hp (free_of rfl) trivial (mq 0 rfl) (.inl rfl) rfl row_api_Int rfl (sqi 2) (fun v w h => st_num h)
   ·exact q_call2 (F := (Fq.num x).P) (G := (Fq.num x).P) hp (free_of rfl) trivial (enq_Mul) (sqi 1) (sqi 3) (fun v v' w h h' => exK (MulV h h') B5.out (by omega))
   ·exact q_addr (b := b1) (off := 0) (off' := 0) hp (free_of rfl) trivial (sqo 2) (fun ρ w h => by simp [execOp, go_sem, h]) (fun _ => rfl)
   ·exact q_loadSt (off := 0) (l := 2) (fs := [.n A, .n B, .n M]) (gs := [.n A]) hp (free_of rfl) trivial (mq 1 rfl) (.inl rfl) rfl row_api_Int rfl (sqi 5) (fun v w h => st_num h)
   ·exact q_call2 (F := (Fq.num (x * x)).P) (G := (Fq.num A).P) hp (free_of rfl) trivial (enq_Add) (sqi 4) (sqi 6) (fun v v' w h h' => exK (AddV h h') B6.out (by omega))
   ·exact q_addr (b := b2) (off := 0) (off' := 0) hp (free_of rfl) trivial (sqo 3) (fun ρ w h => by simp [execOp, go_sem, h]) (fun _ => rfl)
   ·exact q_loadSt (off := 0) (l := 2) (fs := [.n x, .n y, .v (.bool false)]) (gs := [.n x]) hp (free_of rfl) trivial (mq 0 rfl) (.inl rfl) rfl row_api_Int rfl (sqi 8) (fun v w h => st_num h)
   ·exact q_call2 (F := (Fq.num ((x * x) + A)).P) (G := (Fq.num x).P) hp (free_of rfl) trivial (enq_Mul) (sqi 7) (sqi 9) (fun v v' w h h' => exK (MulV h h') B7.out (by omega))
   ·exact q_allocInt hp (mq 0 rfl) rfl rfl rfl rfl (Nat.ne_of_beq_eq_false rfl) (fun _ _ => trivial) (old_ne rfl) (newk_ne rfl) (fun w => Num.zero w)
   ·exact q_storeNewInt hp (mq 0 rfl) rfl rfl rfl (own_ptr rfl rfl (by simp) rfl) (sq_in 10 rfl rfl (by simp) rfl (fun v w h => intV_num h)) (fun _ _ => trivial) (old_ne rfl) (newi_ne rfl)
   intro L vs w8 nb hL hC hn E8
   have e0 : vs 0 = .pointer (some ⟨b2, 0, none⟩) := hC 0 (by simp)
   have e2 : vs 2 = .pointer (some ⟨b2, 0, none⟩) := hC 2 (by simp)
   have e5 : vs 5 = .pointer (some ⟨b1, 0, none⟩) := hC 5 (by simp)
   have e8 : vs 8 = .pointer (some ⟨b2, 0, none⟩) := hC 8 (by simp)
   have e11 : vs 11 = .pointer (some ⟨nb 11, 0, none⟩) := hn _ (mq 0 rfl)
   have E : Fr w [(nb 11, 2, Fq.num (((x * x) + A) * x)), (b2, 5, Fq.st [.n x, .n y, .v (.bool false)]), (b1, 6, Fq.st [.n A, .n B, .n M])] w8 := E8
   rw [lay_all hL]
   simp only [putAll, dstOf, List.length_cons, List.length_nil, Nat.zero_add, Nat.reduceAdd, List.getElem?_toArray, List.getElem?_cons_zero, List.getElem?_cons_succ, Option.bind_some, Act.put, List.setIfInBounds_toArray, List.set_cons_succ, List.set_cons_zero]
   rw [e0, e2, e5, e8, e11]
   generalize nb 11 = b8_11 at E ⊢
   generalize vs 1 = u8_1
   generalize vs 3 = u8_3
   generalize vs 4 = u8_4
   generalize vs 6 = u8_6
   generalize vs 7 = u8_7
   generalize vs 9 = u8_9
   generalize vs 10 = u8_10
   clear e0 e2 e5 e8 e11 hC hn E8 hL vs L nb
   go_upto_region 6 with (fail)
   have B9 : Hid (ab ((y * y)) < pw 10) := ab_mulM hy.out hy.out (by omega)
   have B10 : Hid (ab (((((x * x) + A) * x) + B)) < pw 17) := ab_addB B7.out hB.out (by omega) (by omega)
   have B11 : Hid (ab (((y * y) - ((((x * x) + A) * x) + B))) < pw 18) := ab_subB B9.out B10.out (by omega) (by omega)
   refine region_fr (C := [Fq.is (.pointer (some ⟨b2, 2, none⟩)), Fq.num y, Fq.is (.pointer (some ⟨b2, 2, none⟩)), Fq.num y, Fq.num (y * y), Fq.num (((x * x) + A) * x), Fq.is (.pointer (some ⟨b1, 2, none⟩)), Fq.num B, Fq.num ((((x * x) + A) * x) + B), Fq.num ((y * y) - ((((x * x) + A) * x) + B)), Fq.any, Fq.any]) (ks := [none, none, none]) (new := [⟨10, 11, 2, Fq.num 0, Fq.num ((y * y) - ((((x * x) + A) * x) + B)), none⟩]) E rfl (by kernel_rfl) rfl rfl (fun hp => ⟨?_, ?_, ?_, ?_, ?_, ?_, ?_, ?_, ?_, ?_, ?_, ?_, trivial⟩) ?_
   ·exact q_addr (b := b2) (off := 0) (off' := 2) hp (free_of rfl) trivial (sqo 3) (fun ρ w h => by simp [execOp, go_sem, h]) (fun _ => rfl)
   ·exact q_loadSt (off := 2) (l := 2) (fs := [.n x, .n y, .v (.bool false)]) (gs := [.n y]) hp (free_of rfl) trivial (mq 1 rfl) (.inl rfl) rfl row_api_Int rfl (sqi 0) (fun v w h => st_num h)
   ·exact q_addr (b := b2) (off := 0) (off' := 2) hp (free_of rfl) trivial (sqo 3) (fun ρ w h => by simp [execOp, go_sem, h]) (fun _ => rfl)
   ·exact q_loadSt (off := 2) (l := 2) (fs := [.n x, .n y, .v (.bool false)]) (gs := [.n y]) hp (free_of rfl) trivial (mq 1 rfl) (.inl rfl) rfl row_api_Int rfl (sqi 2) (fun v w h => st_num h)
   ·exact q_call2 (F := (Fq.num y).P) (G := (Fq.num y).P) hp (free_of rfl) trivial (enq_Mul) (sqi 1) (sqi 3) (fun v v' w h h' => exK (MulV h h') B9.out (by omega))
   ·exact q_loadInt (off := 0) hp (free_of rfl) trivial (mq 0 rfl) (.inl rfl) (Nat.le_of_ble_eq_true rfl) (sqo 5) (fun us w hl h => ld_num hl h)
   ·exact q_addr (b := b1) (off := 0) (off' := 2) hp (free_of rfl) trivial (sqo 2) (fun ρ w h => by simp [execOp, go_sem, h]) (fun _ => rfl)
   ·exact q_loadSt (off := 2) (l := 2) (fs := [.n A, .n B, .n M]) (gs := [.n B]) hp (free_of rfl) trivial (mq 2 rfl) (.inl rfl) rfl row_api_Int rfl (sqi 6) (fun v w h => st_num h)
   ·exact q_call2 (F := (Fq.num (((x * x) + A) * x)).P) (G := (Fq.num B).P) hp (free_of rfl) trivial (enq_Add) (sqi 5) (sqi 7) (fun v v' w h h' => exK (AddV h h') B10.out (by omega))
   ·exact q_call2 (F := (Fq.num (y * y)).P) (G := (Fq.num ((((x * x) + A) * x) + B)).P) hp (free_of rfl) trivial (enq_Sub) (sqi 4) (sqi 8) (fun v v' w h h' => exK (SubV h h') B11.out (by omega))
   ·exact q_allocInt hp (mq 0 rfl) rfl rfl rfl rfl (Nat.ne_of_beq_eq_false rfl) (fun _ _ => trivial) (old_ne rfl) (newk_ne rfl) (fun w => Num.zero w)
   ·exact q_storeNewInt hp (mq 0 rfl) rfl rfl rfl (own_ptr rfl rfl (by simp) rfl) (sq_in 9 rfl rfl (by simp) rfl (fun v w h => intV_num h)) (fun _ _ => trivial) (old_ne rfl) (newi_ne rfl)
   intro L vs w12 nb hL hC hn E12
   have e0 : vs 0 = .pointer (some ⟨b2, 2, none⟩) := hC 0 (by simp)
   have e2 : vs 2 = .pointer (some ⟨b2, 2, none⟩) := hC 2 (by simp)
   have e6 : vs 6 = .pointer (some ⟨b1, 2, none⟩) := hC 6 (by simp)
   have e10 : vs 10 = .pointer (some ⟨nb 10, 0, none⟩) := hn _ (mq 0 rfl)
   have E : Fr w [(nb 10, 2, Fq.num ((y * y) - ((((x * x) + A) * x) + B))), (b8_11, 2, Fq.num (((x * x) + A) * x)), (b2, 5, Fq.st [.n x, .n y, .v (.bool false)]), (b1, 6, Fq.st [.n A, .n B, .n M])] w12 := E12
   rw [lay_all hL]
   simp only [putAll, dstOf, List.length_cons, List.length_nil, Nat.zero_add, Nat.reduceAdd, List.getElem?_toArray, List.getElem?_cons_zero, List.getElem?_cons_succ, Option.bind_some, Act.put, List.setIfInBounds_toArray, List.set_cons_succ, List.set_cons_zero]
   rw [e0, e2, e6, e10]
   generalize nb 10 = b12_10 at E ⊢
   generalize vs 1 = u12_1
   generalize vs 3 = u12_3
   generalize vs 4 = u12_4
   generalize vs 5 = u12_5
   generalize vs 7 = u12_7
   generalize vs 8 = u12_8
   generalize vs 9 = u12_9
   clear e0 e2 e6 e10 hC hn E12 hL vs L nb
   go_upto_region 7 with (fail)
   refine region_fr (C := [Fq.num ((y * y) - ((((x * x) + A) * x) + B)), Fq.is (.pointer (some ⟨b1, 4, none⟩)), Fq.num M, Fq.num ((y * y - (((x * x) + A) * x + B)) % M), Fq.is (.bool (decide (((y * y - (((x * x) + A) * x + B)) % M) = 0))), Fq.is (.bool (decide (((y * y - (((x * x) + A) * x + B)) % M) = 0)))]) (ks := [none, none, none, none]) (new := []) E rfl (by kernel_rfl) rfl rfl (fun hp => ⟨?_, ?_, ?_, ?_, ?_, ?_, trivial⟩) ?_
   ·exact q_loadInt (off := 0) hp (free_of rfl) trivial (mq 0 rfl) (.inl rfl) (Nat.le_of_ble_eq_true rfl) (sqo 6) (fun us w hl h => ld_num hl h)
   ·exact q_addr (b := b1) (off := 0) (off' := 4) hp (free_of rfl) trivial (sqo 2) (fun ρ w h => by simp [execOp, go_sem, h]) (fun _ => rfl)
   ·exact q_loadSt (off := 4) (l := 2) (fs := [.n A, .n B, .n M]) (gs := [.n M]) hp (free_of rfl) trivial (mq 3 rfl) (.inl rfl) rfl row_api_Int rfl (sqi 1) (fun v w h => st_num h)
   ·exact q_call2 (F := (Fq.num ((y * y) - ((((x * x) + A) * x) + B))).P) (G := (Fq.num M).P) hp (free_of rfl) trivial (enq_f_algorist_point_residue) (sqi 0) (sqi 2) (fun v v' w h h' => exResP h h' (Int.lt_of_lt_of_le B11.out (pw_le (by omega))) (Int.lt_of_lt_of_le hM.out (pw_le (by omega))) HM0.out)
   ·exact q_call1 (F := (Fq.num ((y * y - (((x * x) + A) * x + B)) % M)).P) hp (free_of rfl) trivial (enq_f_algorist_point_isZero) (sqi 3) (fun v w h => exIsZero h rfl)
   ·exact q_assign hp (free_of rfl) trivial (sqi 4)
   intro L vs w13 nb hL hC hn E13
   have e1 : vs 1 = .pointer (some ⟨b1, 4, none⟩) := hC 1 (by simp)
   have e4 : vs 4 = .bool (decide (((y * y - (((x * x) + A) * x + B)) % M) = 0)) := hC 4 (by simp)
   have e5 : vs 5 = .bool (decide (((y * y - (((x * x) + A) * x + B)) % M) = 0)) := hC 5 (by simp)
   have E : Fr w [(b12_10, 2, Fq.num ((y * y) - ((((x * x) + A) * x) + B))), (b8_11, 2, Fq.num (((x * x) + A) * x)), (b2, 5, Fq.st [.n x, .n y, .v (.bool false)]), (b1, 6, Fq.st [.n A, .n B, .n M])] w13 := E13
   rw [lay_all hL]
   simp only [putAll, dstOf, List.length_cons, List.length_nil, Nat.zero_add, Nat.reduceAdd, List.getElem?_toArray, List.getElem?_cons_zero, List.getElem?_cons_succ, Option.bind_some, Act.put, List.setIfInBounds_toArray, List.set_cons_succ, List.set_cons_zero]
   rw [e1, e4, e5]
   generalize vs 0 = u13_0
   generalize vs 2 = u13_2
   generalize vs 3 = u13_3
   clear e1 e4 e5 hC hn E13 hL vs L nb
   clear HM0
   clear B5 B6 B7 B9 B10 B11 hM hA hB hx hy
   go_wp2
   refine bodyPost_ret (v := .bool (decide ((y * y - (((x * x) + A) * x + B)) % M = 0))) ?_ rfl ⟨_, rfl, E.below, rfl⟩
   simp [results, Try.results36, go_sem]
  ·have ht2 : t = false := ht.symm.trans (by rw [hx0, bfalse hy0]; rfl)
   subst ht2
   clear ht
   have HX := hidd hx0
   have HY := hidd (bfalse hy0)
   clear hx0 hy0
   refine region_fr (C := [Fq.is (.pointer (some ⟨b2, 0, none⟩)), Fq.num x, Fq.is (.pointer (some ⟨b1, 4, none⟩)), Fq.num M, Fq.is (.bool true), Fq.is (.bool false), Fq.is (.bool false), Fq.is (.pointer (some ⟨b2, 2, none⟩)), Fq.num y, Fq.is (.pointer (some ⟨b1, 4, none⟩)), Fq.num M, Fq.is (.bool false), Fq.is (.bool true), Fq.is (.bool true)]) (ks := [none, none]) (new := []) E rfl (by kernel_rfl) rfl rfl (fun hp => ⟨?_, ?_, ?_, ?_, ?_, ?_, ?_, ?_, ?_, ?_, ?_, ?_, ?_, ?_, trivial⟩) ?_
   ·exact q_addr (b := b2) (off := 0) (off' := 0) hp (free_of rfl) trivial (sqo 3) (fun ρ w h => by simp [execOp, go_sem, h]) (fun _ => rfl)
   ·exact q_loadSt (off := 0) (l := 2) (fs := [.n x, .n y, .v (.bool false)]) (gs := [.n x]) hp (free_of rfl) trivial (mq 0 rfl) (.inl rfl) rfl row_api_Int rfl (sqi 0) (fun v w h => st_num h)
   ·exact q_addr (b := b1) (off := 0) (off' := 4) hp (free_of rfl) trivial (sqo 2) (fun ρ w h => by simp [execOp, go_sem, h]) (fun _ => rfl)
   ·exact q_loadSt (off := 4) (l := 2) (fs := [.n A, .n B, .n M]) (gs := [.n M]) hp (free_of rfl) trivial (mq 1 rfl) (.inl rfl) rfl row_api_Int rfl (sqi 2) (fun v w h => st_num h)
   ·exact q_call2 (F := (Fq.num x).P) (G := (Fq.num M).P) hp (free_of rfl) trivial (enq_f_algorist_point_isResidue) (sqi 1) (sqi 3) (fun v v' w h h' => exIsRes h h' HX.out)
   ·exact q_one (F := fun v _ => v = .bool true) hp (free_of rfl) trivial (sqi 4) (fun ρ w _ h => ⟨.bool false, by simp [execOp, go_sem, h], rfl⟩)
   ·exact q_move hp (free_of rfl) trivial (sqi 5)
   ·exact q_addr (b := b2) (off := 0) (off' := 2) hp (free_of rfl) gqi (sqo 3) (fun ρ w h => by simp [execOp, go_sem, h]) (fun _ => rfl)
   ·exact q_loadSt (off := 2) (l := 2) (fs := [.n x, .n y, .v (.bool false)]) (gs := [.n y]) hp (free_of rfl) gqi (mq 0 rfl) (.inl rfl) rfl row_api_Int rfl (sqi 7) (fun v w h => st_num h)
   ·exact q_addr (b := b1) (off := 0) (off' := 4) hp (free_of rfl) gqi (sqo 2) (fun ρ w h => by simp [execOp, go_sem, h]) (fun _ => rfl)
   ·exact q_loadSt (off := 4) (l := 2) (fs := [.n A, .n B, .n M]) (gs := [.n M]) hp (free_of rfl) gqi (mq 1 rfl) (.inl rfl) rfl row_api_Int rfl (sqi 9) (fun v w h => st_num h)
   ·exact q_call2 (F := (Fq.num y).P) (G := (Fq.num M).P) hp (free_of rfl) gqi (enq_f_algorist_point_isResidue) (sqi 8) (sqi 10) (fun v v' w h h' => exIsRes h h' HY.out)
   ·exact q_one (F := fun v _ => v = .bool false) hp (free_of rfl) gqi (sqi 11) (fun ρ w _ h => ⟨.bool true, by simp [execOp, go_sem, h], rfl⟩)
   ·exact q_two (F := fun v _ => v = .bool false) (G := fun v _ => v = .bool true) hp (free_of rfl) trivial (sqi 6) (sqi 12) (fun ρ w hc h h' => ⟨_, by simp [execOp, go_sem, h, h'], rfl⟩)
   intro L vs w14 nb hL hC hn E14
   have e0 : vs 0 = .pointer (some ⟨b2, 0, none⟩) := hC 0 (by simp)
   have e2 : vs 2 = .pointer (some ⟨b1, 4, none⟩) := hC 2 (by simp)
   have e4 : vs 4 = .bool true := hC 4 (by simp)
   have e5 : vs 5 = .bool false := hC 5 (by simp)
   have e6 : vs 6 = .bool false := hC 6 (by simp)
   have e7 : vs 7 = .pointer (some ⟨b2, 2, none⟩) := hC 7 (by simp)
   have e9 : vs 9 = .pointer (some ⟨b1, 4, none⟩) := hC 9 (by simp)
   have e11 : vs 11 = .bool false := hC 11 (by simp)
   have e12 : vs 12 = .bool true := hC 12 (by simp)
   have e13 : vs 13 = .bool true := hC 13 (by simp)
   have E : Fr w [(b2, 5, Fq.st [.n x, .n y, .v (.bool false)]), (b1, 6, Fq.st [.n A, .n B, .n M])] w14 := E14
   rw [lay_all hL]
   simp only [putAll, dstOf, List.length_cons, List.length_nil, Nat.zero_add, Nat.reduceAdd, List.getElem?_toArray, List.getElem?_cons_zero, List.getElem?_cons_succ, Option.bind_some, Act.put, List.setIfInBounds_toArray, List.set_cons_succ, List.set_cons_zero]
   rw [e0, e2, e4, e5, e6, e7, e9, e11, e12, e13]
   generalize vs 1 = u14_1
   generalize vs 3 = u14_3
   generalize vs 8 = u14_8
   generalize vs 10 = u14_10
   clear e0 e2 e4 e5 e6 e7 e9 e11 e12 e13 hC hn E14 hL vs L nb
   clear HX HY
   go_upto_region 4 with (fail)
   refine region_fr (C := [Fq.is (.bool false)]) (ks := [none, none]) (new := []) E rfl (by kernel_rfl) rfl rfl (fun hp => ⟨?_, trivial⟩) ?_
   ·exact q_assign hp (free_of rfl) trivial (sq_const (fun _ => rfl))
   intro L vs w15 nb hL hC hn E15
   have e0 : vs 0 = .bool false := hC 0 (by simp)
   have E : Fr w [(b2, 5, Fq.st [.n x, .n y, .v (.bool false)]), (b1, 6, Fq.st [.n A, .n B, .n M])] w15 := E15
   rw [lay_all hL]
   simp only [putAll, dstOf, List.length_cons, List.length_nil, Nat.zero_add, List.getElem?_toArray, List.getElem?_cons_zero, Option.bind_some, Act.put, List.setIfInBounds_toArray, List.set_cons_succ, List.set_cons_zero]
   rw [e0]
   clear e0 hC hn E15 hL vs L nb
   clear HM0
   clear hM hA hB hx hy
   go_wp2
   refine bodyPost_ret (v := .bool false) ?_ rfl ⟨_, rfl, E.below, rfl⟩
   simp [results, Try.results36, go_sem]
 ·have ht2 : t = false := ht.symm.trans (by rw [bfalse hx0]; rfl)
  subst ht2
  clear ht
  have HX := hidd (bfalse hx0)
  clear hx0
  refine region_fr (C := [Fq.is (.pointer (some ⟨b2, 0, none⟩)), Fq.num x, Fq.is (.pointer (some ⟨b1, 4, none⟩)), Fq.num M, Fq.is (.bool false), Fq.is (.bool true), Fq.is (.bool true), Fq.is (undef), Fq.is (undef), Fq.is (undef), Fq.is (undef), Fq.is (undef), Fq.is (undef), Fq.is (.bool true)]) (ks := [none, none]) (new := []) E rfl (by kernel_rfl) rfl rfl (fun hp => ⟨?_, ?_, ?_, ?_, ?_, ?_, ?_, ?_, ?_, ?_, ?_, ?_, ?_, ?_, trivial⟩) ?_
  ·exact q_addr (b := b2) (off := 0) (off' := 0) hp (free_of rfl) trivial (sqo 3) (fun ρ w h => by simp [execOp, go_sem, h]) (fun _ => rfl)
  ·exact q_loadSt (off := 0) (l := 2) (fs := [.n x, .n y, .v (.bool false)]) (gs := [.n x]) hp (free_of rfl) trivial (mq 0 rfl) (.inl rfl) rfl row_api_Int rfl (sqi 0) (fun v w h => st_num h)
  ·exact q_addr (b := b1) (off := 0) (off' := 4) hp (free_of rfl) trivial (sqo 2) (fun ρ w h => by simp [execOp, go_sem, h]) (fun _ => rfl)
  ·exact q_loadSt (off := 4) (l := 2) (fs := [.n A, .n B, .n M]) (gs := [.n M]) hp (free_of rfl) trivial (mq 1 rfl) (.inl rfl) rfl row_api_Int rfl (sqi 2) (fun v w h => st_num h)
  ·exact q_call2 (F := (Fq.num x).P) (G := (Fq.num M).P) hp (free_of rfl) trivial (enq_f_algorist_point_isResidue) (sqi 1) (sqi 3) (fun v v' w h h' => exIsRes h h' HX.out)
  ·exact q_one (F := fun v _ => v = .bool false) hp (free_of rfl) trivial (sqi 4) (fun ρ w _ h => ⟨.bool true, by simp [execOp, go_sem, h], rfl⟩)
  ·exact q_move hp (free_of rfl) trivial (sqi 5)
  ·exact q_skip hp (free_of rfl) rfl gqi (fun _ => rfl)
  ·exact q_skip hp (free_of rfl) rfl gqi (fun _ => rfl)
  ·exact q_skip hp (free_of rfl) rfl gqi (fun _ => rfl)
  ·exact q_skip hp (free_of rfl) rfl gqi (fun _ => rfl)
  ·exact q_skip hp (free_of rfl) rfl gqi (fun _ => rfl)
  ·exact q_skip hp (free_of rfl) rfl gqi (fun _ => rfl)
  ·exact q_two (F := fun v _ => v = .bool true) (G := fun v _ => v = .bool true) hp (free_of rfl) trivial (sqi 6) (sq_const (fun _ => rfl)) (fun ρ w hc h h' => ⟨_, by simp [execOp, go_sem, h, h'], rfl⟩)
  intro L vs w16 nb hL hC hn E16
  have e0 : vs 0 = .pointer (some ⟨b2, 0, none⟩) := hC 0 (by simp)
  have e2 : vs 2 = .pointer (some ⟨b1, 4, none⟩) := hC 2 (by simp)
  have e4 : vs 4 = .bool false := hC 4 (by simp)
  have e5 : vs 5 = .bool true := hC 5 (by simp)
  have e6 : vs 6 = .bool true := hC 6 (by simp)
  have e7 : vs 7 = undef := hC 7 (by simp)
  have e8 : vs 8 = undef := hC 8 (by simp)
  have e9 : vs 9 = undef := hC 9 (by simp)
  have e10 : vs 10 = undef := hC 10 (by simp)
  have e11 : vs 11 = undef := hC 11 (by simp)
  have e12 : vs 12 = undef := hC 12 (by simp)
  have e13 : vs 13 = .bool true := hC 13 (by simp)
  have E : Fr w [(b2, 5, Fq.st [.n x, .n y, .v (.bool false)]), (b1, 6, Fq.st [.n A, .n B, .n M])] w16 := E16
  rw [lay_all hL]
  simp only [putAll, dstOf, List.length_cons, List.length_nil, Nat.zero_add, Nat.reduceAdd, List.getElem?_toArray, List.getElem?_cons_zero, List.getElem?_cons_succ, Option.bind_some, Act.put, List.setIfInBounds_toArray, List.set_cons_succ, List.set_cons_zero]
  rw [e0, e2, e4, e5, e6, e7, e8, e9, e10, e11, e12, e13]
  generalize vs 1 = u16_1
  generalize vs 3 = u16_3
  clear e0 e2 e4 e5 e6 e7 e8 e9 e10 e11 e12 e13 hC hn E16 hL vs L nb
  clear HX
  go_upto_region 4 with (fail)
  refine region_fr (C := [Fq.is (.bool false)]) (ks := [none, none]) (new := []) E rfl (by kernel_rfl) rfl rfl (fun hp => ⟨?_, trivial⟩) ?_
  ·exact q_assign hp (free_of rfl) trivial (sq_const (fun _ => rfl))
  intro L vs w17 nb hL hC hn E17
  have e0 : vs 0 = .bool false := hC 0 (by simp)
  have E : Fr w [(b2, 5, Fq.st [.n x, .n y, .v (.bool false)]), (b1, 6, Fq.st [.n A, .n B, .n M])] w17 := E17
  rw [lay_all hL]
  simp only [putAll, dstOf, List.length_cons, List.length_nil, Nat.zero_add, List.getElem?_toArray, List.getElem?_cons_zero, Option.bind_some, Act.put, List.setIfInBounds_toArray, List.set_cons_succ, List.set_cons_zero]
  rw [e0]
  clear e0 hC hn E17 hL vs L nb
  clear HM0
  clear hM hA hB hx hy
  go_wp2
  refine bodyPost_ret (v := .bool false) ?_ rfl ⟨_, rfl, E.below, rfl⟩
  simp [results, Try.results36, go_sem]

theorem exIsPoint {w : World} {v v' : Value} {A B M x y : Int} {i : Bool} (h : (Fq.st [.n A, .n B, .n M]).P v w) (h' : (Fq.st [.n x, .n y, .v (.bool i)]).P v' w) (hM : ab M < pw 5) (hA : ab A < pw 5) (hB : ab B < pw 5) (hx : ab x < pw 5) (hy : ab y < pw 5) (hM0 : 0 < M) {t : Bool} (ht : ptB A B M x y i = t) : Calls Try.prog 36 #[v, v'] w fun e w' => ∃ v', e = .returned v' ∧ Below w.heap.size w w' ∧ v' = .bool t := by
 cases i with
 | true => exact exIsPointI h h' hM hA hB hx hy ht
 | false => exact exIsPointF h h' hM hA hB hx hy hM0 ht

set_option maxRecDepth 100000 in
set_option maxHeartbeats 4000000 in
theorem exOn {w : World} {v v' : Value} {A B M x y : Int} {i : Bool} (h : (Fq.st [.n A, .n B, .n M]).P v w) (h' : (Fq.st [.n x, .n y, .v (.bool i)]).P v' w) (hM : ab M < pw 5) (hA : ab A < pw 5) (hB : ab B < pw 5) (hx : ab x < pw 5) (hy : ab y < pw 5) {t : Bool} (ht : onB A B M x y i = t) :
  Calls Try.prog 15 #[v, v'] w fun e w' => ∃ v', e = .returned v' ∧ Below w.heap.size w w' ∧ v' = .bool t := by
 replace hM := hidd hM
 replace hA := hidd hA
 replace hB := hidd hB
 replace hx := hidd hx
 replace hy := hidd hy
 obtain ⟨_, rfl, hf0⟩ := h
 have hF0 := hf0
 obtain ⟨y0_p0, y0_q0, _, rfl, _y0_n0, y0_p1, y0_q1, _, rfl, _y0_n1, y0_p2, y0_q2, _, rfl, _y0_n2, rfl⟩ := hf0
 obtain ⟨_, rfl, hf1⟩ := h'
 have hF1 := hf1
 obtain ⟨y1_p0, y1_q0, _, rfl, _y1_n0, y1_p1, y1_q1, _, rfl, _y1_n1, _, rfl, _, rfl⟩ := hf1
 obtain ⟨w1, b1, hw1, hb1, hs1, E⟩ := fr_start w (F := Fq.st [.n A, .n B, .n M]) (us := [y0_p0, y0_q0, y0_p1, y0_q1, y0_p2, y0_q2]) 31 rfl (by simp) (hF0.tame) (show (Fq.st [.n A, .n B, .n M]).P _ w from ⟨_, rfl, hF0⟩)
 obtain ⟨w2, b2, hw2, hb2, hs2, E⟩ := fr_more E hs1 (F := Fq.st [.n x, .n y, .v (.bool i)]) (us := [y1_p0, y1_q0, y1_p1, y1_q1, .bool i]) 37 rfl (by simp) (hF1.tame) ((Fq.st [.n x, .n y, .v (.bool i)]).mono (show (Fq.st [.n x, .n y, .v (.bool i)]).P _ w from ⟨_, rfl, hF1⟩) E.below)
 go_enter Try.func15, Try.ntmps15
 go_upto_region 1 with (fail)
 rw [← hw1]
 rw [← hw2]
 rw [← hb2]
 rw [← hb1]
 clear hw1 hw2 hb1 hb2 hs2 hs1
 by_cases hc : curveB A B M = true
 ·have ht2 : t = ptB A B M x y i := ht.symm.trans (by unfold onB; rw [hc, Bool.true_and])
  subst ht2
  clear ht
  have HM0 : Hid (0 < M) := (curve_of hc).1
  have HC := hidd hc
  clear hc
  refine region_fr (C := [Fq.st [.n A, .n B, .n M], Fq.is (.bool true), Fq.is (.bool true), Fq.st [.n A, .n B, .n M], Fq.st [.n x, .n y, .v (.bool i)], Fq.is (.bool (ptB A B M x y i)), Fq.is (.bool (ptB A B M x y i)), Fq.is (.bool (ptB A B M x y i))]) (ks := [none, none]) (new := []) E rfl (by kernel_rfl) rfl rfl (fun hp => ⟨?_, ?_, ?_, ?_, ?_, ?_, ?_, ?_, trivial⟩) ?_
  ·exact q_loadSt (off := 0) (l := 6) (fs := [.n A, .n B, .n M]) (gs := [.n A, .n B, .n M]) hp (free_of rfl) trivial (mq 1 rfl) (.inl rfl) rfl row_api_Mod rfl (sqo 2) (fun v w h => h)
  ·exact q_call1 (F := (Fq.st [.n A, .n B, .n M]).P) hp (free_of rfl) trivial (enq_f_algorist_point_isCurve) (sqi 0) (fun v w h => exIsCurve h (Int.lt_of_lt_of_le hM.out (pw_le (by omega))) HC.out)
  ·exact q_move hp (free_of rfl) trivial (sqi 1)
  ·exact q_loadSt (off := 0) (l := 6) (fs := [.n A, .n B, .n M]) (gs := [.n A, .n B, .n M]) hp (free_of rfl) gqi (mq 1 rfl) (.inl rfl) rfl row_api_Mod rfl (sqo 2) (fun v w h => h)
  ·exact q_loadSt (off := 0) (l := 5) (fs := [.n x, .n y, .v (.bool i)]) (gs := [.n x, .n y, .v (.bool i)]) hp (free_of rfl) gqi (mq 0 rfl) (.inl rfl) rfl row_api_Point rfl (sqo 3) (fun v w h => h)
  ·exact q_call2 (F := (Fq.st [.n A, .n B, .n M]).P) (G := (Fq.st [.n x, .n y, .v (.bool i)]).P) hp (free_of rfl) gqi (enq_f_algorist_point_isPoint) (sqi 3) (sqi 4) (fun v v' w h h' => exIsPoint h h' hM.out hA.out hB.out hx.out hy.out HM0.out rfl)
  ·exact q_two (F := fun v _ => v = .bool true) (G := fun v _ => v = .bool (ptB A B M x y i)) hp (free_of rfl) trivial (sqi 2) (sqi 5) (fun ρ w hc h h' => ⟨_, by simp [execOp, go_sem, h, h'], rfl⟩)
  ·exact q_assign hp (free_of rfl) trivial (sqi 6)
  intro L vs w3 nb hL hC hn E3
  have e1 : vs 1 = .bool true := hC 1 (by simp)
  have e2 : vs 2 = .bool true := hC 2 (by simp)
  have e5 : vs 5 = .bool (ptB A B M x y i) := hC 5 (by simp)
  have e6 : vs 6 = .bool (ptB A B M x y i) := hC 6 (by simp)
  have e7 : vs 7 = .bool (ptB A B M x y i) := hC 7 (by simp)
  have E : Fr w [(b2, 5, Fq.st [.n x, .n y, .v (.bool i)]), (b1, 6, Fq.st [.n A, .n B, .n M])] w3 := E3
  rw [lay_all hL]
  simp only [putAll, dstOf, List.length_cons, List.length_nil, Nat.zero_add, Nat.reduceAdd, List.getElem?_toArray, List.getElem?_cons_zero, List.getElem?_cons_succ, Option.bind_some, Act.put, List.setIfInBounds_toArray, List.set_cons_succ, List.set_cons_zero]
  rw [e1, e2, e5, e6, e7]
  generalize vs 0 = u3_0
  generalize vs 3 = u3_3
  generalize vs 4 = u3_4
  clear e1 e2 e5 e6 e7 hC hn E3 hL vs L nb
  clear HC HM0
  clear hM hA hB hx hy
  go_wp2
  refine bodyPost_ret (v := .bool (ptB A B M x y i)) ?_ rfl ⟨_, rfl, E.below, rfl⟩
  simp [results, Try.results15, go_sem]
 ·have ht2 : t = false := ht.symm.trans (by unfold onB; rw [bfalse hc, Bool.false_and])
  subst ht2
  clear ht
  have HC := hidd (bfalse hc)
  clear hc
  refine region_fr (C := [Fq.st [.n A, .n B, .n M], Fq.is (.bool false), Fq.is (.bool false), Fq.is (undef), Fq.is (undef), Fq.is (undef), Fq.is (.bool false), Fq.is (.bool false)]) (ks := [none, none]) (new := []) E rfl (by kernel_rfl) rfl rfl (fun hp => ⟨?_, ?_, ?_, ?_, ?_, ?_, ?_, ?_, trivial⟩) ?_
  ·exact q_loadSt (off := 0) (l := 6) (fs := [.n A, .n B, .n M]) (gs := [.n A, .n B, .n M]) hp (free_of rfl) trivial (mq 1 rfl) (.inl rfl) rfl row_api_Mod rfl (sqo 2) (fun v w h => h)
  ·exact q_call1 (F := (Fq.st [.n A, .n B, .n M]).P) hp (free_of rfl) trivial (enq_f_algorist_point_isCurve) (sqi 0) (fun v w h => exIsCurve h (Int.lt_of_lt_of_le hM.out (pw_le (by omega))) HC.out)
  ·exact q_move hp (free_of rfl) trivial (sqi 1)
  ·exact q_skip hp (free_of rfl) rfl gqi (fun _ => rfl)
  ·exact q_skip hp (free_of rfl) rfl gqi (fun _ => rfl)
  ·exact q_skip hp (free_of rfl) rfl gqi (fun _ => rfl)
  ·exact q_two (F := fun v _ => v = .bool false) (G := fun v _ => v = .bool false) hp (free_of rfl) trivial (sqi 2) (sq_const (fun _ => rfl)) (fun ρ w hc h h' => ⟨_, by simp [execOp, go_sem, h, h'], rfl⟩)
  ·exact q_assign hp (free_of rfl) trivial (sqi 6)
  intro L vs w4 nb hL hC hn E4
  have e1 : vs 1 = .bool false := hC 1 (by simp)
  have e2 : vs 2 = .bool false := hC 2 (by simp)
  have e3 : vs 3 = undef := hC 3 (by simp)
  have e4 : vs 4 = undef := hC 4 (by simp)
  have e5 : vs 5 = undef := hC 5 (by simp)
  have e6 : vs 6 = .bool false := hC 6 (by simp)
  have e7 : vs 7 = .bool false := hC 7 (by simp)
  have E : Fr w [(b2, 5, Fq.st [.n x, .n y, .v (.bool i)]), (b1, 6, Fq.st [.n A, .n B, .n M])] w4 := E4
  rw [lay_all hL]
  simp only [putAll, dstOf, List.length_cons, List.length_nil, Nat.zero_add, Nat.reduceAdd, List.getElem?_toArray, List.getElem?_cons_zero, List.getElem?_cons_succ, Option.bind_some, Act.put, List.setIfInBounds_toArray, List.set_cons_succ, List.set_cons_zero]
  rw [e1, e2, e3, e4, e5, e6, e7]
  generalize vs 0 = u4_0
  clear e1 e2 e3 e4 e5 e6 e7 hC hn E4 hL vs L nb
  clear HC
  clear hM hA hB hx hy
  go_wp2
  refine bodyPost_ret (v := .bool false) ?_ rfl ⟨_, rfl, E.below, rfl⟩
  simp [results, Try.results15, go_sem]

end Go.Proofs.Ytihhlaagndingaa
