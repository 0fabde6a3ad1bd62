/- Oq, Or. -/
import Derived.Test.YtihhlaagndingaaBg3
namespace Go.Proofs.Ytihhlaagndingaa
open Go Go.RowKit

theorem enq_f_algorist_point_isZero (args : Array Value) (w : World) : (callFunc 59 args).run Try.prog w = .ok (.enter 59 args) w := enter_of Try.func59 (by kernel_rfl) rfl args w
theorem enq_f_algorist_point_isResidue (args : Array Value) (w : World) : (callFunc 58 args).run Try.prog w = .ok (.enter 58 args) w := enter_of Try.func58 (by kernel_rfl) rfl args w
theorem enq_f_algorist_point_isCurve (args : Array Value) (w : World) : (callFunc 35 args).run Try.prog w = .ok (.enter 35 args) w := enter_of Try.func35 (by kernel_rfl) rfl args w
theorem enq_f_algorist_point_isPoint (args : Array Value) (w : World) : (callFunc 36 args).run Try.prog w = .ok (.enter 36 args) w := enter_of Try.func36 (by kernel_rfl) rfl args w
theorem enq_f_algorist_point_On (args : Array Value) (w : World) : (callFunc 15 args).run Try.prog w = .ok (.enter 15 args) w := enter_of Try.func15 (by kernel_rfl) rfl args w
theorem enq_f_algorist_point_opposite (args : Array Value) (w : World) : (callFunc 37 args).run Try.prog w = .ok (.enter 37 args) w := enter_of Try.func37 (by kernel_rfl) rfl args w
theorem enq_f_algorist_point_slope (args : Array Value) (w : World) : (callFunc 76 args).run Try.prog w = .ok (.enter 76 args) w := enter_of Try.func76 (by kernel_rfl) rfl args w
theorem enq_f_algorist_point_sum (args : Array Value) (w : World) : (callFunc 55 args).run Try.prog w = .ok (.enter 55 args) w := enter_of Try.func55 (by kernel_rfl) rfl args w
theorem enq_f_algorist_point_residue (args : Array Value) (w : World) : (callFunc 61 args).run Try.prog w = .ok (.enter 61 args) w := enter_of Try.func61 (by kernel_rfl) rfl args w
theorem enq_f_algorist_point_copied (args : Array Value) (w : World) : (callFunc 75 args).run Try.prog w = .ok (.enter 75 args) w := enter_of Try.func75 (by kernel_rfl) rfl args w
theorem enq_f_algorist_point_Neg (args : Array Value) (w : World) : (callFunc 16 args).run Try.prog w = .ok (.enter 16 args) w := enter_of Try.func16 (by kernel_rfl) rfl args w
theorem enq_f_algorist_point_Add (args : Array Value) (w : World) : (callFunc 34 args).run Try.prog w = .ok (.enter 34 args) w := enter_of Try.func34 (by kernel_rfl) rfl args w
theorem enq_f_algorist_point_existing (args : Array Value) (w : World) : (callFunc 80 args).run Try.prog w = .ok (.enter 80 args) w := enter_of Try.func80 (by kernel_rfl) rfl args w
theorem enq_f_algorist_point_multiple (args : Array Value) (w : World) : (callFunc 66 args).run Try.prog w = .ok (.enter 66 args) w := enter_of Try.func66 (by kernel_rfl) rfl args w
theorem enq_f_algorist_point_Times (args : Array Value) (w : World) : (callFunc 39 args).run Try.prog w = .ok (.enter 39 args) w := enter_of Try.func39 (by kernel_rfl) rfl args w
theorem exValidV {w : World} {v : Value} {z : Int} (h : Num w v z) : Calls Try.prog 56 #[v] w fun e w' => ∃ v', e = .returned v' ∧ Below w.heap.size w w' ∧ v' = .bool true := by
 obtain ⟨n, ao, k, c, rfl⟩ := h.parts
 refine (exValid h).mono ?_
 rintro e w' ⟨rfl, hb⟩
 exact ⟨_, rfl, hb, rfl⟩
theorem bfalse {b : Bool} (h : ¬ b = true) : b = false := by cases b <;> simp_all
theorem first_par {n : Bool} {xs : List Int} {z : Int} {k : Nat} (h : z = sgn n (val xs) ∧ Canon xs ∧ xs.length = k ∧ (n = true → k ≠ 0) ∧ Digs xs) (h0 : 0 < z) : 0 < k ∧ ∃ x0 : Int, xs.getD 0 0 = x0 ∧ bits .and .u32 x0 1 = z % 2 := by
 obtain ⟨hz, hc, hl, hn, hd⟩ := h
 match xs, hl with
 | [], _ => cases n <;> simp [val, sgn] at hz <;> omega
 | x :: t, hl =>
  refine ⟨by rw [← hl]; exact Nat.succ_pos _, x, rfl, ?_⟩
  have hx := hd.getD 0
  have ht := val_nonneg hd
  have hv : val (x :: t) = x + val t * 4294967296 := by simp [val]; try omega
  have hzv : z = val (x :: t) := by cases n <;> simp [sgn] at hz <;> omega
  have hx0 : 0 ≤ x := hx.1
  have hx1 : x < 4294967296 := hx.2
  rw [and_one x hx0 hx1, hzv, hv]
  omega
def resB (a m : Int) : Bool := decide (0 ≤ a ∧ a < m)
def curveB (A B M : Int) : Bool := decide (3 < M ∧ M % 2 = 1) && (resB A M && resB B M)
def ptB (A B M x y : Int) (i : Bool) : Bool := if i then decide (x = 0 ∧ y = 0) else resB x M && (resB y M && decide ((y * y - (((x * x) + A) * x + B)) % M = 0))
def onB (A B M x y : Int) (i : Bool) : Bool := curveB A B M && ptB A B M x y i
theorem curve_of {A B M : Int} (h : curveB A B M = true) : 0 < M ∧ (3 < M ∧ M % 2 = 1) ∧ (0 ≤ A ∧ A < M) ∧ 0 ≤ B ∧ B < M := by
 simp only [curveB, resB, Bool.and_eq_true, decide_eq_true_eq] at h
 exact ⟨by omega, h.1, h.2.1, h.2.2⟩
set_option maxRecDepth 100000 in
set_option maxHeartbeats 4000000 in
theorem exIsZero {w : World} {v : Value} {a : Int} {t : Bool} (h : Num w v a) (ht : decide (a = 0) = t) :
  Calls Try.prog 59 #[v] w fun e w' => ∃ v', e = .returned v' ∧ Below w.heap.size w w' ∧ v' = .bool t := by
 obtain ⟨n0, ao0, k0, c0, rfl⟩ := h.parts
 obtain ⟨w1, b1, hw1, hb1, hs1, E⟩ := fr_start w (F := Fq.num a) (us := [.bool n0, .slice ao0 k0 c0]) 29 rfl (by simp) (tame_int _ _ _ _) h
 go_enter Try.func59, Try.ntmps59
 go_upto_region 1 with (fail)
 rw [← hw1]
 rw [← hb1]
 clear hw1 hb1 hs1
 by_cases h0 : a = 0
 ·have T1 : Hid (cmpI a 0 = 0) := cmpIq0.2 h0
  have ht2 : t = true := ht.symm.trans (decide_eq_true h0)
  subst ht2
  clear ht
  clear h0
  refine region_fr (C := [Fq.num a, Fq.is (.bool true), Fq.is (.bool true), Fq.num a, Fq.is (.int .i64 (cmpI a 0)), Fq.is (.bool true), Fq.is (.bool true), Fq.is (.bool true)]) (ks := [none]) (new := []) E rfl (by kernel_rfl) rfl rfl (fun hp => ⟨?_, ?_, ?_, ?_, ?_, ?_, ?_, ?_, trivial⟩) ?_
  ·exact q_loadInt (off := 0) hp (free_of rfl) trivial (mq 0 rfl) (.inl rfl) (Nat.le_of_ble_eq_true rfl) (sqo 1) (fun us w hl h => ld_num hl h)
  ·exact q_call1 (F := (Fq.num a).P) hp (free_of rfl) trivial (enq_Valid) (sqi 0) (fun v w h => exValidV h)
  ·exact q_move hp (free_of rfl) trivial (sqi 1)
  ·exact q_loadInt (off := 0) hp (free_of rfl) gqi (mq 0 rfl) (.inl rfl) (Nat.le_of_ble_eq_true rfl) (sqo 1) (fun us w hl h => ld_num hl h)
  ·exact q_call1 (F := (Fq.num a).P) hp (free_of rfl) gqi (enq_Sign) (sqi 3) (fun v w h => exSign h)
  ·exact q_one (F := fun v _ => v = .int .i64 (cmpI a 0)) hp (free_of rfl) gqi (sqi 4) (fun ρ w hc h => ⟨.bool true, by simp [execOp, go_sem, h, hc, T1.out], rfl⟩)
  ·exact q_two (F := fun v _ => v = .bool true) (G := fun v _ => v = .bool true) hp (free_of rfl) trivial (sqi 2) (sqi 5) (fun ρ w hc h h' => ⟨_, by simp [execOp, go_sem, h, h'], rfl⟩)
  ·exact q_assign hp (free_of rfl) trivial (sqi 6)
  intro L vs w2 nb hL hC hn E2
  have e1 : vs 1 = .bool true := hC 1 (by simp)
  have e2 : vs 2 = .bool true := hC 2 (by simp)
  have e4 : vs 4 = .int .i64 (cmpI a 0) := hC 4 (by simp)
  have e5 : vs 5 = .bool true := hC 5 (by simp)
  have e6 : vs 6 = .bool true := hC 6 (by simp)
  have e7 : vs 7 = .bool true := hC 7 (by simp)
  have E : Fr w [(b1, 2, Fq.num a)] w2 := E2
  rw [lay_all hL]
  simp only [putAll, dstOf, List.length_cons, List.length_nil, Nat.zero_add, Nat.reduceAdd, List.getElem?_toArray, List.getElem?_cons_zero, List.getElem?_cons_succ, Option.bind_some, Act.put, List.setIfInBounds_toArray, List.set_cons_succ, List.set_cons_zero]
  rw [e1, e2, e4, e5, e6, e7]
  generalize vs 0 = u2_0
  generalize vs 3 = u2_3
  clear e1 e2 e4 e5 e6 e7 hC hn E2 hL vs L nb
  clear T1
  go_wp2
  refine bodyPost_ret (v := .bool true) ?_ rfl ⟨_, rfl, E.below, rfl⟩
  simp [results, Try.results59, go_sem]
 ·have T1 : Hid (¬ cmpI a 0 = 0) := fun e => h0 (cmpIq0.1 e)
  have ht2 : t = false := ht.symm.trans (decide_eq_false h0)
  subst ht2
  clear ht
  clear h0
  refine region_fr (C := [Fq.num a, Fq.is (.bool true), Fq.is (.bool true), Fq.num a, Fq.is (.int .i64 (cmpI a 0)), Fq.is (.bool false), Fq.is (.bool false), Fq.is (.bool false)]) (ks := [none]) (new := []) E rfl (by kernel_rfl) rfl rfl (fun hp => ⟨?_, ?_, ?_, ?_, ?_, ?_, ?_, ?_, trivial⟩) ?_
  ·exact q_loadInt (off := 0) hp (free_of rfl) trivial (mq 0 rfl) (.inl rfl) (Nat.le_of_ble_eq_true rfl) (sqo 1) (fun us w hl h => ld_num hl h)
  ·exact q_call1 (F := (Fq.num a).P) hp (free_of rfl) trivial (enq_Valid) (sqi 0) (fun v w h => exValidV h)
  ·exact q_move hp (free_of rfl) trivial (sqi 1)
  ·exact q_loadInt (off := 0) hp (free_of rfl) gqi (mq 0 rfl) (.inl rfl) (Nat.le_of_ble_eq_true rfl) (sqo 1) (fun us w hl h => ld_num hl h)
  ·exact q_call1 (F := (Fq.num a).P) hp (free_of rfl) gqi (enq_Sign) (sqi 3) (fun v w h => exSign h)
  ·exact q_one (F := fun v _ => v = .int .i64 (cmpI a 0)) hp (free_of rfl) gqi (sqi 4) (fun ρ w hc h => ⟨.bool false, by simp [execOp, go_sem, h, hc, T1.out], rfl⟩)
  ·exact q_two (F := fun v _ => v = .bool true) (G := fun v _ => v = .bool false) hp (free_of rfl) trivial (sqi 2) (sqi 5) (fun ρ w hc h h' => ⟨_, by simp [execOp, go_sem, h, h'], rfl⟩)
  ·exact q_assign hp (free_of rfl) trivial (sqi 6)
  intro L vs w3 nb hL hC hn E3
  have e1 : vs 1 = .bool true := hC 1 (by simp)
  have e2 : vs 2 = .bool true := hC 2 (by simp)
  have e4 : vs 4 = .int .i64 (cmpI a 0) := hC 4 (by simp)
  have e5 : vs 5 = .bool false := hC 5 (by simp)
  have e6 : vs 6 = .bool false := hC 6 (by simp)
  have e7 : vs 7 = .bool false := hC 7 (by simp)
  have E : Fr w [(b1, 2, Fq.num a)] w3 := E3
  rw [lay_all hL]
  simp only [putAll, dstOf, List.length_cons, List.length_nil, Nat.zero_add, Nat.reduceAdd, List.getElem?_toArray, List.getElem?_cons_zero, List.getElem?_cons_succ, Option.bind_some, Act.put, List.setIfInBounds_toArray, List.set_cons_succ, List.set_cons_zero]
  rw [e1, e2, e4, e5, e6, e7]
  generalize vs 0 = u3_0
  generalize vs 3 = u3_3
  clear e1 e2 e4 e5 e6 e7 hC hn E3 hL vs L nb
  clear T1
  go_wp2
  refine bodyPost_ret (v := .bool false) ?_ rfl ⟨_, rfl, E.below, rfl⟩
  simp [results, Try.results59, go_sem]

set_option maxRecDepth 100000 in
set_option maxHeartbeats 4000000 in
theorem exIsRes {w : World} {v v' : Value} {a m : Int} (h : Num w v a) (h' : Num w v' m) {t : Bool} (ht : resB a m = t) :
  Calls Try.prog 58 #[v, v'] w fun e w' => ∃ v', e = .returned v' ∧ Below w.heap.size w w' ∧ v' = .bool t := by
 obtain ⟨n0, ao0, k0, c0, rfl⟩ := h.parts
 obtain ⟨n1, ao1, k1, c1, rfl⟩ := h'.parts
 obtain ⟨w1, b1, hw1, hb1, hs1, E⟩ := fr_start w (F := Fq.num a) (us := [.bool n0, .slice ao0 k0 c0]) 29 rfl (by simp) (tame_int _ _ _ _) h
 obtain ⟨w2, b2, hw2, hb2, hs2, E⟩ := fr_more E hs1 (F := Fq.num m) (us := [.bool n1, .slice ao1 k1 c1]) 29 rfl (by simp) (tame_int _ _ _ _) (h'.mono E.below)
 go_enter Try.func58, Try.ntmps58
 go_upto_region 1 with (fail)
 rw [← hw1]
 rw [← hw2]
 rw [← hb2]
 rw [← hb1]
 clear hw1 hw2 hb1 hb2 hs2 hs1
 by_cases h0 : 0 ≤ a
 ·have T1 : Hid (0 ≤ cmpI a 0) := by have := mt cmpIqlt.1 (show ¬ a < 0 by omega); show _ ≤ _; omega
  by_cases h1 : a < m
  ·have T2 : Hid (cmpI a m < 0) := cmpIqlt.2 h1
   have ht2 : t = true := ht.symm.trans (decide_eq_true ⟨h0, h1⟩)
   subst ht2
   clear ht
   clear h0 h1
   refine region_fr (C := [Fq.num a, Fq.is (.bool true), Fq.is (.bool true), Fq.num a, Fq.is (.int .i64 (cmpI a 0)), Fq.is (.bool true), Fq.is (.bool true), Fq.is (.bool true), Fq.num a, Fq.num m, Fq.is (.int .i64 (cmpI a m)), Fq.is (.bool true), Fq.is (.bool true), Fq.is (.bool true)]) (ks := [none, none]) (new := []) E rfl (by kernel_rfl) rfl rfl (fun hp => ⟨?_, ?_, ?_, ?_, ?_, ?_, ?_, ?_, ?_, ?_, ?_, ?_, ?_, ?_, trivial⟩) ?_
   ·exact q_loadInt (off := 0) hp (free_of rfl) trivial (mq 1 rfl) (.inl rfl) (Nat.le_of_ble_eq_true rfl) (sqo 2) (fun us w hl h => ld_num hl h)
   ·exact q_call1 (F := (Fq.num a).P) hp (free_of rfl) trivial (enq_Valid) (sqi 0) (fun v w h => exValidV h)
   ·exact q_move hp (free_of rfl) trivial (sqi 1)
   ·exact q_loadInt (off := 0) hp (free_of rfl) gqi (mq 1 rfl) (.inl rfl) (Nat.le_of_ble_eq_true rfl) (sqo 2) (fun us w hl h => ld_num hl h)
   ·exact q_call1 (F := (Fq.num a).P) hp (free_of rfl) gqi (enq_Sign) (sqi 3) (fun v w h => exSign h)
   ·exact q_one (F := fun v _ => v = .int .i64 (cmpI a 0)) hp (free_of rfl) gqi (sqi 4) (fun ρ w hc h => ⟨.bool true, by simp [execOp, go_sem, h, hc, T1.out], rfl⟩)
   ·exact q_two (F := fun v _ => v = .bool true) (G := fun v _ => v = .bool true) hp (free_of rfl) trivial (sqi 2) (sqi 5) (fun ρ w hc h h' => ⟨_, by simp [execOp, go_sem, h, h'], rfl⟩)
   ·exact q_move hp (free_of rfl) trivial (sqi 6)
   ·exact q_loadInt (off := 0) hp (free_of rfl) gqi (mq 1 rfl) (.inl rfl) (Nat.le_of_ble_eq_true rfl) (sqo 2) (fun us w hl h => ld_num hl h)
   ·exact q_loadInt (off := 0) hp (free_of rfl) gqi (mq 0 rfl) (.inl rfl) (Nat.le_of_ble_eq_true rfl) (sqo 3) (fun us w hl h => ld_num hl h)
   ·exact q_call2 (F := (Fq.num a).P) (G := (Fq.num m).P) hp (free_of rfl) gqi (enq_Cmp) (sqi 8) (sqi 9) (fun v v' w h h' => exCmp h h')
   ·exact q_one (F := fun v _ => v = .int .i64 (cmpI a m)) hp (free_of rfl) gqi (sqi 10) (fun ρ w hc h => ⟨.bool true, by simp [execOp, go_sem, h, hc, T2.out], rfl⟩)
   ·exact q_two (F := fun v _ => v = .bool true) (G := fun v _ => v = .bool true) hp (free_of rfl) trivial (sqi 7) (sqi 11) (fun ρ w hc h h' => ⟨_, by simp [execOp, go_sem, h, h'], rfl⟩)
   ·exact q_assign hp (free_of rfl) trivial (sqi 12)
   intro L vs w3 nb hL hC hn E3
   have e1 : vs 1 = .bool true := hC 1 (by simp)
   have e2 : vs 2 = .bool true := hC 2 (by simp)
   have e4 : vs 4 = .int .i64 (cmpI a 0) := hC 4 (by simp)
   have e5 : vs 5 = .bool true := hC 5 (by simp)
   have e6 : vs 6 = .bool true := hC 6 (by simp)
   have e7 : vs 7 = .bool true := hC 7 (by simp)
   have e10 : vs 10 = .int .i64 (cmpI a m) := hC 10 (by simp)
   have e11 : vs 11 = .bool true := hC 11 (by simp)
   have e12 : vs 12 = .bool true := hC 12 (by simp)
   have e13 : vs 13 = .bool true := hC 13 (by simp)
   have E : Fr w [(b2, 2, Fq.num m), (b1, 2, Fq.num a)] w3 := E3
   rw [lay_all hL]
   simp only [putAll, dstOf, List.length_cons, List.length_nil, Nat.zero_add, Nat.reduceAdd, List.getElem?_toArray, List.getElem?_cons_zero, List.getElem?_cons_succ, Option.bind_some, Act.put, List.setIfInBounds_toArray, List.set_cons_succ, List.set_cons_zero]
   rw [e1, e2, e4, e5, e6, e7, e10, e11, e12, e13]
   generalize vs 0 = u3_0
   generalize vs 3 = u3_3
   generalize vs 8 = u3_8
   generalize vs 9 = u3_9
   clear e1 e2 e4 e5 e6 e7 e10 e11 e12 e13 hC hn E3 hL vs L nb
   clear T1 T2
   go_wp2
   refine bodyPost_ret (v := .bool true) ?_ rfl ⟨_, rfl, E.below, rfl⟩
   simp [results, Try.results58, go_sem]
  ·have T2 : Hid (¬ cmpI a m < 0) := fun e => h1 (cmpIqlt.1 e)
   have ht2 : t = false := ht.symm.trans (decide_eq_false fun e => h1 e.2)
   subst ht2
   clear ht
   clear h0 h1
   refine region_fr (C := [Fq.num a, Fq.is (.bool true), Fq.is (.bool true), Fq.num a, Fq.is (.int .i64 (cmpI a 0)), Fq.is (.bool true), Fq.is (.bool true), Fq.is (.bool true), Fq.num a, Fq.num m, Fq.is (.int .i64 (cmpI a m)), Fq.is (.bool false), Fq.is (.bool false), Fq.is (.bool false)]) (ks := [none, none]) (new := []) E rfl (by kernel_rfl) rfl rfl (fun hp => ⟨?_, ?_, ?_, ?_, ?_, ?_, ?_, ?_, ?_, ?_, ?_, ?_, ?_, ?_, trivial⟩) ?_
   ·exact q_loadInt (off := 0) hp (free_of rfl) trivial (mq 1 rfl) (.inl rfl) (Nat.le_of_ble_eq_true rfl) (sqo 2) (fun us w hl h => ld_num hl h)
   ·exact q_call1 (F := (Fq.num a).P) hp (free_of rfl) trivial (enq_Valid) (sqi 0) (fun v w h => exValidV h)
   ·exact q_move hp (free_of rfl) trivial (sqi 1)
   ·exact q_loadInt (off := 0) hp (free_of rfl) gqi (mq 1 rfl) (.inl rfl) (Nat.le_of_ble_eq_true rfl) (sqo 2) (fun us w hl h => ld_num hl h)
   ·exact q_call1 (F := (Fq.num a).P) hp (free_of rfl) gqi (enq_Sign) (sqi 3) (fun v w h => exSign h)
   ·exact q_one (F := fun v _ => v = .int .i64 (cmpI a 0)) hp (free_of rfl) gqi (sqi 4) (fun ρ w hc h => ⟨.bool true, by simp [execOp, go_sem, h, hc, T1.out], rfl⟩)
   ·exact q_two (F := fun v _ => v = .bool true) (G := fun v _ => v = .bool true) hp (free_of rfl) trivial (sqi 2) (sqi 5) (fun ρ w hc h h' => ⟨_, by simp [execOp, go_sem, h, h'], rfl⟩)
   ·exact q_move hp (free_of rfl) trivial (sqi 6)
   ·exact q_loadInt (off := 0) hp (free_of rfl) gqi (mq 1 rfl) (.inl rfl) (Nat.le_of_ble_eq_true rfl) (sqo 2) (fun us w hl h => ld_num hl h)
   ·exact q_loadInt (off := 0) hp (free_of rfl) gqi (mq 0 rfl) (.inl rfl) (Nat.le_of_ble_eq_true rfl) (sqo 3) (fun us w hl h => ld_num hl h)
   ·exact q_call2 (F := (Fq.num a).P) (G := (Fq.num m).P) hp (free_of rfl) gqi (enq_Cmp) (sqi 8) (sqi 9) (fun v v' w h h' => exCmp h h')
   ·exact q_one (F := fun v _ => v = .int .i64 (cmpI a m)) hp (free_of rfl) gqi (sqi 10) (fun ρ w hc h => ⟨.bool false, by simp [execOp, go_sem, h, hc, T2.out], rfl⟩)
   ·exact q_two (F := fun v _ => v = .bool true) (G := fun v _ => v = .bool false) hp (free_of rfl) trivial (sqi 7) (sqi 11) (fun ρ w hc h h' => ⟨_, by simp [execOp, go_sem, h, h'], rfl⟩)
   ·exact q_assign hp (free_of rfl) trivial (sqi 12)
   intro L vs w4 nb hL hC hn E4
   have e1 : vs 1 = .bool true := hC 1 (by simp)
   have e2 : vs 2 = .bool true := hC 2 (by simp)
   have e4 : vs 4 = .int .i64 (cmpI a 0) := hC 4 (by simp)
   have e5 : vs 5 = .bool true := hC 5 (by simp)
   have e6 : vs 6 = .bool true := hC 6 (by simp)
   have e7 : vs 7 = .bool true := hC 7 (by simp)
   have e10 : vs 10 = .int .i64 (cmpI a m) := hC 10 (by simp)
   have e11 : vs 11 = .bool false := hC 11 (by simp)
   have e12 : vs 12 = .bool false := hC 12 (by simp)
   have e13 : vs 13 = .bool false := hC 13 (by simp)
   have E : Fr w [(b2, 2, Fq.num m), (b1, 2, Fq.num a)] w4 := E4
   rw [lay_all hL]
   simp only [putAll, dstOf, List.length_cons, List.length_nil, Nat.zero_add, Nat.reduceAdd, List.getElem?_toArray, List.getElem?_cons_zero, List.getElem?_cons_succ, Option.bind_some, Act.put, List.setIfInBounds_toArray, List.set_cons_succ, List.set_cons_zero]
   rw [e1, e2, e4, e5, e6, e7, e10, e11, e12, e13]
   generalize vs 0 = u4_0
   generalize vs 3 = u4_3
   generalize vs 8 = u4_8
   generalize vs 9 = u4_9
   clear e1 e2 e4 e5 e6 e7 e10 e11 e12 e13 hC hn E4 hL vs L nb
   clear T1 T2
   go_wp2
   refine bodyPost_ret (v := .bool false) ?_ rfl ⟨_, rfl, E.below, rfl⟩
   simp [results, Try.results58, go_sem]
 ·have T1 : Hid (¬ 0 ≤ cmpI a 0) := by have := cmpIqlt.2 (show a < 0 by omega); show ¬ _; omega
  have ht2 : t = false := ht.symm.trans (decide_eq_false fun e => h0 e.1)
  subst ht2
  clear ht
  clear h0
  refine region_fr (C := [Fq.num a, Fq.is (.bool true), Fq.is (.bool true), Fq.num a, Fq.is (.int .i64 (cmpI a 0)), Fq.is (.bool false), Fq.is (.bool false), Fq.is (.bool false), Fq.is (undef), Fq.is (undef), Fq.is (undef), Fq.is (undef), Fq.is (.bool false), Fq.is (.bool false)]) (ks := [none, none]) (new := []) E rfl (by kernel_rfl) rfl rfl (fun hp => ⟨?_, ?_, ?_, ?_, ?_, ?_, ?_, ?_, ?_, ?_, ?_, ?_, ?_, ?_, trivial⟩) ?_
  ·exact q_loadInt (off := 0) hp (free_of rfl) trivial (mq 1 rfl) (.inl rfl) (Nat.le_of_ble_eq_true rfl) (sqo 2) (fun us w hl h => ld_num hl h)
  ·exact q_call1 (F := (Fq.num a).P) hp (free_of rfl) trivial (enq_Valid) (sqi 0) (fun v w h => exValidV h)
  ·exact q_move hp (free_of rfl) trivial (sqi 1)
  ·exact q_loadInt (off := 0) hp (free_of rfl) gqi (mq 1 rfl) (.inl rfl) (Nat.le_of_ble_eq_true rfl) (sqo 2) (fun us w hl h => ld_num hl h)
  ·exact q_call1 (F := (Fq.num a).P) hp (free_of rfl) gqi (enq_Sign) (sqi 3) (fun v w h => exSign h)
  ·exact q_one (F := fun v _ => v = .int .i64 (cmpI a 0)) hp (free_of rfl) gqi (sqi 4) (fun ρ w hc h => ⟨.bool false, by simp [execOp, go_sem, h, hc, T1.out], rfl⟩)
  ·exact q_two (F := fun v _ => v = .bool true) (G := fun v _ => v = .bool false) hp (free_of rfl) trivial (sqi 2) (sqi 5) (fun ρ w hc h h' => ⟨_, by simp [execOp, go_sem, h, h'], rfl⟩)
  ·exact q_move hp (free_of rfl) trivial (sqi 6)
  ·exact q_skip hp (free_of rfl) rfl gqi (fun _ => rfl)
  ·exact q_skip hp (free_of rfl) rfl gqi (fun _ => rfl)
  ·exact q_skip hp (free_of rfl) rfl gqi (fun _ => rfl)
  ·exact q_skip hp (free_of rfl) rfl gqi (fun _ => rfl)
  ·exact q_two (F := fun v _ => v = .bool false) (G := fun v _ => v = .bool false) hp (free_of rfl) trivial (sqi 7) (sq_const (fun _ => rfl)) (fun ρ w hc h h' => ⟨_, by simp [execOp, go_sem, h, h'], rfl⟩)
  ·exact q_assign hp (free_of rfl) trivial (sqi 12)
  intro L vs w5 nb hL hC hn E5
  have e1 : vs 1 = .bool true := hC 1 (by simp)
  have e2 : vs 2 = .bool true := hC 2 (by simp)
  have e4 : vs 4 = .int .i64 (cmpI a 0) := hC 4 (by simp)
  have e5 : vs 5 = .bool false := hC 5 (by simp)
  have e6 : vs 6 = .bool false := hC 6 (by simp)
  have e7 : vs 7 = .bool false := hC 7 (by simp)
  have e8 : vs 8 = undef := hC 8 (by simp)
  have e9 : vs 9 = undef := hC 9 (by simp)
  have e10 : vs 10 = undef := hC 10 (by simp)
  have e11 : vs 11 = undef := hC 11 (by simp)
  have e12 : vs 12 = .bool false := hC 12 (by simp)
  have e13 : vs 13 = .bool false := hC 13 (by simp)
  have E : Fr w [(b2, 2, Fq.num m), (b1, 2, Fq.num a)] w5 := E5
  rw [lay_all hL]
  simp only [putAll, dstOf, List.length_cons, List.length_nil, Nat.zero_add, Nat.reduceAdd, List.getElem?_toArray, List.getElem?_cons_zero, List.getElem?_cons_succ, Option.bind_some, Act.put, List.setIfInBounds_toArray, List.set_cons_succ, List.set_cons_zero]
  rw [e1, e2, e4, e5, e6, e7, e8, e9, e10, e11, e12, e13]
  generalize vs 0 = u5_0
  generalize vs 3 = u5_3
  clear e1 e2 e4 e5 e6 e7 e8 e9 e10 e11 e12 e13 hC hn E5 hL vs L nb
  clear T1
  go_wp2
  refine bodyPost_ret (v := .bool false) ?_ rfl ⟨_, rfl, E.below, rfl⟩
  simp [results, Try.results58, go_sem]

set_option maxRecDepth 100000 in
set_option maxHeartbeats 4000000 in
theorem exIsCurve {w : World} {v : Value} {A B M : Int} (h : (Fq.st [.n A, .n B, .n M]).P v w) (hM : ab M < pw 40) {t : Bool} (ht : curveB A B M = t) :
  Calls Try.prog 35 #[v] w fun e w' => ∃ v', e = .returned v' ∧ Below w.heap.size w w' ∧ v' = .bool t := by
 replace hM := hidd hM
 obtain ⟨n, ao, k, c, xs, hop, h⟩ := st_open (z := M) [.n A, .n B] [] h
 by_cases h3 : 3 < M
 ·by_cases h2 : M % 2 = 0
  ·have ht2 : t = false := ht.symm.trans (by unfold curveB; rw [show decide (3 < M ∧ M % 2 = 1) = false from decide_eq_false fun e => by omega]; rfl)
   subst ht2
   clear ht
   have T1 : Hid (¬ cmpI M 3 ≤ 0) := by have := cmpIqgt.2 h3; show ¬ _; omega
   obtain ⟨hj, x0, hy, hm⟩ := first_par hop (by omega)
   obtain ⟨ad, off, rfl⟩ := st_addr (off := 4) h rfl hj
   have HJ := hidd hj
   have HY := hidd hy
   have WM := hidd (hm.trans h2)
   clear hop hj hy hm h3 h2
   obtain ⟨_, rfl, hf0⟩ := h
   have hF0 := hf0
   obtain ⟨y0_p0, y0_q0, _, rfl, _y0_n0, y0_p1, y0_q1, _, rfl, _y0_n1, _, rfl, _, rfl⟩ := hf0
   obtain ⟨w1, b1, hw1, hb1, hs1, E⟩ := fr_start w (F := Fq.st [.n A, .n B, .r n (some ⟨ad, off, none⟩) k c xs M]) (us := [y0_p0, y0_q0, y0_p1, y0_q1, .bool n, .slice (some ⟨ad, off, none⟩) k c]) 31 rfl (by simp) (hF0.tame) (show (Fq.st [.n A, .n B, .r n (some ⟨ad, off, none⟩) k c xs M]).P _ w from ⟨_, rfl, hF0⟩)
   go_enter Try.func35, Try.ntmps35
   go_upto_region 1 with (fail)
   rw [← hw1]
   rw [← hb1]
   clear hw1 hb1 hs1
   have B2 : Hid (ab ((3)) < pw 3) := ab_lit (by decide)
   refine region_fr (C := [Fq.is (.pointer (some ⟨b1, 4, none⟩)), Fq.num M, Fq.is (.bool true), Fq.is (.bool false), Fq.is (.bool false), Fq.is (.pointer (some ⟨b1, 4, none⟩)), Fq.num M, Fq.num (3), Fq.is (.int .i64 (cmpI M (3))), Fq.is (.bool false), Fq.is (.bool false), Fq.is (.bool false), Fq.is (.pointer (some ⟨b1, 4, none⟩)), Fq.is (.pointer (some ⟨b1, 5, none⟩)), Fq.is (.slice (some ⟨ad, off, none⟩) k c), Fq.is (.pointer (some ⟨ad, off, none⟩)), Fq.is (.int .u32 x0), Fq.is (.int .u32 (0)), Fq.is (.bool true), Fq.is (.bool true)]) (ks := [none]) (new := []) E rfl (by kernel_rfl) rfl rfl (fun hp => ⟨?_, ?_, ?_, ?_, ?_, ?_, ?_, ?_, ?_, ?_, ?_, ?_, ?_, ?_, ?_, ?_, ?_, ?_, ?_, ?_, trivial⟩) ?_
   ·exact q_addr (b := b1) (off := 0) (off' := 4) hp (free_of rfl) trivial (sqo 1) (fun ρ w h => by simp [execOp, go_sem, h]) (fun _ => rfl)
   ·exact q_loadSt (off := 4) (l := 2) (fs := [.n A, .n B, .r n (some ⟨ad, off, none⟩) k c xs M]) (gs := [.r n (some ⟨ad, off, none⟩) k c xs M]) hp (free_of rfl) trivial (mq 0 rfl) (.inl rfl) rfl row_api_Int rfl (sqi 0) (fun v w h => st_numR h)
   ·exact q_call1 (F := (Fq.num M).P) hp (free_of rfl) trivial (enq_Valid) (sqi 1) (fun v w h => exValidV h)
   ·exact q_one (F := fun v _ => v = .bool true) hp (free_of rfl) trivial (sqi 2) (fun ρ w _ h => ⟨.bool false, by simp [execOp, go_sem, h], rfl⟩)
   ·exact q_move hp (free_of rfl) trivial (sqi 3)
   ·exact q_addr (b := b1) (off := 0) (off' := 4) hp (free_of rfl) gqi (sqo 1) (fun ρ w h => by simp [execOp, go_sem, h]) (fun _ => rfl)
   ·exact q_loadSt (off := 4) (l := 2) (fs := [.n A, .n B, .r n (some ⟨ad, off, none⟩) k c xs M]) (gs := [.r n (some ⟨ad, off, none⟩) k c xs M]) hp (free_of rfl) gqi (mq 0 rfl) (.inl rfl) rfl row_api_Int rfl (sqi 5) (fun v w h => st_numR h)
   ·exact q_call1 (F := (Fq.is (.int .i64 3)).P) hp (free_of rfl) gqi (enq_Of) (sq_const (fun _ => rfl)) (fun v w h => (by subst h; exact OfK w (3) (by omega) (by omega)))
   ·exact q_call2 (F := (Fq.num M).P) (G := (Fq.num (3)).P) hp (free_of rfl) gqi (enq_Cmp) (sqi 6) (sqi 7) (fun v v' w h h' => exCmp h h')
   ·exact q_one (F := fun v _ => v = .int .i64 (cmpI M (3))) hp (free_of rfl) gqi (sqi 8) (fun ρ w hc h => ⟨.bool false, by simp [execOp, go_sem, h, hc, T1.out], rfl⟩)
   ·exact q_two (F := fun v _ => v = .bool false) (G := fun v _ => v = .bool false) hp (free_of rfl) trivial (sqi 4) (sqi 9) (fun ρ w hc h h' => ⟨_, by simp [execOp, go_sem, h, h'], rfl⟩)
   ·exact q_move hp (free_of rfl) trivial (sqi 10)
   ·exact q_addr (b := b1) (off := 0) (off' := 4) hp (free_of rfl) gqi (sqo 1) (fun ρ w h => by simp [execOp, go_sem, h]) (fun _ => rfl)
   ·exact q_addr (b := b1) (off := 4) (off' := 5) hp (free_of rfl) gqi (sqi 12) (fun ρ w h => by simp [execOp, go_sem, h]) (fun _ => rfl)
   ·exact q_loadMagS (off := 5) (v := .slice (some ⟨ad, off, none⟩) k c) hp (free_of rfl) gqi (mq 0 rfl) (.inl rfl) (Nat.le_of_ble_eq_true rfl) (sqi 13) (fun us w hl h => ⟨(fits_mag (off := 4) h rfl).1, rfl⟩)
   ·exact q_one (F := fun v _ => v = .slice (some ⟨ad, off, none⟩) k c) hp (free_of rfl) gqi (sqi 14) (fun ρ w hc h => ⟨.pointer (some ⟨ad, off, none⟩), by simp [execOp, go_sem, h, hc, HJ.out], rfl⟩)
   ·exact q_loadWordS (bx := b1) (x0 := x0) hp (free_of rfl) gqi (mq 0 rfl) (.inl rfl) (sqi 15) (fun us w hl h => fits_word0 (off := 4) rfl HJ.out HY.out h) (fun _ => rfl)
   ·exact q_one (F := fun v _ => v = .int .u32 x0) hp (free_of rfl) gqi (sqi 16) (fun ρ w hc h => ⟨.int .u32 (0), by simp [execOp, go_sem, h, hc, WM.out], rfl⟩)
   ·exact q_one (F := fun v _ => v = .int .u32 (0)) hp (free_of rfl) gqi (sqi 17) (fun ρ w hc h => ⟨.bool true, by simp [execOp, go_sem, h, hc], rfl⟩)
   ·exact q_two (F := fun v _ => v = .bool false) (G := fun v _ => v = .bool true) hp (free_of rfl) trivial (sqi 11) (sqi 18) (fun ρ w hc h h' => ⟨_, by simp [execOp, go_sem, h, h'], rfl⟩)
   intro L vs w3 nb hL hC hn E3
   have e0 : vs 0 = .pointer (some ⟨b1, 4, none⟩) := hC 0 (by simp)
   have e2 : vs 2 = .bool true := hC 2 (by simp)
   have e3 : vs 3 = .bool false := hC 3 (by simp)
   have e4 : vs 4 = .bool false := hC 4 (by simp)
   have e5 : vs 5 = .pointer (some ⟨b1, 4, none⟩) := hC 5 (by simp)
   have e8 : vs 8 = .int .i64 (cmpI M (3)) := hC 8 (by simp)
   have e9 : vs 9 = .bool false := hC 9 (by simp)
   have e10 : vs 10 = .bool false := hC 10 (by simp)
   have e11 : vs 11 = .bool false := hC 11 (by simp)
   have e12 : vs 12 = .pointer (some ⟨b1, 4, none⟩) := hC 12 (by simp)
   have e13 : vs 13 = .pointer (some ⟨b1, 5, none⟩) := hC 13 (by simp)
   have e14 : vs 14 = .slice (some ⟨ad, off, none⟩) k c := hC 14 (by simp)
   have e15 : vs 15 = .pointer (some ⟨ad, off, none⟩) := hC 15 (by simp)
   have e16 : vs 16 = .int .u32 x0 := hC 16 (by simp)
   have e17 : vs 17 = .int .u32 (0) := hC 17 (by simp)
   have e18 : vs 18 = .bool true := hC 18 (by simp)
   have e19 : vs 19 = .bool true := hC 19 (by simp)
   have E : Fr w [(b1, 6, Fq.st [.n A, .n B, .r n (some ⟨ad, off, none⟩) k c xs M])] w3 := E3
   rw [lay_all hL]
   simp only [putAll, dstOf, List.length_cons, List.length_nil, Nat.zero_add, Nat.reduceAdd, List.getElem?_toArray, List.getElem?_cons_zero, List.getElem?_cons_succ, Option.bind_some, Act.put, List.setIfInBounds_toArray, List.set_cons_succ, List.set_cons_zero]
   rw [e0, e2, e3, e4, e5, e8, e9, e10, e11, e12, e13, e14, e15, e16, e17, e18, e19]
   generalize vs 1 = u3_1
   generalize vs 6 = u3_6
   generalize vs 7 = u3_7
   clear e0 e2 e3 e4 e5 e8 e9 e10 e11 e12 e13 e14 e15 e16 e17 e18 e19 hC hn E3 hL vs L nb
   clear T1 HJ HY WM
   go_upto_region 2 with (fail)
   refine region_fr (C := [Fq.is (.bool false)]) (ks := [none]) (new := []) E rfl (by kernel_rfl) rfl rfl (fun hp => ⟨?_, trivial⟩) ?_
   ·exact q_assign hp (free_of rfl) trivial (sq_const (fun _ => rfl))
   intro L vs w4 nb hL hC hn E4
   have e0 : vs 0 = .bool false := hC 0 (by simp)
   have E : Fr w [(b1, 6, Fq.st [.n A, .n B, .r n (some ⟨ad, off, none⟩) k c xs M])] w4 := E4
   rw [lay_all hL]
   simp only [putAll, dstOf, List.length_cons, List.length_nil, Nat.zero_add, List.getElem?_toArray, List.getElem?_cons_zero, Option.bind_some, Act.put, List.setIfInBounds_toArray, List.set_cons_succ, List.set_cons_zero]
   rw [e0]
   clear e0 hC hn E4 hL vs L nb
   clear B2 hM
   go_wp2
   refine bodyPost_ret (v := .bool false) ?_ rfl ⟨_, rfl, E.below, rfl⟩
   simp [results, Try.results35, go_sem]
  ·replace h2 : M % 2 = 1 := by omega
   have ht2 : t = (resB A M && resB B M) := ht.symm.trans (by unfold curveB; rw [show decide (3 < M ∧ M % 2 = 1) = true from decide_eq_true ⟨h3, h2⟩]; rfl)
   clear ht
   have T1 : Hid (¬ cmpI M 3 ≤ 0) := by have := cmpIqgt.2 h3; show ¬ _; omega
   obtain ⟨hj, x0, hy, hm⟩ := first_par hop (by omega)
   obtain ⟨ad, off, rfl⟩ := st_addr (off := 4) h rfl hj
   have HJ := hidd hj
   have HY := hidd hy
   have WM := hidd (hm.trans h2)
   clear hop hj hy hm h3 h2
   obtain ⟨_, rfl, hf0⟩ := h
   have hF0 := hf0
   obtain ⟨y0_p0, y0_q0, _, rfl, _y0_n0, y0_p1, y0_q1, _, rfl, _y0_n1, _, rfl, _, rfl⟩ := hf0
   obtain ⟨w5, b5, hw5, hb5, hs5, E⟩ := fr_start w (F := Fq.st [.n A, .n B, .r n (some ⟨ad, off, none⟩) k c xs M]) (us := [y0_p0, y0_q0, y0_p1, y0_q1, .bool n, .slice (some ⟨ad, off, none⟩) k c]) 31 rfl (by simp) (hF0.tame) (show (Fq.st [.n A, .n B, .r n (some ⟨ad, off, none⟩) k c xs M]).P _ w from ⟨_, rfl, hF0⟩)
   go_enter Try.func35, Try.ntmps35
   go_upto_region 1 with (fail)
   rw [← hw5]
   rw [← hb5]
   clear hw5 hb5 hs5
   have B6 : Hid (ab ((3)) < pw 3) := ab_lit (by decide)
   refine region_fr (C := [Fq.is (.pointer (some ⟨b5, 4, none⟩)), Fq.num M, Fq.is (.bool true), Fq.is (.bool false), Fq.is (.bool false), Fq.is (.pointer (some ⟨b5, 4, none⟩)), Fq.num M, Fq.num (3), Fq.is (.int .i64 (cmpI M (3))), Fq.is (.bool false), Fq.is (.bool false), Fq.is (.bool false), Fq.is (.pointer (some ⟨b5, 4, none⟩)), Fq.is (.pointer (some ⟨b5, 5, none⟩)), Fq.is (.slice (some ⟨ad, off, none⟩) k c), Fq.is (.pointer (some ⟨ad, off, none⟩)), Fq.is (.int .u32 x0), Fq.is (.int .u32 (1)), Fq.is (.bool false), Fq.is (.bool false)]) (ks := [none]) (new := []) E rfl (by kernel_rfl) rfl rfl (fun hp => ⟨?_, ?_, ?_, ?_, ?_, ?_, ?_, ?_, ?_, ?_, ?_, ?_, ?_, ?_, ?_, ?_, ?_, ?_, ?_, ?_, trivial⟩) ?_
   ·exact q_addr (b := b5) (off := 0) (off' := 4) hp (free_of rfl) trivial (sqo 1) (fun ρ w h => by simp [execOp, go_sem, h]) (fun _ => rfl)
   ·exact q_loadSt (off := 4) (l := 2) (fs := [.n A, .n B, .r n (some ⟨ad, off, none⟩) k c xs M]) (gs := [.r n (some ⟨ad, off, none⟩) k c xs M]) hp (free_of rfl) trivial (mq 0 rfl) (.inl rfl) rfl row_api_Int rfl (sqi 0) (fun v w h => st_numR h)
   ·exact q_call1 (F := (Fq.num M).P) hp (free_of rfl) trivial (enq_Valid) (sqi 1) (fun v w h => exValidV h)
   ·exact q_one (F := fun v _ => v = .bool true) hp (free_of rfl) trivial (sqi 2) (fun ρ w _ h => ⟨.bool false, by simp [execOp, go_sem, h], rfl⟩)
   ·exact q_move hp (free_of rfl) trivial (sqi 3)
   ·exact q_addr (b := b5) (off := 0) (off' := 4) hp (free_of rfl) gqi (sqo 1) (fun ρ w h => by simp [execOp, go_sem, h]) (fun _ => rfl)
   ·exact q_loadSt (off := 4) (l := 2) (fs := [.n A, .n B, .r n (some ⟨ad, off, none⟩) k c xs M]) (gs := [.r n (some ⟨ad, off, none⟩) k c xs M]) hp (free_of rfl) gqi (mq 0 rfl) (.inl rfl) rfl row_api_Int rfl (sqi 5) (fun v w h => st_numR h)
   ·exact q_call1 (F := (Fq.is (.int .i64 3)).P) hp (free_of rfl) gqi (enq_Of) (sq_const (fun _ => rfl)) (fun v w h => (by subst h; exact OfK w (3) (by omega) (by omega)))
   ·exact q_call2 (F := (Fq.num M).P) (G := (Fq.num (3)).P) hp (free_of rfl) gqi (enq_Cmp) (sqi 6) (sqi 7) (fun v v' w h h' => exCmp h h')
   ·exact q_one (F := fun v _ => v = .int .i64 (cmpI M (3))) hp (free_of rfl) gqi (sqi 8) (fun ρ w hc h => ⟨.bool false, by simp [execOp, go_sem, h, hc, T1.out], rfl⟩)
   ·exact q_two (F := fun v _ => v = .bool false) (G := fun v _ => v = .bool false) hp (free_of rfl) trivial (sqi 4) (sqi 9) (fun ρ w hc h h' => ⟨_, by simp [execOp, go_sem, h, h'], rfl⟩)
   ·exact q_move hp (free_of rfl) trivial (sqi 10)
   ·exact q_addr (b := b5) (off := 0) (off' := 4) hp (free_of rfl) gqi (sqo 1) (fun ρ w h => by simp [execOp, go_sem, h]) (fun _ => rfl)
   ·exact q_addr (b := b5) (off := 4) (off' := 5) hp (free_of rfl) gqi (sqi 12) (fun ρ w h => by simp [execOp, go_sem, h]) (fun _ => rfl)
   ·exact q_loadMagS (off := 5) (v := .slice (some ⟨ad, off, none⟩) k c) hp (free_of rfl) gqi (mq 0 rfl) (.inl rfl) (Nat.le_of_ble_eq_true rfl) (sqi 13) (fun us w hl h => ⟨(fits_mag (off := 4) h rfl).1, rfl⟩)
   ·exact q_one (F := fun v _ => v = .slice (some ⟨ad, off, none⟩) k c) hp (free_of rfl) gqi (sqi 14) (fun ρ w hc h => ⟨.pointer (some ⟨ad, off, none⟩), by simp [execOp, go_sem, h, hc, HJ.out], rfl⟩)
   ·exact q_loadWordS (bx := b5) (x0 := x0) hp (free_of rfl) gqi (mq 0 rfl) (.inl rfl) (sqi 15) (fun us w hl h => fits_word0 (off := 4) rfl HJ.out HY.out h) (fun _ => rfl)
   ·exact q_one (F := fun v _ => v = .int .u32 x0) hp (free_of rfl) gqi (sqi 16) (fun ρ w hc h => ⟨.int .u32 (1), by simp [execOp, go_sem, h, hc, WM.out], rfl⟩)
   ·exact q_one (F := fun v _ => v = .int .u32 (1)) hp (free_of rfl) gqi (sqi 17) (fun ρ w hc h => ⟨.bool false, by simp [execOp, go_sem, h, hc], rfl⟩)
   ·exact q_two (F := fun v _ => v = .bool false) (G := fun v _ => v = .bool false) hp (free_of rfl) trivial (sqi 11) (sqi 18) (fun ρ w hc h h' => ⟨_, by simp [execOp, go_sem, h, h'], rfl⟩)
   intro L vs w7 nb hL hC hn E7
   have e0 : vs 0 = .pointer (some ⟨b5, 4, none⟩) := hC 0 (by simp)
   have e2 : vs 2 = .bool true := hC 2 (by simp)
   have e3 : vs 3 = .bool false := hC 3 (by simp)
   have e4 : vs 4 = .bool false := hC 4 (by simp)
   have e5 : vs 5 = .pointer (some ⟨b5, 4, none⟩) := hC 5 (by simp)
   have e8 : vs 8 = .int .i64 (cmpI M (3)) := hC 8 (by simp)
   have e9 : vs 9 = .bool false := hC 9 (by simp)
   have e10 : vs 10 = .bool false := hC 10 (by simp)
   have e11 : vs 11 = .bool false := hC 11 (by simp)
   have e12 : vs 12 = .pointer (some ⟨b5, 4, none⟩) := hC 12 (by simp)
   have e13 : vs 13 = .pointer (some ⟨b5, 5, none⟩) := hC 13 (by simp)
   have e14 : vs 14 = .slice (some ⟨ad, off, none⟩) k c := hC 14 (by simp)
   have e15 : vs 15 = .pointer (some ⟨ad, off, none⟩) := hC 15 (by simp)
   have e16 : vs 16 = .int .u32 x0 := hC 16 (by simp)
   have e17 : vs 17 = .int .u32 (1) := hC 17 (by simp)
   have e18 : vs 18 = .bool false := hC 18 (by simp)
   have e19 : vs 19 = .bool false := hC 19 (by simp)
   have E : Fr w [(b5, 6, Fq.st [.n A, .n B, .r n (some ⟨ad, off, none⟩) k c xs M])] w7 := E7
   rw [lay_all hL]
   simp only [putAll, dstOf, List.length_cons, List.length_nil, Nat.zero_add, Nat.reduceAdd, List.getElem?_toArray, List.getElem?_cons_zero, List.getElem?_cons_succ, Option.bind_some, Act.put, List.setIfInBounds_toArray, List.set_cons_succ, List.set_cons_zero]
   rw [e0, e2, e3, e4, e5, e8, e9, e10, e11, e12, e13, e14, e15, e16, e17, e18, e19]
   generalize vs 1 = u7_1
   generalize vs 6 = u7_6
   generalize vs 7 = u7_7
   clear e0 e2 e3 e4 e5 e8 e9 e10 e11 e12 e13 e14 e15 e16 e17 e18 e19 hC hn E7 hL vs L nb
   clear T1 HJ HY WM
   go_upto_region 3 with (fail)
   cases ha : resB A M
   case false =>
    have HA := hidd ha
    rw [ha, Bool.false_and] at ht2
    subst ht2
    clear ha
    refine region_fr (C := [Fq.is (.pointer (some ⟨b5, 0, none⟩)), Fq.num A, Fq.is (.pointer (some ⟨b5, 4, none⟩)), Fq.num M, Fq.is (.bool false), Fq.is (.bool false), Fq.is (undef), Fq.is (undef), Fq.is (undef), Fq.is (undef), Fq.is (undef), Fq.is (.bool false), Fq.is (.bool false)]) (ks := [none]) (new := []) E rfl (by kernel_rfl) rfl rfl (fun hp => ⟨?_, ?_, ?_, ?_, ?_, ?_, ?_, ?_, ?_, ?_, ?_, ?_, ?_, trivial⟩) ?_
    ·exact q_addr (b := b5) (off := 0) (off' := 0) hp (free_of rfl) trivial (sqo 1) (fun ρ w h => by simp [execOp, go_sem, h]) (fun _ => rfl)
    ·exact q_loadSt (off := 0) (l := 2) (fs := [.n A, .n B, .r n (some ⟨ad, off, none⟩) k c xs M]) (gs := [.n A]) hp (free_of rfl) trivial (mq 0 rfl) (.inl rfl) rfl row_api_Int rfl (sqi 0) (fun v w h => st_num h)
    ·exact q_addr (b := b5) (off := 0) (off' := 4) hp (free_of rfl) trivial (sqo 1) (fun ρ w h => by simp [execOp, go_sem, h]) (fun _ => rfl)
    ·exact q_loadSt (off := 4) (l := 2) (fs := [.n A, .n B, .r n (some ⟨ad, off, none⟩) k c xs M]) (gs := [.r n (some ⟨ad, off, none⟩) k c xs M]) hp (free_of rfl) trivial (mq 0 rfl) (.inl rfl) rfl row_api_Int rfl (sqi 2) (fun v w h => st_numR h)
    ·exact q_call2 (F := (Fq.num A).P) (G := (Fq.num M).P) hp (free_of rfl) trivial (enq_f_algorist_point_isResidue) (sqi 1) (sqi 3) (fun v v' w h h' => exIsRes h h' HA.out)
    ·exact q_move hp (free_of rfl) trivial (sqi 4)
    ·exact q_skip hp (free_of rfl) rfl gqi (fun _ => rfl)
    ·exact q_skip hp (free_of rfl) rfl gqi (fun _ => rfl)
    ·exact q_skip hp (free_of rfl) rfl gqi (fun _ => rfl)
    ·exact q_skip hp (free_of rfl) rfl gqi (fun _ => rfl)
    ·exact q_skip hp (free_of rfl) rfl gqi (fun _ => rfl)
    ·exact q_two (F := fun v _ => v = .bool false) (G := fun v _ => v = .bool false) hp (free_of rfl) trivial (sqi 5) (sq_const (fun _ => rfl)) (fun ρ w hc h h' => ⟨_, by simp [execOp, go_sem, h, h'], rfl⟩)
    ·exact q_assign hp (free_of rfl) trivial (sqi 11)
    intro L vs w8 nb hL hC hn E8
    have e0 : vs 0 = .pointer (some ⟨b5, 0, none⟩) := hC 0 (by simp)
    have e2 : vs 2 = .pointer (some ⟨b5, 4, none⟩) := hC 2 (by simp)
    have e4 : vs 4 = .bool false := hC 4 (by simp)
    have e5 : vs 5 = .bool false := hC 5 (by simp)
    have e6 : vs 6 = undef := hC 6 (by simp)
    have e7 : vs 7 = undef := hC 7 (by simp)
    have e8 : vs 8 = undef := hC 8 (by simp)
    have e9 : vs 9 = undef := hC 9 (by simp)
    have e10 : vs 10 = undef := hC 10 (by simp)
    have e11 : vs 11 = .bool false := hC 11 (by simp)
    have e12 : vs 12 = .bool false := hC 12 (by simp)
    have E : Fr w [(b5, 6, Fq.st [.n A, .n B, .r n (some ⟨ad, off, none⟩) k c xs M])] w8 := E8
    rw [lay_all hL]
    simp only [putAll, dstOf, List.length_cons, List.length_nil, Nat.zero_add, Nat.reduceAdd, List.getElem?_toArray, List.getElem?_cons_zero, List.getElem?_cons_succ, Option.bind_some, Act.put, List.setIfInBounds_toArray, List.set_cons_succ, List.set_cons_zero]
    rw [e0, e2, e4, e5, e6, e7, e8, e9, e10, e11, e12]
    generalize vs 1 = u8_1
    generalize vs 3 = u8_3
    clear e0 e2 e4 e5 e6 e7 e8 e9 e10 e11 e12 hC hn E8 hL vs L nb
    clear HA
    clear B6 hM
    go_wp2
    refine bodyPost_ret (v := .bool false) ?_ rfl ⟨_, rfl, E.below, rfl⟩
    simp [results, Try.results35, go_sem]
   case true =>
    have HA := hidd ha
    rw [ha, Bool.true_and] at ht2
    subst ht2
    clear ha
    refine region_fr (C := [Fq.is (.pointer (some ⟨b5, 0, none⟩)), Fq.num A, Fq.is (.pointer (some ⟨b5, 4, none⟩)), Fq.num M, Fq.is (.bool true), Fq.is (.bool true), Fq.is (.pointer (some ⟨b5, 2, none⟩)), Fq.num B, Fq.is (.pointer (some ⟨b5, 4, none⟩)), Fq.num M, Fq.is (.bool (resB B M)), Fq.is (.bool (resB B M)), Fq.is (.bool (resB B M))]) (ks := [none]) (new := []) E rfl (by kernel_rfl) rfl rfl (fun hp => ⟨?_, ?_, ?_, ?_, ?_, ?_, ?_, ?_, ?_, ?_, ?_, ?_, ?_, trivial⟩) ?_
    ·exact q_addr (b := b5) (off := 0) (off' := 0) hp (free_of rfl) trivial (sqo 1) (fun ρ w h => by simp [execOp, go_sem, h]) (fun _ => rfl)
    ·exact q_loadSt (off := 0) (l := 2) (fs := [.n A, .n B, .r n (some ⟨ad, off, none⟩) k c xs M]) (gs := [.n A]) hp (free_of rfl) trivial (mq 0 rfl) (.inl rfl) rfl row_api_Int rfl (sqi 0) (fun v w h => st_num h)
    ·exact q_addr (b := b5) (off := 0) (off' := 4) hp (free_of rfl) trivial (sqo 1) (fun ρ w h => by simp [execOp, go_sem, h]) (fun _ => rfl)
    ·exact q_loadSt (off := 4) (l := 2) (fs := [.n A, .n B, .r n (some ⟨ad, off, none⟩) k c xs M]) (gs := [.r n (some ⟨ad, off, none⟩) k c xs M]) hp (free_of rfl) trivial (mq 0 rfl) (.inl rfl) rfl row_api_Int rfl (sqi 2) (fun v w h => st_numR h)
    ·exact q_call2 (F := (Fq.num A).P) (G := (Fq.num M).P) hp (free_of rfl) trivial (enq_f_algorist_point_isResidue) (sqi 1) (sqi 3) (fun v v' w h h' => exIsRes h h' HA.out)
    ·exact q_move hp (free_of rfl) trivial (sqi 4)
    ·exact q_addr (b := b5) (off := 0) (off' := 2) hp (free_of rfl) gqi (sqo 1) (fun ρ w h => by simp [execOp, go_sem, h]) (fun _ => rfl)
    ·exact q_loadSt (off := 2) (l := 2) (fs := [.n A, .n B, .r n (some ⟨ad, off, none⟩) k c xs M]) (gs := [.n B]) hp (free_of rfl) gqi (mq 0 rfl) (.inl rfl) rfl row_api_Int rfl (sqi 6) (fun v w h => st_num h)
    ·exact q_addr (b := b5) (off := 0) (off' := 4) hp (free_of rfl) gqi (sqo 1) (fun ρ w h => by simp [execOp, go_sem, h]) (fun _ => rfl)
    ·exact q_loadSt (off := 4) (l := 2) (fs := [.n A, .n B, .r n (some ⟨ad, off, none⟩) k c xs M]) (gs := [.r n (some ⟨ad, off, none⟩) k c xs M]) hp (free_of rfl) gqi (mq 0 rfl) (.inl rfl) rfl row_api_Int rfl (sqi 8) (fun v w h => st_numR h)
    ·exact q_call2 (F := (Fq.num B).P) (G := (Fq.num M).P) hp (free_of rfl) gqi (enq_f_algorist_point_isResidue) (sqi 7) (sqi 9) (fun v v' w h h' => exIsRes h h' rfl)
    ·exact q_two (F := fun v _ => v = .bool true) (G := fun v _ => v = .bool (resB B M)) hp (free_of rfl) trivial (sqi 5) (sqi 10) (fun ρ w hc h h' => ⟨_, by simp [execOp, go_sem, h, h'], rfl⟩)
    ·exact q_assign hp (free_of rfl) trivial (sqi 11)
    intro L vs w9 nb hL hC hn E9
    have e0 : vs 0 = .pointer (some ⟨b5, 0, none⟩) := hC 0 (by simp)
    have e2 : vs 2 = .pointer (some ⟨b5, 4, none⟩) := hC 2 (by simp)
    have e4 : vs 4 = .bool true := hC 4 (by simp)
    have e5 : vs 5 = .bool true := hC 5 (by simp)
    have e6 : vs 6 = .pointer (some ⟨b5, 2, none⟩) := hC 6 (by simp)
    have e8 : vs 8 = .pointer (some ⟨b5, 4, none⟩) := hC 8 (by simp)
    have e10 : vs 10 = .bool (resB B M) := hC 10 (by simp)
    have e11 : vs 11 = .bool (resB B M) := hC 11 (by simp)
    have e12 : vs 12 = .bool (resB B M) := hC 12 (by simp)
    have E : Fr w [(b5, 6, Fq.st [.n A, .n B, .r n (some ⟨ad, off, none⟩) k c xs M])] w9 := E9
    rw [lay_all hL]
    simp only [putAll, dstOf, List.length_cons, List.length_nil, Nat.zero_add, Nat.reduceAdd, List.getElem?_toArray, List.getElem?_cons_zero, List.getElem?_cons_succ, Option.bind_some, Act.put, List.setIfInBounds_toArray, List.set_cons_succ, List.set_cons_zero]
    rw [e0, e2, e4, e5, e6, e8, e10, e11, e12]
    generalize vs 1 = u9_1
    generalize vs 3 = u9_3
    generalize vs 7 = u9_7
    generalize vs 9 = u9_9
    clear e0 e2 e4 e5 e6 e8 e10 e11 e12 hC hn E9 hL vs L nb
    clear HA
    clear B6 hM
    go_wp2
    refine bodyPost_ret (v := .bool (resB B M)) ?_ rfl ⟨_, rfl, E.below, rfl⟩
    simp [results, Try.results35, go_sem]
 ·have T1 : Hid (cmpI M 3 ≤ 0) := by have := mt cmpIqgt.1 h3; show _ ≤ _; omega
  have ht2 : t = false := ht.symm.trans (by unfold curveB; rw [show decide (3 < M ∧ M % 2 = 1) = false from decide_eq_false fun e => by omega]; rfl)
  subst ht2
  clear ht
  clear hop h3
  obtain ⟨_, rfl, hf0⟩ := h
  have hF0 := hf0
  obtain ⟨y0_p0, y0_q0, _, rfl, _y0_n0, y0_p1, y0_q1, _, rfl, _y0_n1, _, rfl, _, rfl⟩ := hf0
  obtain ⟨w10, b10, hw10, hb10, hs10, E⟩ := fr_start w (F := Fq.st [.n A, .n B, .r n ao k c xs M]) (us := [y0_p0, y0_q0, y0_p1, y0_q1, .bool n, .slice ao k c]) 31 rfl (by simp) (hF0.tame) (show (Fq.st [.n A, .n B, .r n ao k c xs M]).P _ w from ⟨_, rfl, hF0⟩)
  go_enter Try.func35, Try.ntmps35
  go_upto_region 1 with (fail)
  rw [← hw10]
  rw [← hb10]
  clear hw10 hb10 hs10
  have B11 : Hid (ab ((3)) < pw 3) := ab_lit (by decide)
  refine region_fr (C := [Fq.is (.pointer (some ⟨b10, 4, none⟩)), Fq.num M, Fq.is (.bool true), Fq.is (.bool false), Fq.is (.bool false), Fq.is (.pointer (some ⟨b10, 4, none⟩)), Fq.num M, Fq.num (3), Fq.is (.int .i64 (cmpI M (3))), Fq.is (.bool true), Fq.is (.bool true), Fq.is (.bool true), Fq.is (undef), Fq.is (undef), Fq.is (undef), Fq.is (undef), Fq.is (undef), Fq.is (undef), Fq.is (undef), Fq.is (.bool true)]) (ks := [none]) (new := []) E rfl (by kernel_rfl) rfl rfl (fun hp => ⟨?_, ?_, ?_, ?_, ?_, ?_, ?_, ?_, ?_, ?_, ?_, ?_, ?_, ?_, ?_, ?_, ?_, ?_, ?_, ?_, trivial⟩) ?_
  ·exact q_addr (b := b10) (off := 0) (off' := 4) hp (free_of rfl) trivial (sqo 1) (fun ρ w h => by simp [execOp, go_sem, h]) (fun _ => rfl)
  ·exact q_loadSt (off := 4) (l := 2) (fs := [.n A, .n B, .r n ao k c xs M]) (gs := [.r n ao k c xs M]) hp (free_of rfl) trivial (mq 0 rfl) (.inl rfl) rfl row_api_Int rfl (sqi 0) (fun v w h => st_numR h)
  ·exact q_call1 (F := (Fq.num M).P) hp (free_of rfl) trivial (enq_Valid) (sqi 1) (fun v w h => exValidV h)
  ·exact q_one (F := fun v _ => v = .bool true) hp (free_of rfl) trivial (sqi 2) (fun ρ w _ h => ⟨.bool false, by simp [execOp, go_sem, h], rfl⟩)
  ·exact q_move hp (free_of rfl) trivial (sqi 3)
  ·exact q_addr (b := b10) (off := 0) (off' := 4) hp (free_of rfl) gqi (sqo 1) (fun ρ w h => by simp [execOp, go_sem, h]) (fun _ => rfl)
  ·exact q_loadSt (off := 4) (l := 2) (fs := [.n A, .n B, .r n ao k c xs M]) (gs := [.r n ao k c xs M]) hp (free_of rfl) gqi (mq 0 rfl) (.inl rfl) rfl row_api_Int rfl (sqi 5) (fun v w h => st_numR h)
  ·exact q_call1 (F := (Fq.is (.int .i64 3)).P) hp (free_of rfl) gqi (enq_Of) (sq_const (fun _ => rfl)) (fun v w h => (by subst h; exact OfK w (3) (by omega) (by omega)))
  ·exact q_call2 (F := (Fq.num M).P) (G := (Fq.num (3)).P) hp (free_of rfl) gqi (enq_Cmp) (sqi 6) (sqi 7) (fun v v' w h h' => exCmp h h')
  ·exact q_one (F := fun v _ => v = .int .i64 (cmpI M (3))) hp (free_of rfl) gqi (sqi 8) (fun ρ w hc h => ⟨.bool true, by simp [execOp, go_sem, h, hc, T1.out], rfl⟩)
  ·exact q_two (F := fun v _ => v = .bool false) (G := fun v _ => v = .bool true) hp (free_of rfl) trivial (sqi 4) (sqi 9) (fun ρ w hc h h' => ⟨_, by simp [execOp, go_sem, h, h'], rfl⟩)
  ·exact q_move hp (free_of rfl) trivial (sqi 10)
  ·exact q_skip hp (free_of rfl) rfl gqi (fun _ => rfl)
  ·exact q_skip hp (free_of rfl) rfl gqi (fun _ => rfl)
  ·exact q_skip hp (free_of rfl) rfl gqi (fun _ => rfl)
  ·exact q_skip hp (free_of rfl) rfl gqi (fun _ => rfl)
  ·exact q_skip hp (free_of rfl) rfl gqi (fun _ => rfl)
  ·exact q_skip hp (free_of rfl) rfl gqi (fun _ => rfl)
  ·exact q_skip hp (free_of rfl) rfl gqi (fun _ => rfl)
  ·exact q_two (F := fun v _ => v = .bool true) (G := fun v _ => v = .bool true) hp (free_of rfl) trivial (sqi 11) (sq_const (fun _ => rfl)) (fun ρ w hc h h' => ⟨_, by simp [execOp, go_sem, h, h'], rfl⟩)
  intro L vs w12 nb hL hC hn E12
  have e0 : vs 0 = .pointer (some ⟨b10, 4, none⟩) := hC 0 (by simp)
  have e2 : vs 2 = .bool true := hC 2 (by simp)
  have e3 : vs 3 = .bool false := hC 3 (by simp)
  have e4 : vs 4 = .bool false := hC 4 (by simp)
  have e5 : vs 5 = .pointer (some ⟨b10, 4, none⟩) := hC 5 (by simp)
  have e8 : vs 8 = .int .i64 (cmpI M (3)) := hC 8 (by simp)
  have e9 : vs 9 = .bool true := hC 9 (by simp)
  have e10 : vs 10 = .bool true := hC 10 (by simp)
  have e11 : vs 11 = .bool true := hC 11 (by simp)
  have e12 : vs 12 = undef := hC 12 (by simp)
  have e13 : vs 13 = undef := hC 13 (by simp)
  have e14 : vs 14 = undef := hC 14 (by simp)
  have e15 : vs 15 = undef := hC 15 (by simp)
  have e16 : vs 16 = undef := hC 16 (by simp)
  have e17 : vs 17 = undef := hC 17 (by simp)
  have e18 : vs 18 = undef := hC 18 (by simp)
  have e19 : vs 19 = .bool true := hC 19 (by simp)
  have E : Fr w [(b10, 6, Fq.st [.n A, .n B, .r n ao k c xs M])] w12 := E12
  rw [lay_all hL]
  simp only [putAll, dstOf, List.length_cons, List.length_nil, Nat.zero_add, Nat.reduceAdd, List.getElem?_toArray, List.getElem?_cons_zero, List.getElem?_cons_succ, Option.bind_some, Act.put, List.setIfInBounds_toArray, List.set_cons_succ, List.set_cons_zero]
  rw [e0, e2, e3, e4, e5, e8, e9, e10, e11, e12, e13, e14, e15, e16, e17, e18, e19]
  generalize vs 1 = u12_1
  generalize vs 6 = u12_6
  generalize vs 7 = u12_7
  clear e0 e2 e3 e4 e5 e8 e9 e10 e11 e12 e13 e14 e15 e16 e17 e18 e19 hC hn E12 hL vs L nb
  clear T1
  go_upto_region 2 with (fail)
  refine region_fr (C := [Fq.is (.bool false)]) (ks := [none]) (new := []) E rfl (by kernel_rfl) rfl rfl (fun hp => ⟨?_, trivial⟩) ?_
  ·exact q_assign hp (free_of rfl) trivial (sq_const (fun _ => rfl))
  intro L vs w13 nb hL hC hn E13
  have e0 : vs 0 = .bool false := hC 0 (by simp)
  have E : Fr w [(b10, 6, Fq.st [.n A, .n B, .r n ao k c xs M])] w13 := E13
  rw [lay_all hL]
  simp only [putAll, dstOf, List.length_cons, List.length_nil, Nat.zero_add, List.getElem?_toArray, List.getElem?_cons_zero, Option.bind_some, Act.put, List.setIfInBounds_toArray, List.set_cons_succ, List.set_cons_zero]
  rw [e0]
  clear e0 hC hn E13 hL vs L nb
  clear B11 hM
  go_wp2
  refine bodyPost_ret (v := .bool false) ?_ rfl ⟨_, rfl, E.below, rfl⟩
  simp [results, Try.results35, go_sem]

set_option maxRecDepth 100000 in
set_option maxHeartbeats 4000000 in
theorem exIsPointI {w : World} {v v' : Value} {A B M x y : Int} (h : (Fq.st [.n A, .n B, .n M]).P v w) (h' : (Fq.st [.n x, .n y, .v (.bool true)]).P v' w) (hM : ab M < pw 5) (hA : ab A < pw 5) (hB : ab B < pw 5) (hx : ab x < pw 5) (hy : ab y < pw 5) {t : Bool} (ht : decide (x = 0 ∧ y = 0) = t) :
  Calls Try.prog 36 #[v, v'] w fun e w' => ∃ v', e = .returned v' ∧ Below w.heap.size w w' ∧ v' = .bool t := by
 replace hM := hidd hM
 replace hA := hidd hA
 replace hB := hidd hB
 replace hx := hidd hx
 replace hy := hidd hy
 obtain ⟨_, rfl, hf0⟩ := h
 have hF0 := hf0
 obtain ⟨y0_p0, y0_q0, _, rfl, _y0_n0, y0_p1, y0_q1, _, rfl, _y0_n1, y0_p2, y0_q2, _, rfl, _y0_n2, rfl⟩ := hf0
 obtain ⟨_, rfl, hf1⟩ := h'
 have hF1 := hf1
 obtain ⟨y1_p0, y1_q0, _, rfl, _y1_n0, y1_p1, y1_q1, _, rfl, _y1_n1, _, rfl, _, rfl⟩ := hf1
 obtain ⟨w1, b1, hw1, hb1, hs1, E⟩ := fr_start w (F := Fq.st [.n A, .n B, .n M]) (us := [y0_p0, y0_q0, y0_p1, y0_q1, y0_p2, y0_q2]) 31 rfl (by simp) (hF0.tame) (show (Fq.st [.n A, .n B, .n M]).P _ w from ⟨_, rfl, hF0⟩)
 obtain ⟨w2, b2, hw2, hb2, hs2, E⟩ := fr_more E hs1 (F := Fq.st [.n x, .n y, .v (.bool true)]) (us := [y1_p0, y1_q0, y1_p1, y1_q1, .bool true]) 37 rfl (by simp) (hF1.tame) ((Fq.st [.n x, .n y, .v (.bool true)]).mono (show (Fq.st [.n x, .n y, .v (.bool true)]).P _ w from ⟨_, rfl, hF1⟩) E.below)
 go_enter Try.func36, Try.ntmps36
 go_upto_region 1 with (fail)
 rw [← hw1]
 rw [← hw2]
 rw [← hb2]
 rw [← hb1]
 clear hw1 hw2 hb1 hb2 hs2 hs1
 refine region_fr (C := [Fq.is (.pointer (some ⟨b2, 4, none⟩)), Fq.is (.bool true)]) (ks := [none, none]) (new := []) E rfl (by kernel_rfl) rfl rfl (fun hp => ⟨?_, ?_, trivial⟩) ?_
 ·exact q_addr (b := b2) (off := 0) (off' := 4) hp (free_of rfl) trivial (sqo 3) (fun ρ w h => by simp [execOp, go_sem, h]) (fun _ => rfl)
 ·exact q_load1 (off := 4) (fs := [.n x, .n y, .v (.bool true)]) (u := .bool true) hp (free_of rfl) trivial (mq 0 rfl) (.inl rfl) rfl rfl (fun ρ w b h1 h2 => by simp [execOp, go_sem, h1, h2]) (sqi 0) (fun _ => rfl)
 intro L vs w3 nb hL hC hn E3
 have e0 : vs 0 = .pointer (some ⟨b2, 4, none⟩) := hC 0 (by simp)
 have e1 : vs 1 = .bool true := hC 1 (by simp)
 have E : Fr w [(b2, 5, Fq.st [.n x, .n y, .v (.bool true)]), (b1, 6, Fq.st [.n A, .n B, .n M])] w3 := E3
 rw [lay_all hL]
 simp only [putAll, dstOf, List.length_cons, List.length_nil, Nat.zero_add, Nat.reduceAdd, List.getElem?_toArray, List.getElem?_cons_zero, List.getElem?_cons_succ, Option.bind_some, Act.put, List.setIfInBounds_toArray, List.set_cons_succ, List.set_cons_zero]
 rw [e0, e1]
 clear e0 e1 hC hn E3 hL vs L nb
 go_upto_region 2 with (fail)
 by_cases h0 : x = 0
 ·have ht2 : t = decide (y = 0) := ht.symm.trans (by rw [decide_eq_decide.2 (show (x = 0 ∧ y = 0) ↔ y = 0 from ⟨fun e => e.2, fun e => ⟨h0, e⟩⟩)])
  subst ht2
  clear ht
  have HX := hidd (decide_eq_true h0)
  clear h0
  refine region_fr (C := [Fq.is (.pointer (some ⟨b2, 0, none⟩)), Fq.num x, Fq.is (.bool true), Fq.is (.bool true), Fq.is (.pointer (some ⟨b2, 2, none⟩)), Fq.num y, Fq.is (.bool (decide (y = 0))), Fq.is (.bool (decide (y = 0))), Fq.is (.bool (decide (y = 0)))]) (ks := [none, none]) (new := []) E rfl (by kernel_rfl) rfl rfl (fun hp => ⟨?_, ?_, ?_, ?_, ?_, ?_, ?_, ?_, ?_, trivial⟩) ?_
  ·exact q_addr (b := b2) (off := 0) (off' := 0) hp (free_of rfl) trivial (sqo 3) (fun ρ w h => by simp [execOp, go_sem, h]) (fun _ => rfl)
  ·exact q_loadSt (off := 0) (l := 2) (fs := [.n x, .n y, .v (.bool true)]) (gs := [.n x]) hp (free_of rfl) trivial (mq 0 rfl) (.inl rfl) rfl row_api_Int rfl (sqi 0) (fun v w h => st_num h)
  ·exact q_call1 (F := (Fq.num x).P) hp (free_of rfl) trivial (enq_f_algorist_point_isZero) (sqi 1) (fun v w h => exIsZero h HX.out)
  ·exact q_move hp (free_of rfl) trivial (sqi 2)
  ·exact q_addr (b := b2) (off := 0) (off' := 2) hp (free_of rfl) gqi (sqo 3) (fun ρ w h => by simp [execOp, go_sem, h]) (fun _ => rfl)
  ·exact q_loadSt (off := 2) (l := 2) (fs := [.n x, .n y, .v (.bool true)]) (gs := [.n y]) hp (free_of rfl) gqi (mq 0 rfl) (.inl rfl) rfl row_api_Int rfl (sqi 4) (fun v w h => st_num h)
  ·exact q_call1 (F := (Fq.num y).P) hp (free_of rfl) gqi (enq_f_algorist_point_isZero) (sqi 5) (fun v w h => exIsZero h rfl)
  ·exact q_two (F := fun v _ => v = .bool true) (G := fun v _ => v = .bool (decide (y = 0))) hp (free_of rfl) trivial (sqi 3) (sqi 6) (fun ρ w hc h h' => ⟨_, by simp [execOp, go_sem, h, h'], rfl⟩)
  ·exact q_assign hp (free_of rfl) trivial (sqi 7)
  intro L vs w4 nb hL hC hn E4
  have e0 : vs 0 = .pointer (some ⟨b2, 0, none⟩) := hC 0 (by simp)
  have e2 : vs 2 = .bool true := hC 2 (by simp)
  have e3 : vs 3 = .bool true := hC 3 (by simp)
  have e4 : vs 4 = .pointer (some ⟨b2, 2, none⟩) := hC 4 (by simp)
  have e6 : vs 6 = .bool (decide (y = 0)) := hC 6 (by simp)
  have e7 : vs 7 = .bool (decide (y = 0)) := hC 7 (by simp)
  have e8 : vs 8 = .bool (decide (y = 0)) := hC 8 (by simp)
  have E : Fr w [(b2, 5, Fq.st [.n x, .n y, .v (.bool true)]), (b1, 6, Fq.st [.n A, .n B, .n M])] w4 := E4
  rw [lay_all hL]
  simp only [putAll, dstOf, List.length_cons, List.length_nil, Nat.zero_add, Nat.reduceAdd, List.getElem?_toArray, List.getElem?_cons_zero, List.getElem?_cons_succ, Option.bind_some, Act.put, List.setIfInBounds_toArray, List.set_cons_succ, List.set_cons_zero]
  rw [e0, e2, e3, e4, e6, e7, e8]
  generalize vs 1 = u4_1
  generalize vs 5 = u4_5
  clear e0 e2 e3 e4 e6 e7 e8 hC hn E4 hL vs L nb
  clear HX
  clear hM hA hB hx hy
  go_wp2
  refine bodyPost_ret (v := .bool (decide (y = 0))) ?_ rfl ⟨_, rfl, E.below, rfl⟩
  simp [results, Try.results36, go_sem]
 ·have ht2 : t = false := ht.symm.trans (decide_eq_false fun e => h0 e.1)
  subst ht2
  clear ht
  have HX := hidd (decide_eq_false h0)
  clear h0
  refine region_fr (C := [Fq.is (.pointer (some ⟨b2, 0, none⟩)), Fq.num x, Fq.is (.bool false), Fq.is (.bool false), Fq.is (undef), Fq.is (undef), Fq.is (undef), Fq.is (.bool false), Fq.is (.bool false)]) (ks := [none, none]) (new := []) E rfl (by kernel_rfl) rfl rfl (fun hp => ⟨?_, ?_, ?_, ?_, ?_, ?_, ?_, ?_, ?_, trivial⟩) ?_
  ·exact q_addr (b := b2) (off := 0) (off' := 0) hp (free_of rfl) trivial (sqo 3) (fun ρ w h => by simp [execOp, go_sem, h]) (fun _ => rfl)
  ·exact q_loadSt (off := 0) (l := 2) (fs := [.n x, .n y, .v (.bool true)]) (gs := [.n x]) hp (free_of rfl) trivial (mq 0 rfl) (.inl rfl) rfl row_api_Int rfl (sqi 0) (fun v w h => st_num h)
  ·exact q_call1 (F := (Fq.num x).P) hp (free_of rfl) trivial (enq_f_algorist_point_isZero) (sqi 1) (fun v w h => exIsZero h HX.out)
  ·exact q_move hp (free_of rfl) trivial (sqi 2)
  ·exact q_skip hp (free_of rfl) rfl gqi (fun _ => rfl)
  ·exact q_skip hp (free_of rfl) rfl gqi (fun _ => rfl)
  ·exact q_skip hp (free_of rfl) rfl gqi (fun _ => rfl)
  ·exact q_two (F := fun v _ => v = .bool false) (G := fun v _ => v = .bool false) hp (free_of rfl) trivial (sqi 3) (sq_const (fun _ => rfl)) (fun ρ w hc h h' => ⟨_, by simp [execOp, go_sem, h, h'], rfl⟩)
  ·exact q_assign hp (free_of rfl) trivial (sqi 7)
  intro L vs w5 nb hL hC hn E5
  have e0 : vs 0 = .pointer (some ⟨b2, 0, none⟩) := hC 0 (by simp)
  have e2 : vs 2 = .bool false := hC 2 (by simp)
  have e3 : vs 3 = .bool false := hC 3 (by simp)
  have e4 : vs 4 = undef := hC 4 (by simp)
  have e5 : vs 5 = undef := hC 5 (by simp)
  have e6 : vs 6 = undef := hC 6 (by simp)
  have e7 : vs 7 = .bool false := hC 7 (by simp)
  have e8 : vs 8 = .bool false := hC 8 (by simp)
  have E : Fr w [(b2, 5, Fq.st [.n x, .n y, .v (.bool true)]), (b1, 6, Fq.st [.n A, .n B, .n M])] w5 := E5
  rw [lay_all hL]
  simp only [putAll, dstOf, List.length_cons, List.length_nil, Nat.zero_add, Nat.reduceAdd, List.getElem?_toArray, List.getElem?_cons_zero, List.getElem?_cons_succ, Option.bind_some, Act.put, List.setIfInBounds_toArray, List.set_cons_succ, List.set_cons_zero]
  rw [e0, e2, e3, e4, e5, e6, e7, e8]
  generalize vs 1 = u5_1
  clear e0 e2 e3 e4 e5 e6 e7 e8 hC hn E5 hL vs L nb
  clear HX
  clear hM hA hB hx hy
  go_wp2
  refine bodyPost_ret (v := .bool false) ?_ rfl ⟨_, rfl, E.below, rfl⟩
  simp [results, Try.results36, go_sem]

set_option maxRecDepth 100000 in
set_option maxHeartbeats 4000000 in
theorem exIsPointF {w : World} {v v' : Value} {A B M x y : Int} (h : (Fq.st [.n A, .n B, .n M]).P v w) (h' : (Fq.st [.n x, .n y, .v (.bool false)]).P v' w) (hM : ab M < pw 5) (hA : ab A < pw 5) (hB : ab B < pw 5) (hx : ab x < pw 5) (hy : ab y < pw 5) (hM0 : 0 < M) {t : Bool} (ht : (resB x M && (resB y M && decide ((y * y - (((x * x) + A) * x + B)) % M = 0))) = t) :
  Calls Try.prog 36 #[v, v'] w fun e w' => ∃ v', e = .returned v' ∧ Below w.heap.size w w' ∧ v' = .bool t := by
 replace hM := hidd hM
 replace hA := hidd hA
 replace hB := hidd hB
 replace hx := hidd hx
 replace hy := hidd hy
 obtain ⟨_, rfl, hf0⟩ := h
 have hF0 := hf0
 obtain ⟨y0_p0, y0_q0, _, rfl, _y0_n0, y0_p1, y0_q1, _, rfl, _y0_n1, y0_p2, y0_q2, _, rfl, _y0_n2, rfl⟩ := hf0
 obtain ⟨_, rfl, hf1⟩ := h'
 have hF1 := hf1
 obtain ⟨y1_p0, y1_q0, _, rfl, _y1_n0, y1_p1, y1_q1, _, rfl, _y1_n1, _, rfl, _, rfl⟩ := hf1
 obtain ⟨w1, b1, hw1, hb1, hs1, E⟩ := fr_start w (F := Fq.st [.n A, .n B, .n M]) (us := [y0_p0, y0_q0, y0_p1, y0_q1, y0_p2, y0_q2]) 31 rfl (by simp) (hF0.tame) (show (Fq.st [.n A, .n B, .n M]).P _ w from ⟨_, rfl, hF0⟩)
 obtain ⟨w2, b2, hw2, hb2, hs2, E⟩ := fr_more E hs1 (F := Fq.st [.n x, .n y, .v (.bool false)]) (us := [y1_p0, y1_q0, y1_p1, y1_q1, .bool false]) 37 rfl (by simp) (hF1.tame) ((Fq.st [.n x, .n y, .v (.bool false)]).mono (show (Fq.st [.n x, .n y, .v (.bool false)]).P _ w from ⟨_, rfl, hF1⟩) E.below)
 go_enter Try.func36, Try.ntmps36
 go_upto_region 1 with (fail)
 rw [← hw1]
 rw [← hw2]
 rw [← hb2]
 rw [← hb1]
 clear hw1 hw2 hb1 hb2 hs2 hs1
 have HM0 := hidd hM0
 clear hM0
 refine region_fr (C := [Fq.is (.pointer (some ⟨b2, 4, none⟩)), Fq.is (.bool false)]) (ks := [none, none]) (new := []) E rfl (by kernel_rfl) rfl rfl (fun hp => ⟨?_, ?_, trivial⟩) ?_
 ·exact q_addr (b := b2) (off := 0) (off' := 4) hp (free_of rfl) trivial (sqo 3) (fun ρ w h => by simp [execOp, go_sem, h]) (fun _ => rfl)
 ·exact q_load1 (off := 4) (fs := [.n x, .n y, .v (.bool false)]) (u := .bool false) hp (free_of rfl) trivial (mq 0 rfl) (.inl rfl) rfl rfl (fun ρ w b h1 h2 => by simp [execOp, go_sem, h1, h2]) (sqi 0) (fun _ => rfl)
 intro L vs w3 nb hL hC hn E3
 have e0 : vs 0 = .pointer (some ⟨b2, 4, none⟩) := hC 0 (by simp)
 have e1 : vs 1 = .bool false := hC 1 (by simp)
 have E : Fr w [(b2, 5, Fq.st [.n x, .n y, .v (.bool false)]), (b1, 6, Fq.st [.n A, .n B, .n M])] w3 := E3
 rw [lay_all hL]
 simp only [putAll, dstOf, List.length_cons, List.length_nil, Nat.zero_add, Nat.reduceAdd, List.getElem?_toArray, List.getElem?_cons_zero, List.getElem?_cons_succ, Option.bind_some, Act.put, List.setIfInBounds_toArray, List.set_cons_succ, List.set_cons_zero]
 rw [e0, e1]
 clear e0 e1 hC hn E3 hL vs L nb
 go_upto_region 3 with (fail)
 by_cases hx0 : resB x M = true
 ·by_cases hy0 : resB y M = true
  ·have ht2 : t = decide ((y * y - (((x * x) + A) * x + B)) % M = 0) := ht.symm.trans (by rw [hx0, hy0, Bool.true_and, Bool.true_and])
   subst ht2
   clear ht
   have HX := hidd hx0
   have HY := hidd hy0
   clear hx0 hy0
   refine region_fr (C := [Fq.is (.pointer (some ⟨b2, 0, none⟩)), Fq.num x, Fq.is (.pointer (some ⟨b1, 4, none⟩)), Fq.num M, Fq.is (.bool true), Fq.is (.bool false), Fq.is (.bool false), Fq.is (.pointer (some ⟨b2, 2, none⟩)), Fq.num y, Fq.is (.pointer (some ⟨b1, 4, none⟩)), Fq.num M, Fq.is (.bool true), Fq.is (.bool false), Fq.is (.bool false)]) (ks := [none, none]) (new := []) E rfl (by kernel_rfl) rfl rfl (fun hp => ⟨?_, ?_, ?_, ?_, ?_, ?_, ?_, ?_, ?_, ?_, ?_, ?_, ?_, ?_, trivial⟩) ?_
   ·exact q_addr (b := b2) (off := 0) (off' := 0) hp (free_of rfl) trivial (sqo 3) (fun ρ w h => by simp [execOp, go_sem, h]) (fun _ => rfl)
   ·exact q_loadSt (off := 0) (l := 2) (fs := [.n x, .n y, .v (.bool false)]) (gs := [.n x]) hp (free_of rfl) trivial (mq 0 rfl) (.inl rfl) rfl row_api_Int rfl (sqi 0) (fun v w h => st_num h)
   ·exact q_addr (b := b1) (off := 0) (off' := 4) hp (free_of rfl) trivial (sqo 2) (fun ρ w h => by simp [execOp, go_sem, h]) (fun _ => rfl)
   ·exact q_loadSt (off := 4) (l := 2) (fs := [.n A, .n B, .n M]) (gs := [.n M]) hp (free_of rfl) trivial (mq 1 rfl) (.inl rfl) rfl row_api_Int rfl (sqi 2) (fun v w h => st_num h)
   ·exact q_call2 (F := (Fq.num x).P) (G := (Fq.num M).P) hp (free_of rfl) trivial (enq_f_algorist_point_isResidue) (sqi 1) (sqi 3) (fun v v' w h h' => exIsRes h h' HX.out)
   ·exact q_one (F := fun v _ => v = .bool true) hp (free_of rfl) trivial (sqi 4) (fun ρ w _ h => ⟨.bool false, by simp [execOp, go_sem, h], rfl⟩)
   ·exact q_move hp (free_of rfl) trivial (sqi 5)
   ·exact q_addr (b := b2) (off := 0) (off' := 2) hp (free_of rfl) gqi (sqo 3) (fun ρ w h => by simp [execOp, go_sem, h]) (fun _ => rfl)
   ·exact q_loadSt (off := 2) (l := 2) (fs := [.n x, .n y, .v (.bool false)]) (gs := [.n y]) hp (free_of rfl) gqi (mq 0 rfl) (.inl rfl) rfl row_api_Int rfl (sqi 7) (fun v w h => st_num h)
   ·exact q_addr (b := b1) (off := 0) (off' := 4) hp (free_of rfl) gqi (sqo 2) (fun ρ w h => by simp [execOp, go_sem, h]) (fun _ => rfl)
   ·exact q_loadSt (off := 4) (l := 2) (fs := [.n A, .n B, .n M]) (gs := [.n M]) hp (free_of rfl) gqi (mq 1 rfl) (.inl rfl) rfl row_api_Int rfl (sqi 9) (fun v w h => st_num h)
   ·exact q_call2 (F := (Fq.num y).P) (G := (Fq.num M).P) hp (free_of rfl) gqi (enq_f_algorist_point_isResidue) (sqi 8) (sqi 10) (fun v v' w h h' => exIsRes h h' HY.out)
   ·exact q_one (F := fun v _ => v = .bool true) hp (free_of rfl) gqi (sqi 11) (fun ρ w _ h => ⟨.bool false, by simp [execOp, go_sem, h], rfl⟩)
   ·exact q_two (F := fun v _ => v = .bool false) (G := fun v _ => v = .bool false) hp (free_of rfl) trivial (sqi 6) (sqi 12) (fun ρ w hc h h' => ⟨_, by simp [execOp, go_sem, h, h'], rfl⟩)
   intro L vs w4 nb hL hC hn E4
   have e0 : vs 0 = .pointer (some ⟨b2, 0, none⟩) := hC 0 (by simp)
   have e2 : vs 2 = .pointer (some ⟨b1, 4, none⟩) := hC 2 (by simp)
   have e4 : vs 4 = .bool true := hC 4 (by simp)
   have e5 : vs 5 = .bool false := hC 5 (by simp)
   have e6 : vs 6 = .bool false := hC 6 (by simp)
   have e7 : vs 7 = .pointer (some ⟨b2, 2, none⟩) := hC 7 (by simp)
   have e9 : vs 9 = .pointer (some ⟨b1, 4, none⟩) := hC 9 (by simp)
   have e11 : vs 11 = .bool true := hC 11 (by simp)
   have e12 : vs 12 = .bool false := hC 12 (by simp)
   have e13 : vs 13 = .bool false := hC 13 (by simp)
   have E : Fr w [(b2, 5, Fq.st [.n x, .n y, .v (.bool false)]), (b1, 6, Fq.st [.n A, .n B, .n M])] w4 := E4
   rw [lay_all hL]
   simp only [putAll, dstOf, List.length_cons, List.length_nil, Nat.zero_add, Nat.reduceAdd, List.getElem?_toArray, List.getElem?_cons_zero, List.getElem?_cons_succ, Option.bind_some, Act.put, List.setIfInBounds_toArray, List.set_cons_succ, List.set_cons_zero]
   rw [e0, e2, e4, e5, e6, e7, e9, e11, e12, e13]
   generalize vs 1 = u4_1
   generalize vs 3 = u4_3
   generalize vs 8 = u4_8
   generalize vs 10 = u4_10
   clear e0 e2 e4 e5 e6 e7 e9 e11 e12 e13 hC hn E4 hL vs L nb
   clear HX HY
   go_upto_region 5 with (fail)
   have B5 : Hid (ab ((x * x)) < pw 10) := ab_mulM hx.out hx.out (by omega)
   have B6 : Hid (ab (((x * x) + A)) < pw 11) := ab_addB B5.out hA.out (by omega) (by omega)
   have B7 : Hid (ab ((((x * x) + A) * x)) < pw 16) := ab_mulM B6.out hx.out (by omega)
   refine region_fr (C := [Fq.is (.pointer (some ⟨b2, 0, none⟩)), Fq.num x, Fq.is (.pointer (some ⟨b2, 0, none⟩)), Fq.num x, Fq.num (x * x), Fq.is (.pointer (some ⟨b1, 0, none⟩)), Fq.num A, Fq.num ((x * x) + A), Fq.is (.pointer (some ⟨b2, 0, none⟩)), Fq.num x, Fq.num (((x * x) + A) * x), Fq.any, Fq.any]) (ks := [none, none]) (new := [⟨11, 12, 2, Fq.num 0, Fq.num (((x * x) + A) * x), none⟩]) E rfl (by kernel_rfl) rfl rfl (fun hp => ⟨?_, ?_, ?_, ?_, ?_, ?_, ?_, ?_, ?_, ?_, ?_, ?_, ?_, trivial⟩) ?_
   ·exact q_addr (b := b2) (off := 0) (off' := 0) hp (free_of rfl) trivial (sqo 3) (fun ρ w h => by simp [execOp, go_sem, h]) (fun _ => rfl)
   ·exact q_loadSt (off := 0) (l := 2) (fs := [.n x, .n y, .v (.bool false)]) (gs := [.n x]) hp (free_of rfl) trivial (mq 0 rfl) (.inl rfl) rfl row_api_Int rfl (sqi 0) (fun v w h => st_num h)
   ·exact q_addr (b := b2) (off := 0) (off' := 0) hp (free_of rfl) trivial (sqo 3) (fun ρ w h => by simp [execOp, go_sem, h]) (fun _ => rfl)
   ·exact q_loadSt (off := 0) (l := 2) (fs := [.n x, .n y, .v (.bool false)]) (gs := [.n x]) hp (free_of rfl) trivial (mq 0 rfl) (.inl rfl) rfl row_api_Int rfl (sqi 2) (fun v w h => st_num h)
   ·exact q_call2 (F := (Fq.num x).P) (G := (Fq.num x).P) hp (free_of rfl) trivial (enq_Mul) (sqi 1) (sqi 3) (fun v v' w h h' => exK (MulV h h') B5.out (by omega))
   ·exact q_addr (b := b1) (off := 0) (off' := 0) hp (free_of rfl) trivial (sqo 2) (fun ρ w h => by simp [execOp, go_sem, h]) (fun _ => rfl)
   ·exact q_loadSt (off := 0) (l := 2) (fs := [.n A, .n B, .n M]) (gs := [.n A]) hp (free_of rfl) trivial (mq 1 rfl) (.inl rfl) rfl row_api_Int rfl (sqi 5) (fun v w h => st_num h)
   ·exact q_call2 (F := (Fq.num (x * x)).P) (G := (Fq.num A).P) hp (free_of rfl) trivial (enq_Add) (sqi 4) (sqi 6) (fun v v' w h h' => exK (AddV h h') B6.out (by omega))
   ·exact q_addr (b := b2) (off := 0) (off' := 0) hp (free_of rfl) trivial (sqo 3) (fun ρ w h => by simp [execOp, go_sem, h]) (fun _ => rfl)
   ·exact q_loadSt (off := 0) (l := 2) (fs := [.n x, .n y, .v (.bool false)]) (gs := [.n x]) hp (free_of rfl) trivial (mq 0 rfl) (.inl rfl) rfl row_api_Int rfl (sqi 8) (fun v w h => st_num h)
   ·exact q_call2 (F := (Fq.num ((x * x) + A)).P) (G := (Fq.num x).P) hp (free_of rfl) trivial (enq_Mul) (sqi 7) (sqi 9) (fun v v' w h h' => exK (MulV h h') B7.out (by omega))
   ·exact q_allocInt hp (mq 0 rfl) rfl rfl rfl rfl (Nat.ne_of_beq_eq_false rfl) (fun _ _ => trivial) (old_ne rfl) (newk_ne rfl) (fun w => Num.zero w)
   ·exact q_storeNewInt hp (mq 0 rfl) rfl rfl rfl (own_ptr rfl rfl (by simp) rfl) (sq_in 10 rfl rfl (by simp) rfl (fun v w h => intV_num h)) (fun _ _ => trivial) (old_ne rfl) (newi_ne rfl)
   intro L vs w8 nb hL hC hn E8
   have e0 : vs 0 = .pointer (some ⟨b2, 0, none⟩) := hC 0 (by simp)
   have e2 : vs 2 = .pointer (some ⟨b2, 0, none⟩) := hC 2 (by simp)
   have e5 : vs 5 = .pointer (some ⟨b1, 0, none⟩) := hC 5 (by simp)
   have e8 : vs 8 = .pointer (some ⟨b2, 0, none⟩) := hC 8 (by simp)
   have e11 : vs 11 = .pointer (some ⟨nb 11, 0, none⟩) := hn _ (mq 0 rfl)
   have E : Fr w [(nb 11, 2, Fq.num (((x * x) + A) * x)), (b2, 5, Fq.st [.n x, .n y, .v (.bool false)]), (b1, 6, Fq.st [.n A, .n B, .n M])] w8 := E8
   rw [lay_all hL]
   simp only [putAll, dstOf, List.length_cons, List.length_nil, Nat.zero_add, Nat.reduceAdd, List.getElem?_toArray, List.getElem?_cons_zero, List.getElem?_cons_succ, Option.bind_some, Act.put, List.setIfInBounds_toArray, List.set_cons_succ, List.set_cons_zero]
   rw [e0, e2, e5, e8, e11]
   generalize nb 11 = b8_11 at E ⊢
   generalize vs 1 = u8_1
   generalize vs 3 = u8_3
   generalize vs 4 = u8_4
   generalize vs 6 = u8_6
   generalize vs 7 = u8_7
   generalize vs 9 = u8_9
   generalize vs 10 = u8_10
   clear e0 e2 e5 e8 e11 hC hn E8 hL vs L nb
   go_upto_region 6 with (fail)
   have B9 : Hid (ab ((y * y)) < pw 10) := ab_mulM hy.out hy.out (by omega)
   have B10 : Hid (ab (((((x * x) + A) * x) + B)) < pw 17) := ab_addB B7.out hB.out (by omega) (by omega)
   have B11 : Hid (ab (((y * y) - ((((x * x) + A) * x) + B))) < pw 18) := ab_subB B9.out B10.out (by omega) (by omega)
   refine region_fr (C := [Fq.is (.pointer (some ⟨b2, 2, none⟩)), Fq.num y, Fq.is (.pointer (some ⟨b2, 2, none⟩)), Fq.num y, Fq.num (y * y), Fq.num (((x * x) + A) * x), Fq.is (.pointer (some ⟨b1, 2, none⟩)), Fq.num B, Fq.num ((((x * x) + A) * x) + B), Fq.num ((y * y) - ((((x * x) + A) * x) + B)), Fq.any, Fq.any]) (ks := [none, none, none]) (new := [⟨10, 11, 2, Fq.num 0, Fq.num ((y * y) - ((((x * x) + A) * x) + B)), none⟩]) E rfl (by kernel_rfl) rfl rfl (fun hp => ⟨?_, ?_, ?_, ?_, ?_, ?_, ?_, ?_, ?_, ?_, ?_, ?_, trivial⟩) ?_
   ·exact q_addr (b := b2) (off := 0) (off' := 2) hp (free_of rfl) trivial (sqo 3) (fun ρ w h => by simp [execOp, go_sem, h]) (fun _ => rfl)
   ·exact q_loadSt (off := 2) (l := 2) (fs := [.n x, .n y, .v (.bool false)]) (gs := [.n y]) hp (free_of rfl) trivial (mq 1 rfl) (.inl rfl) rfl row_api_Int rfl (sqi 0) (fun v w h => st_num h)
   ·exact q_addr (b := b2) (off := 0) (off' := 2) hp (free_of rfl) trivial (sqo 3) (fun ρ w h => by simp [execOp, go_sem, h]) (fun _ => rfl)
   ·exact q_loadSt (off := 2) (l := 2) (fs := [.n x, .n y, .v (.bool false)]) (gs := [.n y]) hp (free_of rfl) trivial (mq 1 rfl) (.inl rfl) rfl row_api_Int rfl (sqi 2) (fun v w h => st_num h)
   ·exact q_call2 (F := (Fq.num y).P) (G := (Fq.num y).P) hp (free_of rfl) trivial (enq_Mul) (sqi 1) (sqi 3) (fun v v' w h h' => exK (MulV h h') B9.out (by omega))
   ·exact q_loadInt (off := 0) hp (free_of rfl) trivial (mq 0 rfl) (.inl rfl) (Nat.le_of_ble_eq_true rfl) (sqo 5) (fun us w hl h => ld_num hl h)
   ·exact q_addr (b := b1) (off := 0) (off' := 2) hp (free_of rfl) trivial (sqo 2) (fun ρ w h => by simp [execOp, go_sem, h]) (fun _ => rfl)
   ·exact q_loadSt (off := 2) (l := 2) (fs := [.n A, .n B, .n M]) (gs := [.n B]) hp (free_of rfl) trivial (mq 2 rfl) (.inl rfl) rfl row_api_Int rfl (sqi 6) (fun v w h => st_num h)
   ·exact q_call2 (F := (Fq.num (((x * x) + A) * x)).P) (G := (Fq.num B).P) hp (free_of rfl) trivial (enq_Add) (sqi 5) (sqi 7) (fun v v' w h h' => exK (AddV h h') B10.out (by omega))
   ·exact q_call2 (F := (Fq.num (y * y)).P) (G := (Fq.num ((((x * x) + A) * x) + B)).P) hp (free_of rfl) trivial (enq_Sub) (sqi 4) (sqi 8) (fun v v' w h h' => exK (SubV h h') B11.out (by omega))
   ·exact q_allocInt hp (mq 0 rfl) rfl rfl rfl rfl (Nat.ne_of_beq_eq_false rfl) (fun _ _ => trivial) (old_ne rfl) (newk_ne rfl) (fun w => Num.zero w)
   ·exact q_storeNewInt hp (mq 0 rfl) rfl rfl rfl (own_ptr rfl rfl (by simp) rfl) (sq_in 9 rfl rfl (by simp) rfl (fun v w h => intV_num h)) (fun _ _ => trivial) (old_ne rfl) (newi_ne rfl)
   intro L vs w12 nb hL hC hn E12
   have e0 : vs 0 = .pointer (some ⟨b2, 2, none⟩) := hC 0 (by simp)
   have e2 : vs 2 = .pointer (some ⟨b2, 2, none⟩) := hC 2 (by simp)
   have e6 : vs 6 = .pointer (some ⟨b1, 2, none⟩) := hC 6 (by simp)
   have e10 : vs 10 = .pointer (some ⟨nb 10, 0, none⟩) := hn _ (mq 0 rfl)
   have E : Fr w [(nb 10, 2, Fq.num ((y * y) - ((((x * x) + A) * x) + B))), (b8_11, 2, Fq.num (((x * x) + A) * x)), (b2, 5, Fq.st [.n x, .n y, .v (.bool false)]), (b1, 6, Fq.st [.n A, .n B, .n M])] w12 := E12
   rw [lay_all hL]
   simp only [putAll, dstOf, List.length_cons, List.length_nil, Nat.zero_add, Nat.reduceAdd, List.getElem?_toArray, List.getElem?_cons_zero, List.getElem?_cons_succ, Option.bind_some, Act.put, List.setIfInBounds_toArray, List.set_cons_succ, List.set_cons_zero]
   rw [e0, e2, e6, e10]
   generalize nb 10 = b12_10 at E ⊢
   generalize vs 1 = u12_1
   generalize vs 3 = u12_3
   generalize vs 4 = u12_4
   generalize vs 5 = u12_5
   generalize vs 7 = u12_7
   generalize vs 8 = u12_8
   generalize vs 9 = u12_9
   clear e0 e2 e6 e10 hC hn E12 hL vs L nb
   go_upto_region 7 with (fail)
   refine region_fr (C := [Fq.num ((y * y) - ((((x * x) + A) * x) + B)), Fq.is (.pointer (some ⟨b1, 4, none⟩)), Fq.num M, Fq.num ((y * y - (((x * x) + A) * x + B)) % M), Fq.is (.bool (decide (((y * y - (((x * x) + A) * x + B)) % M) = 0))), Fq.is (.bool (decide (((y * y - (((x * x) + A) * x + B)) % M) = 0)))]) (ks := [none, none, none, none]) (new := []) E rfl (by kernel_rfl) rfl rfl (fun hp => ⟨?_, ?_, ?_, ?_, ?_, ?_, trivial⟩) ?_
   ·exact q_loadInt (off := 0) hp (free_of rfl) trivial (mq 0 rfl) (.inl rfl) (Nat.le_of_ble_eq_true rfl) (sqo 6) (fun us w hl h => ld_num hl h)
   ·exact q_addr (b := b1) (off := 0) (off' := 4) hp (free_of rfl) trivial (sqo 2) (fun ρ w h => by simp [execOp, go_sem, h]) (fun _ => rfl)
   ·exact q_loadSt (off := 4) (l := 2) (fs := [.n A, .n B, .n M]) (gs := [.n M]) hp (free_of rfl) trivial (mq 3 rfl) (.inl rfl) rfl row_api_Int rfl (sqi 1) (fun v w h => st_num h)
   ·exact q_call2 (F := (Fq.num ((y * y) - ((((x * x) + A) * x) + B))).P) (G := (Fq.num M).P) hp (free_of rfl) trivial (enq_f_algorist_point_residue) (sqi 0) (sqi 2) (fun v v' w h h' => exResP h h' (Int.lt_of_lt_of_le B11.out (pw_le (by omega))) (Int.lt_of_lt_of_le hM.out (pw_le (by omega))) HM0.out)
   ·exact q_call1 (F := (Fq.num ((y * y - (((x * x) + A) * x + B)) % M)).P) hp (free_of rfl) trivial (enq_f_algorist_point_isZero) (sqi 3) (fun v w h => exIsZero h rfl)
   ·exact q_assign hp (free_of rfl) trivial (sqi 4)
   intro L vs w13 nb hL hC hn E13
   have e1 : vs 1 = .pointer (some ⟨b1, 4, none⟩) := hC 1 (by simp)
   have e4 : vs 4 = .bool (decide (((y * y - (((x * x) + A) * x + B)) % M) = 0)) := hC 4 (by simp)
   have e5 : vs 5 = .bool (decide (((y * y - (((x * x) + A) * x + B)) % M) = 0)) := hC 5 (by simp)
   have E : Fr w [(b12_10, 2, Fq.num ((y * y) - ((((x * x) + A) * x) + B))), (b8_11, 2, Fq.num (((x * x) + A) * x)), (b2, 5, Fq.st [.n x, .n y, .v (.bool false)]), (b1, 6, Fq.st [.n A, .n B, .n M])] w13 := E13
   rw [lay_all hL]
   simp only [putAll, dstOf, List.length_cons, List.length_nil, Nat.zero_add, Nat.reduceAdd, List.getElem?_toArray, List.getElem?_cons_zero, List.getElem?_cons_succ, Option.bind_some, Act.put, List.setIfInBounds_toArray, List.set_cons_succ, List.set_cons_zero]
   rw [e1, e4, e5]
   generalize vs 0 = u13_0
   generalize vs 2 = u13_2
   generalize vs 3 = u13_3
   clear e1 e4 e5 hC hn E13 hL vs L nb
   clear HM0
   clear B5 B6 B7 B9 B10 B11 hM hA hB hx hy
   go_wp2
   refine bodyPost_ret (v := .bool (decide ((y * y - (((x * x) + A) * x + B)) % M = 0))) ?_ rfl ⟨_, rfl, E.below, rfl⟩
   simp [results, Try.results36, go_sem]
  ·have ht2 : t = false := ht.symm.trans (by rw [hx0, bfalse hy0]; rfl)
   subst ht2
   clear ht
   have HX := hidd hx0
   have HY := hidd (bfalse hy0)
   clear hx0 hy0
   refine region_fr (C := [Fq.is (.pointer (some ⟨b2, 0, none⟩)), Fq.num x, Fq.is (.pointer (some ⟨b1, 4, none⟩)), Fq.num M, Fq.is (.bool true), Fq.is (.bool false), Fq.is (.bool false), Fq.is (.pointer (some ⟨b2, 2, none⟩)), Fq.num y, Fq.is (.pointer (some ⟨b1, 4, none⟩)), Fq.num M, Fq.is (.bool false), Fq.is (.bool true), Fq.is (.bool true)]) (ks := [none, none]) (new := []) E rfl (by kernel_rfl) rfl rfl (fun hp => ⟨?_, ?_, ?_, ?_, ?_, ?_, ?_, ?_, ?_, ?_, ?_, ?_, ?_, ?_, trivial⟩) ?_
   ·exact q_addr (b := b2) (off := 0) (off' := 0) hp (free_of rfl) trivial (sqo 3) (fun ρ w h => by simp [execOp, go_sem, h]) (fun _ => rfl)
   ·exact q_loadSt (off := 0) (l := 2) (fs := [.n x, .n y, .v (.bool false)]) (gs := [.n x]) hp (free_of rfl) trivial (mq 0 rfl) (.inl rfl) rfl row_api_Int rfl (sqi 0) (fun v w h => st_num h)
   ·exact q_addr (b := b1) (off := 0) (off' := 4) hp (free_of rfl) trivial (sqo 2) (fun ρ w h => by simp [execOp, go_sem, h]) (fun _ => rfl)
   ·exact q_loadSt (off := 4) (l := 2) (fs := [.n A, .n B, .n M]) (gs := [.n M]) hp (free_of rfl) trivial (mq 1 rfl) (.inl rfl) rfl row_api_Int rfl (sqi 2) (fun v w h => st_num h)
   ·exact q_call2 (F := (Fq.num x).P) (G := (Fq.num M).P) hp (free_of rfl) trivial (enq_f_algorist_point_isResidue) (sqi 1) (sqi 3) (fun v v' w h h' => exIsRes h h' HX.out)
   ·exact q_one (F := fun v _ => v = .bool true) hp (free_of rfl) trivial (sqi 4) (fun ρ w _ h => ⟨.bool false, by simp [execOp, go_sem, h], rfl⟩)
   ·exact q_move hp (free_of rfl) trivial (sqi 5)
   ·exact q_addr (b := b2) (off := 0) (off' := 2) hp (free_of rfl) gqi (sqo 3) (fun ρ w h => by simp [execOp, go_sem, h]) (fun _ => rfl)
   ·exact q_loadSt (off := 2) (l := 2) (fs := [.n x, .n y, .v (.bool false)]) (gs := [.n y]) hp (free_of rfl) gqi (mq 0 rfl) (.inl rfl) rfl row_api_Int rfl (sqi 7) (fun v w h => st_num h)
   ·exact q_addr (b := b1) (off := 0) (off' := 4) hp (free_of rfl) gqi (sqo 2) (fun ρ w h => by simp [execOp, go_sem, h]) (fun _ => rfl)
   ·exact q_loadSt (off := 4) (l := 2) (fs := [.n A, .n B, .n M]) (gs := [.n M]) hp (free_of rfl) gqi (mq 1 rfl) (.inl rfl) rfl row_api_Int rfl (sqi 9) (fun v w h => st_num h)
   ·exact q_call2 (F := (Fq.num y).P) (G := (Fq.num M).P) hp (free_of rfl) gqi (enq_f_algorist_point_isResidue) (sqi 8) (sqi 10) (fun v v' w h h' => exIsRes h h' HY.out)
   ·exact q_one (F := fun v _ => v = .bool false) hp (free_of rfl) gqi (sqi 11) (fun ρ w _ h => ⟨.bool true, by simp [execOp, go_sem, h], rfl⟩)
   ·exact q_two (F := fun v _ => v = .bool false) (G := fun v _ => v = .bool true) hp (free_of rfl) trivial (sqi 6) (sqi 12) (fun ρ w hc h h' => ⟨_, by simp [execOp, go_sem, h, h'], rfl⟩)
   intro L vs w14 nb hL hC hn E14
   have e0 : vs 0 = .pointer (some ⟨b2, 0, none⟩) := hC 0 (by simp)
   have e2 : vs 2 = .pointer (some ⟨b1, 4, none⟩) := hC 2 (by simp)
   have e4 : vs 4 = .bool true := hC 4 (by simp)
   have e5 : vs 5 = .bool false := hC 5 (by simp)
   have e6 : vs 6 = .bool false := hC 6 (by simp)
   have e7 : vs 7 = .pointer (some ⟨b2, 2, none⟩) := hC 7 (by simp)
   have e9 : vs 9 = .pointer (some ⟨b1, 4, none⟩) := hC 9 (by simp)
   have e11 : vs 11 = .bool false := hC 11 (by simp)
   have e12 : vs 12 = .bool true := hC 12 (by simp)
   have e13 : vs 13 = .bool true := hC 13 (by simp)
   have E : Fr w [(b2, 5, Fq.st [.n x, .n y, .v (.bool false)]), (b1, 6, Fq.st [.n A, .n B, .n M])] w14 := E14
   rw [lay_all hL]
   simp only [putAll, dstOf, List.length_cons, List.length_nil, Nat.zero_add, Nat.reduceAdd, List.getElem?_toArray, List.getElem?_cons_zero, List.getElem?_cons_succ, Option.bind_some, Act.put, List.setIfInBounds_toArray, List.set_cons_succ, List.set_cons_zero]
   rw [e0, e2, e4, e5, e6, e7, e9, e11, e12, e13]
   generalize vs 1 = u14_1
   generalize vs 3 = u14_3
   generalize vs 8 = u14_8
   generalize vs 10 = u14_10
   clear e0 e2 e4 e5 e6 e7 e9 e11 e12 e13 hC hn E14 hL vs L nb
   clear HX HY
   go_upto_region 4 with (fail)
   refine region_fr (C := [Fq.is (.bool false)]) (ks := [none, none]) (new := []) E rfl (by kernel_rfl) rfl rfl (fun hp => ⟨?_, trivial⟩) ?_
   ·exact q_assign hp (free_of rfl) trivial (sq_const (fun _ => rfl))
   intro L vs w15 nb hL hC hn E15
   have e0 : vs 0 = .bool false := hC 0 (by simp)
   have E : Fr w [(b2, 5, Fq.st [.n x, .n y, .v (.bool false)]), (b1, 6, Fq.st [.n A, .n B, .n M])] w15 := E15
   rw [lay_all hL]
   simp only [putAll, dstOf, List.length_cons, List.length_nil, Nat.zero_add, List.getElem?_toArray, List.getElem?_cons_zero, Option.bind_some, Act.put, List.setIfInBounds_toArray, List.set_cons_succ, List.set_cons_zero]
   rw [e0]
   clear e0 hC hn E15 hL vs L nb
   clear HM0
   clear hM hA hB hx hy
   go_wp2
   refine bodyPost_ret (v := .bool false) ?_ rfl ⟨_, rfl, E.below, rfl⟩
   simp [results, Try.results36, go_sem]
 ·have ht2 : t = false := ht.symm.trans (by rw [bfalse hx0]; rfl)
  subst ht2
  clear ht
  have HX := hidd (bfalse hx0)
  clear hx0
  refine region_fr (C := [Fq.is (.pointer (some ⟨b2, 0, none⟩)), Fq.num x, Fq.is (.pointer (some ⟨b1, 4, none⟩)), Fq.num M, Fq.is (.bool false), Fq.is (.bool true), Fq.is (.bool true), Fq.is (undef), Fq.is (undef), Fq.is (undef), Fq.is (undef), Fq.is (undef), Fq.is (undef), Fq.is (.bool true)]) (ks := [none, none]) (new := []) E rfl (by kernel_rfl) rfl rfl (fun hp => ⟨?_, ?_, ?_, ?_, ?_, ?_, ?_, ?_, ?_, ?_, ?_, ?_, ?_, ?_, trivial⟩) ?_
  ·exact q_addr (b := b2) (off := 0) (off' := 0) hp (free_of rfl) trivial (sqo 3) (fun ρ w h => by simp [execOp, go_sem, h]) (fun _ => rfl)
  ·exact q_loadSt (off := 0) (l := 2) (fs := [.n x, .n y, .v (.bool false)]) (gs := [.n x]) hp (free_of rfl) trivial (mq 0 rfl) (.inl rfl) rfl row_api_Int rfl (sqi 0) (fun v w h => st_num h)
  ·exact q_addr (b := b1) (off := 0) (off' := 4) hp (free_of rfl) trivial (sqo 2) (fun ρ w h => by simp [execOp, go_sem, h]) (fun _ => rfl)
  ·exact q_loadSt (off := 4) (l := 2) (fs := [.n A, .n B, .n M]) (gs := [.n M]) hp (free_of rfl) trivial (mq 1 rfl) (.inl rfl) rfl row_api_Int rfl (sqi 2) (fun v w h => st_num h)
  ·exact q_call2 (F := (Fq.num x).P) (G := (Fq.num M).P) hp (free_of rfl) trivial (enq_f_algorist_point_isResidue) (sqi 1) (sqi 3) (fun v v' w h h' => exIsRes h h' HX.out)
  ·exact q_one (F := fun v _ => v = .bool false) hp (free_of rfl) trivial (sqi 4) (fun ρ w _ h => ⟨.bool true, by simp [execOp, go_sem, h], rfl⟩)
  ·exact q_move hp (free_of rfl) trivial (sqi 5)
  ·exact q_skip hp (free_of rfl) rfl gqi (fun _ => rfl)
  ·exact q_skip hp (free_of rfl) rfl gqi (fun _ => rfl)
  ·exact q_skip hp (free_of rfl) rfl gqi (fun _ => rfl)
  ·exact q_skip hp (free_of rfl) rfl gqi (fun _ => rfl)
  ·exact q_skip hp (free_of rfl) rfl gqi (fun _ => rfl)
  ·exact q_skip hp (free_of rfl) rfl gqi (fun _ => rfl)
  ·exact q_two (F := fun v _ => v = .bool true) (G := fun v _ => v = .bool true) hp (free_of rfl) trivial (sqi 6) (sq_const (fun _ => rfl)) (fun ρ w hc h h' => ⟨_, by simp [execOp, go_sem, h, h'], rfl⟩)
  intro L vs w16 nb hL hC hn E16
  have e0 : vs 0 = .pointer (some ⟨b2, 0, none⟩) := hC 0 (by simp)
  have e2 : vs 2 = .pointer (some ⟨b1, 4, none⟩) := hC 2 (by simp)
  have e4 : vs 4 = .bool false := hC 4 (by simp)
  have e5 : vs 5 = .bool true := hC 5 (by simp)
  have e6 : vs 6 = .bool true := hC 6 (by simp)
  have e7 : vs 7 = undef := hC 7 (by simp)
  have e8 : vs 8 = undef := hC 8 (by simp)
  have e9 : vs 9 = undef := hC 9 (by simp)
  have e10 : vs 10 = undef := hC 10 (by simp)
  have e11 : vs 11 = undef := hC 11 (by simp)
  have e12 : vs 12 = undef := hC 12 (by simp)
  have e13 : vs 13 = .bool true := hC 13 (by simp)
  have E : Fr w [(b2, 5, Fq.st [.n x, .n y, .v (.bool false)]), (b1, 6, Fq.st [.n A, .n B, .n M])] w16 := E16
  rw [lay_all hL]
  simp only [putAll, dstOf, List.length_cons, List.length_nil, Nat.zero_add, Nat.reduceAdd, List.getElem?_toArray, List.getElem?_cons_zero, List.getElem?_cons_succ, Option.bind_some, Act.put, List.setIfInBounds_toArray, List.set_cons_succ, List.set_cons_zero]
  rw [e0, e2, e4, e5, e6, e7, e8, e9, e10, e11, e12, e13]
  generalize vs 1 = u16_1
  generalize vs 3 = u16_3
  clear e0 e2 e4 e5 e6 e7 e8 e9 e10 e11 e12 e13 hC hn E16 hL vs L nb
  clear HX
  go_upto_region 4 with (fail)
  refine region_fr (C := [Fq.is (.bool false)]) (ks := [none, none]) (new := []) E rfl (by kernel_rfl) rfl rfl (fun hp => ⟨?_, trivial⟩) ?_
  ·exact q_assign hp (free_of rfl) trivial (sq_const (fun _ => rfl))
  intro L vs w17 nb hL hC hn E17
  have e0 : vs 0 = .bool false := hC 0 (by simp)
  have E : Fr w [(b2, 5, Fq.st [.n x, .n y, .v (.bool false)]), (b1, 6, Fq.st [.n A, .n B, .n M])] w17 := E17
  rw [lay_all hL]
  simp only [putAll, dstOf, List.length_cons, List.length_nil, Nat.zero_add, List.getElem?_toArray, List.getElem?_cons_zero, Option.bind_some, Act.put, List.setIfInBounds_toArray, List.set_cons_succ, List.set_cons_zero]
  rw [e0]
  clear e0 hC hn E17 hL vs L nb
  clear HM0
  clear hM hA hB hx hy
  go_wp2
  refine bodyPost_ret (v := .bool false) ?_ rfl ⟨_, rfl, E.below, rfl⟩
  simp [results, Try.results36, go_sem]

theorem exIsPoint {w : World} {v v' : Value} {A B M x y : Int} {i : Bool} (h : (Fq.st [.n A, .n B, .n M]).P v w) (h' : (Fq.st [.n x, .n y, .v (.bool i)]).P v' w) (hM : ab M < pw 5) (hA : ab A < pw 5) (hB : ab B < pw 5) (hx : ab x < pw 5) (hy : ab y < pw 5) (hM0 : 0 < M) {t : Bool} (ht : ptB A B M x y i = t) : Calls Try.prog 36 #[v, v'] w fun e w' => ∃ v', e = .returned v' ∧ Below w.heap.size w w' ∧ v' = .bool t := by
 cases i with
 | true => exact exIsPointI h h' hM hA hB hx hy ht
 | false => exact exIsPointF h h' hM hA hB hx hy hM0 ht

set_option maxRecDepth 100000 in
set_option maxHeartbeats 4000000 in
theorem exOn {w : World} {v v' : Value} {A B M x y : Int} {i : Bool} (h : (Fq.st [.n A, .n B, .n M]).P v w) (h' : (Fq.st [.n x, .n y, .v (.bool i)]).P v' w) (hM : ab M < pw 5) (hA : ab A < pw 5) (hB : ab B < pw 5) (hx : ab x < pw 5) (hy : ab y < pw 5) {t : Bool} (ht : onB A B M x y i = t) :
  Calls Try.prog 15 #[v, v'] w fun e w' => ∃ v', e = .returned v' ∧ Below w.heap.size w w' ∧ v' = .bool t := by
 replace hM := hidd hM
 replace hA := hidd hA
 replace hB := hidd hB
 replace hx := hidd hx
 replace hy := hidd hy
 obtain ⟨_, rfl, hf0⟩ := h
 have hF0 := hf0
 obtain ⟨y0_p0, y0_q0, _, rfl, _y0_n0, y0_p1, y0_q1, _, rfl, _y0_n1, y0_p2, y0_q2, _, rfl, _y0_n2, rfl⟩ := hf0
 obtain ⟨_, rfl, hf1⟩ := h'
 have hF1 := hf1
 obtain ⟨y1_p0, y1_q0, _, rfl, _y1_n0, y1_p1, y1_q1, _, rfl, _y1_n1, _, rfl, _, rfl⟩ := hf1
 obtain ⟨w1, b1, hw1, hb1, hs1, E⟩ := fr_start w (F := Fq.st [.n A, .n B, .n M]) (us := [y0_p0, y0_q0, y0_p1, y0_q1, y0_p2, y0_q2]) 31 rfl (by simp) (hF0.tame) (show (Fq.st [.n A, .n B, .n M]).P _ w from ⟨_, rfl, hF0⟩)
 obtain ⟨w2, b2, hw2, hb2, hs2, E⟩ := fr_more E hs1 (F := Fq.st [.n x, .n y, .v (.bool i)]) (us := [y1_p0, y1_q0, y1_p1, y1_q1, .bool i]) 37 rfl (by simp) (hF1.tame) ((Fq.st [.n x, .n y, .v (.bool i)]).mono (show (Fq.st [.n x, .n y, .v (.bool i)]).P _ w from ⟨_, rfl, hF1⟩) E.below)
 go_enter Try.func15, Try.ntmps15
 go_upto_region 1 with (fail)
 rw [← hw1]
 rw [← hw2]
 rw [← hb2]
 rw [← hb1]
 clear hw1 hw2 hb1 hb2 hs2 hs1
 by_cases hc : curveB A B M = true
 ·have ht2 : t = ptB A B M x y i := ht.symm.trans (by unfold onB; rw [hc, Bool.true_and])
  subst ht2
  clear ht
  have HM0 : Hid (0 < M) := (curve_of hc).1
  have HC := hidd hc
  clear hc
  refine region_fr (C := [Fq.st [.n A, .n B, .n M], Fq.is (.bool true), Fq.is (.bool true), Fq.st [.n A, .n B, .n M], Fq.st [.n x, .n y, .v (.bool i)], Fq.is (.bool (ptB A B M x y i)), Fq.is (.bool (ptB A B M x y i)), Fq.is (.bool (ptB A B M x y i))]) (ks := [none, none]) (new := []) E rfl (by kernel_rfl) rfl rfl (fun hp => ⟨?_, ?_, ?_, ?_, ?_, ?_, ?_, ?_, trivial⟩) ?_
  ·exact q_loadSt (off := 0) (l := 6) (fs := [.n A, .n B, .n M]) (gs := [.n A, .n B, .n M]) hp (free_of rfl) trivial (mq 1 rfl) (.inl rfl) rfl row_api_Mod rfl (sqo 2) (fun v w h => h)
  ·exact q_call1 (F := (Fq.st [.n A, .n B, .n M]).P) hp (free_of rfl) trivial (enq_f_algorist_point_isCurve) (sqi 0) (fun v w h => exIsCurve h (Int.lt_of_lt_of_le hM.out (pw_le (by omega))) HC.out)
  ·exact q_move hp (free_of rfl) trivial (sqi 1)
  ·exact q_loadSt (off := 0) (l := 6) (fs := [.n A, .n B, .n M]) (gs := [.n A, .n B, .n M]) hp (free_of rfl) gqi (mq 1 rfl) (.inl rfl) rfl row_api_Mod rfl (sqo 2) (fun v w h => h)
  ·exact q_loadSt (off := 0) (l := 5) (fs := [.n x, .n y, .v (.bool i)]) (gs := [.n x, .n y, .v (.bool i)]) hp (free_of rfl) gqi (mq 0 rfl) (.inl rfl) rfl row_api_Point rfl (sqo 3) (fun v w h => h)
  ·exact q_call2 (F := (Fq.st [.n A, .n B, .n M]).P) (G := (Fq.st [.n x, .n y, .v (.bool i)]).P) hp (free_of rfl) gqi (enq_f_algorist_point_isPoint) (sqi 3) (sqi 4) (fun v v' w h h' => exIsPoint h h' hM.out hA.out hB.out hx.out hy.out HM0.out rfl)
  ·exact q_two (F := fun v _ => v = .bool true) (G := fun v _ => v = .bool (ptB A B M x y i)) hp (free_of rfl) trivial (sqi 2) (sqi 5) (fun ρ w hc h h' => ⟨_, by simp [execOp, go_sem, h, h'], rfl⟩)
  ·exact q_assign hp (free_of rfl) trivial (sqi 6)
  intro L vs w3 nb hL hC hn E3
  have e1 : vs 1 = .bool true := hC 1 (by simp)
  have e2 : vs 2 = .bool true := hC 2 (by simp)
  have e5 : vs 5 = .bool (ptB A B M x y i) := hC 5 (by simp)
  have e6 : vs 6 = .bool (ptB A B M x y i) := hC 6 (by simp)
  have e7 : vs 7 = .bool (ptB A B M x y i) := hC 7 (by simp)
  have E : Fr w [(b2, 5, Fq.st [.n x, .n y, .v (.bool i)]), (b1, 6, Fq.st [.n A, .n B, .n M])] w3 := E3
  rw [lay_all hL]
  simp only [putAll, dstOf, List.length_cons, List.length_nil, Nat.zero_add, Nat.reduceAdd, List.getElem?_toArray, List.getElem?_cons_zero, List.getElem?_cons_succ, Option.bind_some, Act.put, List.setIfInBounds_toArray, List.set_cons_succ, List.set_cons_zero]
  rw [e1, e2, e5, e6, e7]
  generalize vs 0 = u3_0
  generalize vs 3 = u3_3
  generalize vs 4 = u3_4
  clear e1 e2 e5 e6 e7 hC hn E3 hL vs L nb
  clear HC HM0
  clear hM hA hB hx hy
  go_wp2
  refine bodyPost_ret (v := .bool (ptB A B M x y i)) ?_ rfl ⟨_, rfl, E.below, rfl⟩
  simp [results, Try.results15, go_sem]
 ·have ht2 : t = false := ht.symm.trans (by unfold onB; rw [bfalse hc, Bool.false_and])
  subst ht2
  clear ht
  have HC := hidd (bfalse hc)
  clear hc
  refine region_fr (C := [Fq.st [.n A, .n B, .n M], Fq.is (.bool false), Fq.is (.bool false), Fq.is (undef), Fq.is (undef), Fq.is (undef), Fq.is (.bool false), Fq.is (.bool false)]) (ks := [none, none]) (new := []) E rfl (by kernel_rfl) rfl rfl (fun hp => ⟨?_, ?_, ?_, ?_, ?_, ?_, ?_, ?_, trivial⟩) ?_
  ·exact q_loadSt (off := 0) (l := 6) (fs := [.n A, .n B, .n M]) (gs := [.n A, .n B, .n M]) hp (free_of rfl) trivial (mq 1 rfl) (.inl rfl) rfl row_api_Mod rfl (sqo 2) (fun v w h => h)
  ·exact q_call1 (F := (Fq.st [.n A, .n B, .n M]).P) hp (free_of rfl) trivial (enq_f_algorist_point_isCurve) (sqi 0) (fun v w h => exIsCurve h (Int.lt_of_lt_of_le hM.out (pw_le (by omega))) HC.out)
  ·exact q_move hp (free_of rfl) trivial (sqi 1)
  ·exact q_skip hp (free_of rfl) rfl gqi (fun _ => rfl)
  ·exact q_skip hp (free_of rfl) rfl gqi (fun _ => rfl)
  ·exact q_skip hp (free_of rfl) rfl gqi (fun _ => rfl)
  ·exact q_two (F := fun v _ => v = .bool false) (G := fun v _ => v = .bool false) hp (free_of rfl) trivial (sqi 2) (sq_const (fun _ => rfl)) (fun ρ w hc h h' => ⟨_, by simp [execOp, go_sem, h, h'], rfl⟩)
  ·exact q_assign hp (free_of rfl) trivial (sqi 6)
  intro L vs w4 nb hL hC hn E4
  have e1 : vs 1 = .bool false := hC 1 (by simp)
  have e2 : vs 2 = .bool false := hC 2 (by simp)
  have e3 : vs 3 = undef := hC 3 (by simp)
  have e4 : vs 4 = undef := hC 4 (by simp)
  have e5 : vs 5 = undef := hC 5 (by simp)
  have e6 : vs 6 = .bool false := hC 6 (by simp)
  have e7 : vs 7 = .bool false := hC 7 (by simp)
  have E : Fr w [(b2, 5, Fq.st [.n x, .n y, .v (.bool i)]), (b1, 6, Fq.st [.n A, .n B, .n M])] w4 := E4
  rw [lay_all hL]
  simp only [putAll, dstOf, List.length_cons, List.length_nil, Nat.zero_add, Nat.reduceAdd, List.getElem?_toArray, List.getElem?_cons_zero, List.getElem?_cons_succ, Option.bind_some, Act.put, List.setIfInBounds_toArray, List.set_cons_succ, List.set_cons_zero]
  rw [e1, e2, e3, e4, e5, e6, e7]
  generalize vs 0 = u4_0
  clear e1 e2 e3 e4 e5 e6 e7 hC hn E4 hL vs L nb
  clear HC
  clear hM hA hB hx hy
  go_wp2
  refine bodyPost_ret (v := .bool false) ?_ rfl ⟨_, rfl, E.below, rfl⟩
  simp [results, Try.results15, go_sem]

end Go.Proofs.Ytihhlaagndingaa

namespace Go.Proofs.Ytihhlaagndingaa
open Go Go.RowKit

structure Pt where
 x : Int
 y : Int
 i : Bool
def Fq.pt (P : Pt) : Fq := Fq.st [.n P.x, .n P.y, .v (.bool P.i)]
def slN (A x1 y1 x2 y2 : Int) : Int := if x1 = x2 then (3 * (x1 * x1)) + A else y2 - y1
def slD (M x1 y1 x2 y2 : Int) : Int := if x1 = x2 then (y1 + y2) % M else x2 - x1
noncomputable def finX (M x1 x2 N D : Int) : Int := (((N * bezU D M) % M) * ((N * bezU D M) % M) - (x1 + x2)) % M
noncomputable def finY (M x1 y1 x2 N D : Int) : Int := (((N * bezU D M) % M) * (x1 - finX M x1 x2 N D) - y1) % M
noncomputable def finP (M x1 y1 x2 N D : Int) : Pt × Int := if D = 0 then (⟨0, 0, true⟩, 0) else if Int.gcd D M = 1 then (⟨finX M x1 x2 N D, finY M x1 y1 x2 N D, false⟩, 0) else (⟨0, 0, false⟩, (Int.gcd D M : Int))
noncomputable def sumP (A M : Int) (P Q : Pt) : Pt × Int := if P.i then (Q, 0) else if Q.i then (P, 0) else finP M P.x P.y Q.x (slN A P.x P.y Q.x Q.y) (slD M P.x P.y Q.x Q.y)
def oppP (M : Int) (P : Pt) : Pt := if P.i then ⟨0, 0, true⟩ else ⟨P.x, (-P.y) % M, false⟩
def Pt.Ok (M : Int) (P : Pt) : Prop := 0 ≤ P.x ∧ P.x < M ∧ 0 ≤ P.y ∧ P.y < M
theorem Pt.Ok.ab {M : Int} {P : Pt} (h : P.Ok M) (hM : ab M < pw 5) : Go.Proofs.Ytihhlaagndingaa.ab P.x < pw 5 ∧ Go.Proofs.Ytihhlaagndingaa.ab P.y < pw 5 := by
 obtain ⟨h1, h2, h3, h4⟩ := h
 unfold Go.Proofs.Ytihhlaagndingaa.ab at hM ⊢
 generalize pw 5 = k at hM
 constructor <;> omega
theorem ab_mod' {a m : Int} {k : Nat} (h0 : 0 < m) (h : ab m < pw k) : ab (a % m) < pw k := by
 have h1 := Int.emod_nonneg a (show m ≠ 0 by omega)
 have h2 := Int.emod_lt_of_pos a h0
 unfold ab at h ⊢
 generalize pw k = q at h
 omega
theorem slN_ab {A x1 y1 x2 y2 : Int} (hA : ab A < pw 5) (hx : ab x1 < pw 5) (hy1 : ab y1 < pw 5) (hy2 : ab y2 < pw 5) : ab (slN A x1 y1 x2 y2) < pw 20 := by
 unfold slN
 split
 ·have h1 : ab (x1 * x1) < pw 10 := ab_mulM hx hx (by omega)
  have h3 : ab (3 : Int) < pw 3 := ab_lit (by decide)
  have h2 : ab (3 * (x1 * x1)) < pw 13 := ab_mulM h3 h1 (by omega)
  have h4 : ab (3 * (x1 * x1) + A) < pw 14 := ab_addB h2 hA (by omega) (by omega)
  exact Int.lt_of_lt_of_le h4 (pw_le (by omega))
 ·have h4 : ab (y2 - y1) < pw 6 := ab_subB hy2 hy1 (by omega) (by omega)
  exact Int.lt_of_lt_of_le h4 (pw_le (by omega))
theorem slD_ab {M x1 y1 x2 y2 : Int} (hM : ab M < pw 5) (h0 : 0 < M) (hx1 : ab x1 < pw 5) (hx2 : ab x2 < pw 5) : ab (slD M x1 y1 x2 y2) < pw 20 := by
 unfold slD
 split
 ·exact Int.lt_of_lt_of_le (ab_mod' h0 hM) (pw_le (by omega))
 ·have h4 : ab (x2 - x1) < pw 6 := ab_subB hx2 hx1 (by omega) (by omega)
  exact Int.lt_of_lt_of_le h4 (pw_le (by omega))
theorem gcd_ab {D M : Int} {k : Nat} (h0 : 0 < M) (h : ab M < pw k) : ab (Int.gcd D M : Int) < pw k := by
 have h1 := Int.gcd_le_natAbs_right D (show M ≠ 0 by omega)
 unfold ab at h ⊢
 generalize pw k = q at h
 omega
section
variable {os : List Oper} {Q : Exit → Act → World → Prop} {a : Act} {p : Pq} {B B0 : Nat} {w0 : World}
variable {i s : Nat} {d : Option Tmp} {ty : TypeId} {ps : String} {af : Array Edge} {gd : Option (Nat × Bool)}
theorem q_build_api_Point_ (hp : p.Ok B B0) (hF : p.Free i) (hg : GdQ os a p B B0 w0 af gd) (hC : ∀ v w, (Fq.st [.n 0, .n 0, .v (.bool false)]).P v w → (p.c i).P v w) :
  StepQ os Q a p B B0 w0 i { dst := d, op := .build 37 #[], type := ty, pos := ps, after := af, guard := gd } := by
 refine stq_val hp hF hg fun L vs w hG hL hc hd => ?_
 refine ⟨.agg #[.bool false, .slice none 0 0, .bool false, .slice none 0 0, .bool false], ?_, hC _ _ ⟨_, rfl, _, _, _, rfl, Num.zero w, _, _, _, rfl, Num.zero w, _, rfl, rfl, rfl⟩⟩
 simp [execOp, go_sem]
theorem q_build_api_Point_01 {x0 : Operand} {z0 : Int} {x1 : Operand} {z1 : Int} (hp : p.Ok B B0) (hF : p.Free i) (hg : GdQ os a p B B0 w0 af gd) (h0 : SrcQ os a p B B0 w0 af x0 fun v w => Num w v z0) (h1 : SrcQ os a p B B0 w0 af x1 fun v w => Num w v z1) (hC : ∀ v w, (Fq.st [.n z0, .n z1, .v (.bool false)]).P v w → (p.c i).P v w) :
  StepQ os Q a p B B0 w0 i { dst := d, op := .build 37 #[(0, x0), (1, x1)], type := ty, pos := ps, after := af, guard := gd } := by
 refine stq_val hp hF hg fun L vs w hG hL hc hd => ?_
 have g0 := h0 L vs w hG hd
 obtain ⟨n0, ao0, k0, c0, e0⟩ := g0.parts
 have m0 : Num w (.agg #[.bool n0, .slice ao0 k0 c0]) z0 := by rw [← e0]; exact g0
 have g1 := h1 L vs w hG hd
 obtain ⟨n1, ao1, k1, c1, e1⟩ := g1.parts
 have m1 : Num w (.agg #[.bool n1, .slice ao1 k1 c1]) z1 := by rw [← e1]; exact g1
 refine ⟨.agg #[.bool n0, .slice ao0 k0 c0, .bool n1, .slice ao1 k1 c1, .bool false], ?_, hC _ _ ⟨_, rfl, _, _, _, rfl, m0, _, _, _, rfl, m1, _, rfl, rfl, rfl⟩⟩
 generalize (lay os.toArray L vs os.toArray.size a).eval = ρ at e0 e1
 simp [execOp, go_sem, e0, e1]
theorem q_build_api_Point_2 {x2 : Operand} {u2 : Bool} (hp : p.Ok B B0) (hF : p.Free i) (hg : GdQ os a p B B0 w0 af gd) (h2 : SrcQ os a p B B0 w0 af x2 fun v _ => v = .bool u2) (hC : ∀ v w, (Fq.st [.n 0, .n 0, .v (.bool u2)]).P v w → (p.c i).P v w) :
  StepQ os Q a p B B0 w0 i { dst := d, op := .build 37 #[(2, x2)], type := ty, pos := ps, after := af, guard := gd } := by
 refine stq_val hp hF hg fun L vs w hG hL hc hd => ?_
 have g2 := h2 L vs w hG hd
 refine ⟨.agg #[.bool false, .slice none 0 0, .bool false, .slice none 0 0, .bool u2], ?_, hC _ _ ⟨_, rfl, _, _, _, rfl, Num.zero w, _, _, _, rfl, Num.zero w, _, rfl, rfl, rfl⟩⟩
 generalize (lay os.toArray L vs os.toArray.size a).eval = ρ at g2
 simp [execOp, go_sem, g2]
end
set_option maxRecDepth 100000 in
set_option maxHeartbeats 4000000 in
theorem exOppI {w : World} {v v' : Value} {A B M x y : Int} (h : (Fq.st [.n A, .n B, .n M]).P v w) (h' : (Fq.st [.n x, .n y, .v (.bool true)]).P v' w) (hM : ab M < pw 5) (hx : ab x < pw 5) (hy : ab y < pw 5) (hx0 : 0 ≤ x) (hM0 : 0 < M) :
  Calls Try.prog 37 #[v, v'] w fun e w' => ∃ v', e = .returned v' ∧ Below w.heap.size w w' ∧ (Fq.st [.n 0, .n 0, .v (.bool true)]).P v' w' := by
 replace hM := hidd hM
 replace hx := hidd hx
 replace hy := hidd hy
 have HX0 := hidd hx0
 have HM0 := hidd hM0
 clear hx0 hM0
 obtain ⟨_, rfl, hf0⟩ := h
 have hF0 := hf0
 obtain ⟨y0_p0, y0_q0, _, rfl, _y0_n0, y0_p1, y0_q1, _, rfl, _y0_n1, y0_p2, y0_q2, _, rfl, _y0_n2, rfl⟩ := hf0
 obtain ⟨_, rfl, hf1⟩ := h'
 have hF1 := hf1
 obtain ⟨y1_p0, y1_q0, _, rfl, _y1_n0, y1_p1, y1_q1, _, rfl, _y1_n1, _, rfl, _, rfl⟩ := hf1
 obtain ⟨w1, b1, hw1, hb1, hs1, E⟩ := fr_start w (F := Fq.st [.n A, .n B, .n M]) (us := [y0_p0, y0_q0, y0_p1, y0_q1, y0_p2, y0_q2]) 31 rfl (by simp) (hF0.tame) (show (Fq.st [.n A, .n B, .n M]).P _ w from ⟨_, rfl, hF0⟩)
 obtain ⟨w2, b2, hw2, hb2, hs2, E⟩ := fr_more E hs1 (F := Fq.st [.n x, .n y, .v (.bool true)]) (us := [y1_p0, y1_q0, y1_p1, y1_q1, .bool true]) 37 rfl (by simp) (hF1.tame) ((Fq.st [.n x, .n y, .v (.bool true)]).mono (show (Fq.st [.n x, .n y, .v (.bool true)]).P _ w from ⟨_, rfl, hF1⟩) E.below)
 obtain ⟨w3, b3, hw3, hb3, hs3, E⟩ := fr_more E hs2 (F := Fq.st [.n 0, .n 0, .v (.bool false)]) (us := [.bool false, .slice none 0 0, .bool false, .slice none 0 0, .bool false]) 37 rfl (by simp) ((Fits.tame (fits0_api_Point w))) (fits0P_api_Point _)
 go_enter Try.func37, Try.ntmps37
 go_upto_region 1 with (fail)
 rw [← hw1]
 rw [← hw2]
 rw [← hw3]
 rw [← hb3]
 rw [← hb2]
 rw [← hb1]
 clear hw1 hw2 hw3 hb1 hb2 hb3 hs3 hs1 hs2
 refine region_fr (C := [Fq.is (.pointer (some ⟨b2, 4, none⟩)), Fq.is (.bool true)]) (ks := [none, none, none]) (new := []) E rfl (by kernel_rfl) rfl rfl (fun hp => ⟨?_, ?_, trivial⟩) ?_
 ·exact q_addr (b := b2) (off := 0) (off' := 4) hp (free_of rfl) trivial (sqo 3) (fun ρ w h => by simp [execOp, go_sem, h]) (fun _ => rfl)
 ·exact q_load1 (off := 4) (fs := [.n x, .n y, .v (.bool true)]) (u := .bool true) hp (free_of rfl) trivial (mq 1 rfl) (.inl rfl) rfl rfl (fun ρ w b h1 h2 => by simp [execOp, go_sem, h1, h2]) (sqi 0) (fun _ => rfl)
 intro L vs w4 nb hL hC hn E4
 have e0 : vs 0 = .pointer (some ⟨b2, 4, none⟩) := hC 0 (by simp)
 have e1 : vs 1 = .bool true := hC 1 (by simp)
 have E : Fr w [(b3, 5, Fq.st [.n 0, .n 0, .v (.bool false)]), (b2, 5, Fq.st [.n x, .n y, .v (.bool true)]), (b1, 6, Fq.st [.n A, .n B, .n M])] w4 := E4
 rw [lay_all hL]
 simp only [putAll, dstOf, List.length_cons, List.length_nil, Nat.zero_add, Nat.reduceAdd, List.getElem?_toArray, List.getElem?_cons_zero, List.getElem?_cons_succ, Option.bind_some, Act.put, List.setIfInBounds_toArray, List.set_cons_succ, List.set_cons_zero]
 rw [e0, e1]
 clear e0 e1 hC hn E4 hL vs L nb
 go_upto_region 2 with (fail)
 refine region_fr (C := [Fq.st [.n 0, .n 0, .v (.bool true)], Fq.any]) (ks := [some (1, Fq.st [.n 0, .n 0, .v (.bool true)]), none, none]) (new := []) E rfl (by kernel_rfl) rfl rfl (fun hp => ⟨?_, ?_, trivial⟩) ?_
 ·exact q_build_api_Point_2 (u2 := true) hp (free_of rfl) trivial (sq_const (fun _ => rfl)) (fun v w h => h)
 ·exact q_storeOldSt (off := 0) (fs := [.n 0, .n 0, .v (.bool false)]) (gs := [.n 0, .n 0, .v (.bool true)]) (fs' := [.n 0, .n 0, .v (.bool true)]) hp (mq 0 rfl) rfl rfl rfl size_api_Point rfl (sqo 4) (sq_in 0 rfl rfl (by simp) rfl (fun v w h => fitv_st h)) (fun _ _ => trivial) (newik_ne rfl)
 intro L vs w5 nb hL hC hn E5
 have E : Fr w [(b3, 5, Fq.st [.n 0, .n 0, .v (.bool true)]), (b2, 5, Fq.st [.n x, .n y, .v (.bool true)]), (b1, 6, Fq.st [.n A, .n B, .n M])] w5 := E5
 rw [lay_all hL]
 simp only [putAll, dstOf, List.length_cons, List.length_nil, Nat.zero_add, Nat.reduceAdd, List.getElem?_toArray, List.getElem?_cons_zero, List.getElem?_cons_succ, Option.bind_some, Act.put, List.setIfInBounds_toArray, List.set_cons_succ, List.set_cons_zero]
 generalize vs 0 = u5_0
 clear  hC hn E5 hL vs L nb
 clear HX0 HM0
 obtain ⟨_, _, hc0, hf0⟩ := box_st (E.box 0 rfl)
 have hP0 := hf0
 obtain ⟨r0_p0, r0_q0, _, rfl, _r0_n0, r0_p1, r0_q1, _, rfl, _r0_n1, _, rfl, _, rfl⟩ := hf0
 have c0_0 := hc0 0 (by simp)
 have c0_1 := hc0 1 (by simp)
 have c0_2 := hc0 2 (by simp)
 have c0_3 := hc0 3 (by simp)
 have c0_4 := hc0 4 (by simp)
 simp only [List.getD_cons_zero, List.getD_cons_succ] at c0_0 c0_1 c0_2 c0_3 c0_4
 clear hc0
 clear hM hx hy
 go_wp2
 refine bodyPost_ret (v := .agg #[r0_p0, r0_q0, r0_p1, r0_q1, .bool true]) ?_ rfl ⟨_, rfl, E.below, ⟨_, rfl, hP0⟩⟩
 simp [results, Try.results37, go_sem, c0_0, c0_1, c0_2, c0_3, c0_4]

set_option maxRecDepth 100000 in
set_option maxHeartbeats 4000000 in
theorem exOppF {w : World} {v v' : Value} {A B M x y : Int} (h : (Fq.st [.n A, .n B, .n M]).P v w) (h' : (Fq.st [.n x, .n y, .v (.bool false)]).P v' w) (hM : ab M < pw 5) (hx : ab x < pw 5) (hy : ab y < pw 5) (hx0 : 0 ≤ x) (hM0 : 0 < M) :
  Calls Try.prog 37 #[v, v'] w fun e w' => ∃ v', e = .returned v' ∧ Below w.heap.size w w' ∧ (Fq.st [.n x, .n ((-y) % M), .v (.bool false)]).P v' w' := by
 replace hM := hidd hM
 replace hx := hidd hx
 replace hy := hidd hy
 have HX0 := hidd hx0
 have HM0 := hidd hM0
 clear hx0 hM0
 obtain ⟨_, rfl, hf0⟩ := h
 have hF0 := hf0
 obtain ⟨y0_p0, y0_q0, _, rfl, _y0_n0, y0_p1, y0_q1, _, rfl, _y0_n1, y0_p2, y0_q2, _, rfl, _y0_n2, rfl⟩ := hf0
 obtain ⟨_, rfl, hf1⟩ := h'
 have hF1 := hf1
 obtain ⟨y1_p0, y1_q0, _, rfl, _y1_n0, y1_p1, y1_q1, _, rfl, _y1_n1, _, rfl, _, rfl⟩ := hf1
 obtain ⟨w1, b1, hw1, hb1, hs1, E⟩ := fr_start w (F := Fq.st [.n A, .n B, .n M]) (us := [y0_p0, y0_q0, y0_p1, y0_q1, y0_p2, y0_q2]) 31 rfl (by simp) (hF0.tame) (show (Fq.st [.n A, .n B, .n M]).P _ w from ⟨_, rfl, hF0⟩)
 obtain ⟨w2, b2, hw2, hb2, hs2, E⟩ := fr_more E hs1 (F := Fq.st [.n x, .n y, .v (.bool false)]) (us := [y1_p0, y1_q0, y1_p1, y1_q1, .bool false]) 37 rfl (by simp) (hF1.tame) ((Fq.st [.n x, .n y, .v (.bool false)]).mono (show (Fq.st [.n x, .n y, .v (.bool false)]).P _ w from ⟨_, rfl, hF1⟩) E.below)
 obtain ⟨w3, b3, hw3, hb3, hs3, E⟩ := fr_more E hs2 (F := Fq.st [.n 0, .n 0, .v (.bool false)]) (us := [.bool false, .slice none 0 0, .bool false, .slice none 0 0, .bool false]) 37 rfl (by simp) ((Fits.tame (fits0_api_Point w))) (fits0P_api_Point _)
 go_enter Try.func37, Try.ntmps37
 go_upto_region 1 with (fail)
 rw [← hw1]
 rw [← hw2]
 rw [← hw3]
 rw [← hb3]
 rw [← hb2]
 rw [← hb1]
 clear hw1 hw2 hw3 hb1 hb2 hb3 hs3 hs1 hs2
 refine region_fr (C := [Fq.is (.pointer (some ⟨b2, 4, none⟩)), Fq.is (.bool false)]) (ks := [none, none, none]) (new := []) E rfl (by kernel_rfl) rfl rfl (fun hp => ⟨?_, ?_, trivial⟩) ?_
 ·exact q_addr (b := b2) (off := 0) (off' := 4) hp (free_of rfl) trivial (sqo 3) (fun ρ w h => by simp [execOp, go_sem, h]) (fun _ => rfl)
 ·exact q_load1 (off := 4) (fs := [.n x, .n y, .v (.bool false)]) (u := .bool false) hp (free_of rfl) trivial (mq 1 rfl) (.inl rfl) rfl rfl (fun ρ w b h1 h2 => by simp [execOp, go_sem, h1, h2]) (sqi 0) (fun _ => rfl)
 intro L vs w4 nb hL hC hn E4
 have e0 : vs 0 = .pointer (some ⟨b2, 4, none⟩) := hC 0 (by simp)
 have e1 : vs 1 = .bool false := hC 1 (by simp)
 have E : Fr w [(b3, 5, Fq.st [.n 0, .n 0, .v (.bool false)]), (b2, 5, Fq.st [.n x, .n y, .v (.bool false)]), (b1, 6, Fq.st [.n A, .n B, .n M])] w4 := E4
 rw [lay_all hL]
 simp only [putAll, dstOf, List.length_cons, List.length_nil, Nat.zero_add, Nat.reduceAdd, List.getElem?_toArray, List.getElem?_cons_zero, List.getElem?_cons_succ, Option.bind_some, Act.put, List.setIfInBounds_toArray, List.set_cons_succ, List.set_cons_zero]
 rw [e0, e1]
 clear e0 e1 hC hn E4 hL vs L nb
 go_upto_region 3 with (fail)
 have B5 : Hid (ab ((-y)) < pw 5) := ab_negB hy.out
 refine region_fr (C := [Fq.is (.pointer (some ⟨b2, 0, none⟩)), Fq.num x, Fq.num x, Fq.is (.pointer (some ⟨b2, 2, none⟩)), Fq.num y, Fq.num (-y), Fq.is (.pointer (some ⟨b1, 4, none⟩)), Fq.num M, Fq.num ((-y) % M), Fq.st [.n x, .n ((-y) % M), .v (.bool false)], Fq.any]) (ks := [some (10, Fq.st [.n x, .n ((-y) % M), .v (.bool false)]), none, none]) (new := []) E rfl (by kernel_rfl) rfl rfl (fun hp => ⟨?_, ?_, ?_, ?_, ?_, ?_, ?_, ?_, ?_, ?_, ?_, trivial⟩) ?_
 ·exact q_addr (b := b2) (off := 0) (off' := 0) hp (free_of rfl) trivial (sqo 3) (fun ρ w h => by simp [execOp, go_sem, h]) (fun _ => rfl)
 ·exact q_loadSt (off := 0) (l := 2) (fs := [.n x, .n y, .v (.bool false)]) (gs := [.n x]) hp (free_of rfl) trivial (mq 1 rfl) (.inl rfl) rfl row_api_Int rfl (sqi 0) (fun v w h => st_num h)
 ·exact q_call1 (F := (Fq.num x).P) hp (free_of rfl) trivial (enq_Abs) (sqi 1) (fun v w h => exAbsN h (Int.lt_of_lt_of_le hx.out (pw_le (by omega))) HX0.out)
 ·exact q_addr (b := b2) (off := 0) (off' := 2) hp (free_of rfl) trivial (sqo 3) (fun ρ w h => by simp [execOp, go_sem, h]) (fun _ => rfl)
 ·exact q_loadSt (off := 2) (l := 2) (fs := [.n x, .n y, .v (.bool false)]) (gs := [.n y]) hp (free_of rfl) trivial (mq 1 rfl) (.inl rfl) rfl row_api_Int rfl (sqi 3) (fun v w h => st_num h)
 ·exact q_call1 (F := (Fq.num y).P) hp (free_of rfl) trivial (enq_Neg) (sqi 4) (fun v w h => exK (NegV h) B5.out (by omega))
 ·exact q_addr (b := b1) (off := 0) (off' := 4) hp (free_of rfl) trivial (sqo 2) (fun ρ w h => by simp [execOp, go_sem, h]) (fun _ => rfl)
 ·exact q_loadSt (off := 4) (l := 2) (fs := [.n A, .n B, .n M]) (gs := [.n M]) hp (free_of rfl) trivial (mq 2 rfl) (.inl rfl) rfl row_api_Int rfl (sqi 6) (fun v w h => st_num h)
 ·exact q_call2 (F := (Fq.num (-y)).P) (G := (Fq.num M).P) hp (free_of rfl) trivial (enq_f_algorist_point_residue) (sqi 5) (sqi 7) (fun v v' w h h' => exResP h h' (Int.lt_of_lt_of_le B5.out (pw_le (by omega))) (Int.lt_of_lt_of_le hM.out (pw_le (by omega))) HM0.out)
 ·exact q_build_api_Point_01 (z0 := x) (z1 := ((-y) % M)) hp (free_of rfl) trivial (sqi 2) (sqi 8) (fun v w h => h)
 ·exact q_storeOldSt (off := 0) (fs := [.n 0, .n 0, .v (.bool false)]) (gs := [.n x, .n ((-y) % M), .v (.bool false)]) (fs' := [.n x, .n ((-y) % M), .v (.bool false)]) hp (mq 0 rfl) rfl rfl rfl size_api_Point rfl (sqo 4) (sq_in 9 rfl rfl (by simp) rfl (fun v w h => fitv_st h)) (fun _ _ => trivial) (newik_ne rfl)
 intro L vs w6 nb hL hC hn E6
 have e0 : vs 0 = .pointer (some ⟨b2, 0, none⟩) := hC 0 (by simp)
 have e3 : vs 3 = .pointer (some ⟨b2, 2, none⟩) := hC 3 (by simp)
 have e6 : vs 6 = .pointer (some ⟨b1, 4, none⟩) := hC 6 (by simp)
 have E : Fr w [(b3, 5, Fq.st [.n x, .n ((-y) % M), .v (.bool false)]), (b2, 5, Fq.st [.n x, .n y, .v (.bool false)]), (b1, 6, Fq.st [.n A, .n B, .n M])] w6 := E6
 rw [lay_all hL]
 simp only [putAll, dstOf, List.length_cons, List.length_nil, Nat.zero_add, Nat.reduceAdd, List.getElem?_toArray, List.getElem?_cons_zero, List.getElem?_cons_succ, Option.bind_some, Act.put, List.setIfInBounds_toArray, List.set_cons_succ, List.set_cons_zero]
 rw [e0, e3, e6]
 generalize vs 1 = u6_1
 generalize vs 2 = u6_2
 generalize vs 4 = u6_4
 generalize vs 5 = u6_5
 generalize vs 7 = u6_7
 generalize vs 8 = u6_8
 generalize vs 9 = u6_9
 clear e0 e3 e6 hC hn E6 hL vs L nb
 clear HX0 HM0
 obtain ⟨_, _, hc0, hf0⟩ := box_st (E.box 0 rfl)
 have hP0 := hf0
 obtain ⟨r0_p0, r0_q0, _, rfl, _r0_n0, r0_p1, r0_q1, _, rfl, _r0_n1, _, rfl, _, rfl⟩ := hf0
 have c0_0 := hc0 0 (by simp)
 have c0_1 := hc0 1 (by simp)
 have c0_2 := hc0 2 (by simp)
 have c0_3 := hc0 3 (by simp)
 have c0_4 := hc0 4 (by simp)
 simp only [List.getD_cons_zero, List.getD_cons_succ] at c0_0 c0_1 c0_2 c0_3 c0_4
 clear hc0
 clear B5 hM hx hy
 go_wp2
 refine bodyPost_ret (v := .agg #[r0_p0, r0_q0, r0_p1, r0_q1, .bool false]) ?_ rfl ⟨_, rfl, E.below, ⟨_, rfl, hP0⟩⟩
 simp [results, Try.results37, go_sem, c0_0, c0_1, c0_2, c0_3, c0_4]

theorem exOppP {w : World} {v v' : Value} {A B M : Int} {P : Pt} (h : (Fq.st [.n A, .n B, .n M]).P v w) (h' : (Fq.pt P).P v' w) (hM : ab M < pw 5) (hP : P.Ok M) : Calls Try.prog 37 #[v, v'] w fun e w' => ∃ v', e = .returned v' ∧ Below w.heap.size w w' ∧ (Fq.pt (oppP M P)).P v' w' := by
 obtain ⟨x, y, i⟩ := P
 have h1 := hP.ab hM
 cases i with
 | true => exact exOppI h h' hM h1.1 h1.2 hP.1 (by have := hP.1; have := hP.2.1; omega)
 | false => exact exOppF h h' hM h1.1 h1.2 hP.1 (by have := hP.1; have := hP.2.1; omega)

set_option maxRecDepth 100000 in
set_option maxHeartbeats 4000000 in
theorem exSlope {w : World} {v v' u : Value} {A B M x1 y1 x2 y2 : Int} {i1 i2 : Bool} (h : (Fq.st [.n A, .n B, .n M]).P v w) (h' : (Fq.st [.n x1, .n y1, .v (.bool i1)]).P v' w) (h2 : (Fq.st [.n x2, .n y2, .v (.bool i2)]).P u w) (hM : ab M < pw 5) (hA : ab A < pw 5) (hx1 : ab x1 < pw 5) (hy1 : ab y1 < pw 5) (hx2 : ab x2 < pw 5) (hy2 : ab y2 < pw 5) (hM0 : 0 < M) {N D : Int} (hN : slN A x1 y1 x2 y2 = N) (hD : slD M x1 y1 x2 y2 = D) :
  Calls Try.prog 76 #[v, v', u] w fun e w' => ∃ v', e = .returned v' ∧ Below w.heap.size w w' ∧ (Fq.tup2 (Fq.num N) (Fq.num D)).P v' w' := by
 replace hM := hidd hM
 replace hA := hidd hA
 replace hx1 := hidd hx1
 replace hy1 := hidd hy1
 replace hx2 := hidd hx2
 replace hy2 := hidd hy2
 have HM0 := hidd hM0
 clear hM0
 obtain ⟨_, rfl, hf0⟩ := h
 have hF0 := hf0
 obtain ⟨y0_p0, y0_q0, _, rfl, _y0_n0, y0_p1, y0_q1, _, rfl, _y0_n1, y0_p2, y0_q2, _, rfl, _y0_n2, rfl⟩ := hf0
 obtain ⟨_, rfl, hf1⟩ := h'
 have hF1 := hf1
 obtain ⟨y1_p0, y1_q0, _, rfl, _y1_n0, y1_p1, y1_q1, _, rfl, _y1_n1, _, rfl, _, rfl⟩ := hf1
 obtain ⟨_, rfl, hf2⟩ := h2
 have hF2 := hf2
 obtain ⟨y2_p0, y2_q0, _, rfl, _y2_n0, y2_p1, y2_q1, _, rfl, _y2_n1, _, rfl, _, rfl⟩ := hf2
 obtain ⟨w1, b1, hw1, hb1, hs1, E⟩ := fr_start w (F := Fq.st [.n A, .n B, .n M]) (us := [y0_p0, y0_q0, y0_p1, y0_q1, y0_p2, y0_q2]) 31 rfl (by simp) (hF0.tame) (show (Fq.st [.n A, .n B, .n M]).P _ w from ⟨_, rfl, hF0⟩)
 obtain ⟨w2, b2, hw2, hb2, hs2, E⟩ := fr_more E hs1 (F := Fq.st [.n x1, .n y1, .v (.bool i1)]) (us := [y1_p0, y1_q0, y1_p1, y1_q1, .bool i1]) 37 rfl (by simp) (hF1.tame) ((Fq.st [.n x1, .n y1, .v (.bool i1)]).mono (show (Fq.st [.n x1, .n y1, .v (.bool i1)]).P _ w from ⟨_, rfl, hF1⟩) E.below)
 obtain ⟨w3, b3, hw3, hb3, hs3, E⟩ := fr_more E hs2 (F := Fq.st [.n x2, .n y2, .v (.bool i2)]) (us := [y2_p0, y2_q0, y2_p1, y2_q1, .bool i2]) 37 rfl (by simp) (hF2.tame) ((Fq.st [.n x2, .n y2, .v (.bool i2)]).mono (show (Fq.st [.n x2, .n y2, .v (.bool i2)]).P _ w from ⟨_, rfl, hF2⟩) E.below)
 obtain ⟨w4, b4, hw4, hb4, hs4, E⟩ := fr_more E hs3 (F := Fq.num 0) (us := [.bool false, .slice none 0 0]) 29 rfl (by simp) (tame_int _ _ _ _) (Num.zero _)
 obtain ⟨w5, b5, hw5, hb5, hs5, E⟩ := fr_more E hs4 (F := Fq.num 0) (us := [.bool false, .slice none 0 0]) 29 rfl (by simp) (tame_int _ _ _ _) (Num.zero _)
 go_enter Try.func76, Try.ntmps76
 go_upto_region 1 with (fail)
 rw [← hw1]
 rw [← hw2]
 rw [← hw3]
 rw [← hw4]
 rw [← hw5]
 rw [← hb5]
 rw [← hb4]
 rw [← hb3]
 rw [← hb2]
 rw [← hb1]
 clear hw1 hw2 hw3 hw4 hw5 hb1 hb2 hb3 hb4 hb5 hs5 hs1 hs2 hs3 hs4
 by_cases h0 : x1 = x2
 ·have T1 : Hid (cmpI x1 x2 = 0) := cmpIq0.2 h0
  unfold slN at hN
  unfold slD at hD
  rw [if_pos h0] at hN hD
  subst hN hD
  clear h0
  refine region_fr (C := [Fq.is (.pointer (some ⟨b2, 0, none⟩)), Fq.num x1, Fq.is (.pointer (some ⟨b3, 0, none⟩)), Fq.num x2, Fq.is (.int .i64 (cmpI x1 x2)), Fq.is (.bool false)]) (ks := [none, none, none, none, none]) (new := []) E rfl (by kernel_rfl) rfl rfl (fun hp => ⟨?_, ?_, ?_, ?_, ?_, ?_, trivial⟩) ?_
  ·exact q_addr (b := b2) (off := 0) (off' := 0) hp (free_of rfl) trivial (sqo 4) (fun ρ w h => by simp [execOp, go_sem, h]) (fun _ => rfl)
  ·exact q_loadSt (off := 0) (l := 2) (fs := [.n x1, .n y1, .v (.bool i1)]) (gs := [.n x1]) hp (free_of rfl) trivial (mq 3 rfl) (.inl rfl) rfl row_api_Int rfl (sqi 0) (fun v w h => st_num h)
  ·exact q_addr (b := b3) (off := 0) (off' := 0) hp (free_of rfl) trivial (sqo 5) (fun ρ w h => by simp [execOp, go_sem, h]) (fun _ => rfl)
  ·exact q_loadSt (off := 0) (l := 2) (fs := [.n x2, .n y2, .v (.bool i2)]) (gs := [.n x2]) hp (free_of rfl) trivial (mq 2 rfl) (.inl rfl) rfl row_api_Int rfl (sqi 2) (fun v w h => st_num h)
  ·exact q_call2 (F := (Fq.num x1).P) (G := (Fq.num x2).P) hp (free_of rfl) trivial (enq_Cmp) (sqi 1) (sqi 3) (fun v v' w h h' => exCmp h h')
  ·exact q_one (F := fun v _ => v = .int .i64 (cmpI x1 x2)) hp (free_of rfl) trivial (sqi 4) (fun ρ w hc h => ⟨.bool false, by simp [execOp, go_sem, h, hc, T1.out], rfl⟩)
  intro L vs w6 nb hL hC hn E6
  have e0 : vs 0 = .pointer (some ⟨b2, 0, none⟩) := hC 0 (by simp)
  have e2 : vs 2 = .pointer (some ⟨b3, 0, none⟩) := hC 2 (by simp)
  have e4 : vs 4 = .int .i64 (cmpI x1 x2) := hC 4 (by simp)
  have e5 : vs 5 = .bool false := hC 5 (by simp)
  have E : Fr w [(b5, 2, Fq.num 0), (b4, 2, Fq.num 0), (b3, 5, Fq.st [.n x2, .n y2, .v (.bool i2)]), (b2, 5, Fq.st [.n x1, .n y1, .v (.bool i1)]), (b1, 6, Fq.st [.n A, .n B, .n M])] w6 := E6
  rw [lay_all hL]
  simp only [putAll, dstOf, List.length_cons, List.length_nil, Nat.zero_add, Nat.reduceAdd, List.getElem?_toArray, List.getElem?_cons_zero, List.getElem?_cons_succ, Option.bind_some, Act.put, List.setIfInBounds_toArray, List.set_cons_succ, List.set_cons_zero]
  rw [e0, e2, e4, e5]
  generalize vs 1 = u6_1
  generalize vs 3 = u6_3
  clear e0 e2 e4 e5 hC hn E6 hL vs L nb
  clear T1
  go_upto_region 3 with (fail)
  have B7 : Hid (ab ((3)) < pw 3) := ab_lit (by decide)
  have B8 : Hid (ab ((x1 * x1)) < pw 10) := ab_mulM hx1.out hx1.out (by omega)
  have B9 : Hid (ab (((3) * (x1 * x1))) < pw 13) := ab_mulM B7.out B8.out (by omega)
  have B10 : Hid (ab ((((3) * (x1 * x1)) + A)) < pw 14) := ab_addB B9.out hA.out (by omega) (by omega)
  refine region_fr (C := [Fq.num (3), Fq.is (.pointer (some ⟨b2, 0, none⟩)), Fq.num x1, Fq.is (.pointer (some ⟨b2, 0, none⟩)), Fq.num x1, Fq.num (x1 * x1), Fq.num ((3) * (x1 * x1)), Fq.is (.pointer (some ⟨b1, 0, none⟩)), Fq.num A, Fq.num (((3) * (x1 * x1)) + A), Fq.any, Fq.any]) (ks := [none, none, none, none, none]) (new := [⟨10, 11, 2, Fq.num 0, Fq.num (((3) * (x1 * x1)) + A), none⟩]) E rfl (by kernel_rfl) rfl rfl (fun hp => ⟨?_, ?_, ?_, ?_, ?_, ?_, ?_, ?_, ?_, ?_, ?_, ?_, trivial⟩) ?_
  ·exact q_call1 (F := (Fq.is (.int .i64 3)).P) hp (free_of rfl) trivial (enq_Of) (sq_const (fun _ => rfl)) (fun v w h => (by subst h; exact OfK w (3) (by omega) (by omega)))
  ·exact q_addr (b := b2) (off := 0) (off' := 0) hp (free_of rfl) trivial (sqo 4) (fun ρ w h => by simp [execOp, go_sem, h]) (fun _ => rfl)
  ·exact q_loadSt (off := 0) (l := 2) (fs := [.n x1, .n y1, .v (.bool i1)]) (gs := [.n x1]) hp (free_of rfl) trivial (mq 3 rfl) (.inl rfl) rfl row_api_Int rfl (sqi 1) (fun v w h => st_num h)
  ·exact q_addr (b := b2) (off := 0) (off' := 0) hp (free_of rfl) trivial (sqo 4) (fun ρ w h => by simp [execOp, go_sem, h]) (fun _ => rfl)
  ·exact q_loadSt (off := 0) (l := 2) (fs := [.n x1, .n y1, .v (.bool i1)]) (gs := [.n x1]) hp (free_of rfl) trivial (mq 3 rfl) (.inl rfl) rfl row_api_Int rfl (sqi 3) (fun v w h => st_num h)
  ·exact q_call2 (F := (Fq.num x1).P) (G := (Fq.num x1).P) hp (free_of rfl) trivial (enq_Mul) (sqi 2) (sqi 4) (fun v v' w h h' => exK (MulV h h') B8.out (by omega))
  ·exact q_call2 (F := (Fq.num (3)).P) (G := (Fq.num (x1 * x1)).P) hp (free_of rfl) trivial (enq_Mul) (sqi 0) (sqi 5) (fun v v' w h h' => exK (MulV h h') B9.out (by omega))
  ·exact q_addr (b := b1) (off := 0) (off' := 0) hp (free_of rfl) trivial (sqo 3) (fun ρ w h => by simp [execOp, go_sem, h]) (fun _ => rfl)
  ·exact q_loadSt (off := 0) (l := 2) (fs := [.n A, .n B, .n M]) (gs := [.n A]) hp (free_of rfl) trivial (mq 4 rfl) (.inl rfl) rfl row_api_Int rfl (sqi 7) (fun v w h => st_num h)
  ·exact q_call2 (F := (Fq.num ((3) * (x1 * x1))).P) (G := (Fq.num A).P) hp (free_of rfl) trivial (enq_Add) (sqi 6) (sqi 8) (fun v v' w h h' => exK (AddV h h') B10.out (by omega))
  ·exact q_allocInt hp (mq 0 rfl) rfl rfl rfl rfl (Nat.ne_of_beq_eq_false rfl) (fun _ _ => trivial) (old_ne rfl) (newk_ne rfl) (fun w => Num.zero w)
  ·exact q_storeNewInt hp (mq 0 rfl) rfl rfl rfl (own_ptr rfl rfl (by simp) rfl) (sq_in 9 rfl rfl (by simp) rfl (fun v w h => intV_num h)) (fun _ _ => trivial) (old_ne rfl) (newi_ne rfl)
  intro L vs w11 nb hL hC hn E11
  have e1 : vs 1 = .pointer (some ⟨b2, 0, none⟩) := hC 1 (by simp)
  have e3 : vs 3 = .pointer (some ⟨b2, 0, none⟩) := hC 3 (by simp)
  have e7 : vs 7 = .pointer (some ⟨b1, 0, none⟩) := hC 7 (by simp)
  have e10 : vs 10 = .pointer (some ⟨nb 10, 0, none⟩) := hn _ (mq 0 rfl)
  have E : Fr w [(nb 10, 2, Fq.num (((3) * (x1 * x1)) + A)), (b5, 2, Fq.num 0), (b4, 2, Fq.num 0), (b3, 5, Fq.st [.n x2, .n y2, .v (.bool i2)]), (b2, 5, Fq.st [.n x1, .n y1, .v (.bool i1)]), (b1, 6, Fq.st [.n A, .n B, .n M])] w11 := E11
  rw [lay_all hL]
  simp only [putAll, dstOf, List.length_cons, List.length_nil, Nat.zero_add, Nat.reduceAdd, List.getElem?_toArray, List.getElem?_cons_zero, List.getElem?_cons_succ, Option.bind_some, Act.put, List.setIfInBounds_toArray, List.set_cons_succ, List.set_cons_zero]
  rw [e1, e3, e7, e10]
  generalize nb 10 = b11_10 at E ⊢
  generalize vs 0 = u11_0
  generalize vs 2 = u11_2
  generalize vs 4 = u11_4
  generalize vs 5 = u11_5
  generalize vs 6 = u11_6
  generalize vs 8 = u11_8
  generalize vs 9 = u11_9
  clear e1 e3 e7 e10 hC hn E11 hL vs L nb
  go_upto_region 4 with (fail)
  have B12 : Hid (ab ((y1 + y2)) < pw 6) := ab_addB hy1.out hy2.out (by omega) (by omega)
  refine region_fr (C := [Fq.num (((3) * (x1 * x1)) + A), Fq.is (.pointer (some ⟨b2, 2, none⟩)), Fq.num y1, Fq.is (.pointer (some ⟨b3, 2, none⟩)), Fq.num y2, Fq.num (y1 + y2), Fq.is (.pointer (some ⟨b1, 4, none⟩)), Fq.num M, Fq.num ((y1 + y2) % M), Fq.any, Fq.any]) (ks := [none, some (10, Fq.num ((y1 + y2) % M)), some (9, Fq.num (((3) * (x1 * x1)) + A)), none, none, none]) (new := []) E rfl (by kernel_rfl) rfl rfl (fun hp => ⟨?_, ?_, ?_, ?_, ?_, ?_, ?_, ?_, ?_, ?_, ?_, trivial⟩) ?_
  ·exact q_loadInt (off := 0) hp (free_of rfl) trivial (mq 0 rfl) (.inl rfl) (Nat.le_of_ble_eq_true rfl) (sqo 8) (fun us w hl h => ld_num hl h)
  ·exact q_addr (b := b2) (off := 0) (off' := 2) hp (free_of rfl) trivial (sqo 4) (fun ρ w h => by simp [execOp, go_sem, h]) (fun _ => rfl)
  ·exact q_loadSt (off := 2) (l := 2) (fs := [.n x1, .n y1, .v (.bool i1)]) (gs := [.n y1]) hp (free_of rfl) trivial (mq 4 rfl) (.inl rfl) rfl row_api_Int rfl (sqi 1) (fun v w h => st_num h)
  ·exact q_addr (b := b3) (off := 0) (off' := 2) hp (free_of rfl) trivial (sqo 5) (fun ρ w h => by simp [execOp, go_sem, h]) (fun _ => rfl)
  ·exact q_loadSt (off := 2) (l := 2) (fs := [.n x2, .n y2, .v (.bool i2)]) (gs := [.n y2]) hp (free_of rfl) trivial (mq 3 rfl) (.inl rfl) rfl row_api_Int rfl (sqi 3) (fun v w h => st_num h)
  ·exact q_call2 (F := (Fq.num y1).P) (G := (Fq.num y2).P) hp (free_of rfl) trivial (enq_Add) (sqi 2) (sqi 4) (fun v v' w h h' => exK (AddV h h') B12.out (by omega))
  ·exact q_addr (b := b1) (off := 0) (off' := 4) hp (free_of rfl) trivial (sqo 3) (fun ρ w h => by simp [execOp, go_sem, h]) (fun _ => rfl)
  ·exact q_loadSt (off := 4) (l := 2) (fs := [.n A, .n B, .n M]) (gs := [.n M]) hp (free_of rfl) trivial (mq 5 rfl) (.inl rfl) rfl row_api_Int rfl (sqi 6) (fun v w h => st_num h)
  ·exact q_call2 (F := (Fq.num (y1 + y2)).P) (G := (Fq.num M).P) hp (free_of rfl) trivial (enq_f_algorist_point_residue) (sqi 5) (sqi 7) (fun v v' w h h' => exResP h h' (Int.lt_of_lt_of_le B12.out (pw_le (by omega))) (Int.lt_of_lt_of_le hM.out (pw_le (by omega))) HM0.out)
  ·exact q_storeOldInt hp (mq 2 rfl) rfl rfl (sqo 6) (sq_in 0 rfl rfl (by simp) rfl (fun v w h => intV_num h)) (fun _ _ => trivial) (newik_ne rfl)
  ·exact q_storeOldInt hp (mq 1 rfl) rfl rfl (sqo 7) (sq_in 8 rfl rfl (by simp) rfl (fun v w h => intV_num h)) (fun _ _ => trivial) (newik_ne rfl)
  intro L vs w13 nb hL hC hn E13
  have e1 : vs 1 = .pointer (some ⟨b2, 2, none⟩) := hC 1 (by simp)
  have e3 : vs 3 = .pointer (some ⟨b3, 2, none⟩) := hC 3 (by simp)
  have e6 : vs 6 = .pointer (some ⟨b1, 4, none⟩) := hC 6 (by simp)
  have E : Fr w [(b11_10, 2, Fq.num (((3) * (x1 * x1)) + A)), (b5, 2, Fq.num ((y1 + y2) % M)), (b4, 2, Fq.num (((3) * (x1 * x1)) + A)), (b3, 5, Fq.st [.n x2, .n y2, .v (.bool i2)]), (b2, 5, Fq.st [.n x1, .n y1, .v (.bool i1)]), (b1, 6, Fq.st [.n A, .n B, .n M])] w13 := E13
  rw [lay_all hL]
  simp only [putAll, dstOf, List.length_cons, List.length_nil, Nat.zero_add, Nat.reduceAdd, List.getElem?_toArray, List.getElem?_cons_zero, List.getElem?_cons_succ, Option.bind_some, Act.put, List.setIfInBounds_toArray, List.set_cons_succ, List.set_cons_zero]
  rw [e1, e3, e6]
  generalize vs 0 = u13_0
  generalize vs 2 = u13_2
  generalize vs 4 = u13_4
  generalize vs 5 = u13_5
  generalize vs 7 = u13_7
  generalize vs 8 = u13_8
  clear e1 e3 e6 hC hn E13 hL vs L nb
  clear HM0
  obtain ⟨p0_0, p0_1, c0_0, c0_1, hP0⟩ := box_num (E.box 2 rfl)
  obtain ⟨p1_0, p1_1, c1_0, c1_1, hP1⟩ := box_num (E.box 1 rfl)
  clear B7 B8 B9 B10 B12 hM hA hx1 hy1 hx2 hy2
  go_wp2
  refine bodyPost_ret (v := .tuple #[.agg #[p0_0, p0_1], .agg #[p1_0, p1_1]]) ?_ rfl ⟨_, rfl, E.below, ⟨_, _, rfl, hP0, hP1⟩⟩
  simp [results, Try.results76, go_sem, c0_0, c0_1, c1_0, c1_1]
 ·have T1 : Hid (¬ cmpI x1 x2 = 0) := fun e => h0 (cmpIq0.1 e)
  unfold slN at hN
  unfold slD at hD
  rw [if_neg h0] at hN hD
  subst hN hD
  clear h0
  refine region_fr (C := [Fq.is (.pointer (some ⟨b2, 0, none⟩)), Fq.num x1, Fq.is (.pointer (some ⟨b3, 0, none⟩)), Fq.num x2, Fq.is (.int .i64 (cmpI x1 x2)), Fq.is (.bool true)]) (ks := [none, none, none, none, none]) (new := []) E rfl (by kernel_rfl) rfl rfl (fun hp => ⟨?_, ?_, ?_, ?_, ?_, ?_, trivial⟩) ?_
  ·exact q_addr (b := b2) (off := 0) (off' := 0) hp (free_of rfl) trivial (sqo 4) (fun ρ w h => by simp [execOp, go_sem, h]) (fun _ => rfl)
  ·exact q_loadSt (off := 0) (l := 2) (fs := [.n x1, .n y1, .v (.bool i1)]) (gs := [.n x1]) hp (free_of rfl) trivial (mq 3 rfl) (.inl rfl) rfl row_api_Int rfl (sqi 0) (fun v w h => st_num h)
  ·exact q_addr (b := b3) (off := 0) (off' := 0) hp (free_of rfl) trivial (sqo 5) (fun ρ w h => by simp [execOp, go_sem, h]) (fun _ => rfl)
  ·exact q_loadSt (off := 0) (l := 2) (fs := [.n x2, .n y2, .v (.bool i2)]) (gs := [.n x2]) hp (free_of rfl) trivial (mq 2 rfl) (.inl rfl) rfl row_api_Int rfl (sqi 2) (fun v w h => st_num h)
  ·exact q_call2 (F := (Fq.num x1).P) (G := (Fq.num x2).P) hp (free_of rfl) trivial (enq_Cmp) (sqi 1) (sqi 3) (fun v v' w h h' => exCmp h h')
  ·exact q_one (F := fun v _ => v = .int .i64 (cmpI x1 x2)) hp (free_of rfl) trivial (sqi 4) (fun ρ w hc h => ⟨.bool true, by simp [execOp, go_sem, h, hc, T1.out], rfl⟩)
  intro L vs w14 nb hL hC hn E14
  have e0 : vs 0 = .pointer (some ⟨b2, 0, none⟩) := hC 0 (by simp)
  have e2 : vs 2 = .pointer (some ⟨b3, 0, none⟩) := hC 2 (by simp)
  have e4 : vs 4 = .int .i64 (cmpI x1 x2) := hC 4 (by simp)
  have e5 : vs 5 = .bool true := hC 5 (by simp)
  have E : Fr w [(b5, 2, Fq.num 0), (b4, 2, Fq.num 0), (b3, 5, Fq.st [.n x2, .n y2, .v (.bool i2)]), (b2, 5, Fq.st [.n x1, .n y1, .v (.bool i1)]), (b1, 6, Fq.st [.n A, .n B, .n M])] w14 := E14
  rw [lay_all hL]
  simp only [putAll, dstOf, List.length_cons, List.length_nil, Nat.zero_add, Nat.reduceAdd, List.getElem?_toArray, List.getElem?_cons_zero, List.getElem?_cons_succ, Option.bind_some, Act.put, List.setIfInBounds_toArray, List.set_cons_succ, List.set_cons_zero]
  rw [e0, e2, e4, e5]
  generalize vs 1 = u14_1
  generalize vs 3 = u14_3
  clear e0 e2 e4 e5 hC hn E14 hL vs L nb
  clear T1
  go_upto_region 2 with (fail)
  have B15 : Hid (ab ((y2 - y1)) < pw 6) := ab_subB hy2.out hy1.out (by omega) (by omega)
  have B16 : Hid (ab ((x2 - x1)) < pw 6) := ab_subB hx2.out hx1.out (by omega) (by omega)
  refine region_fr (C := [Fq.is (.pointer (some ⟨b3, 2, none⟩)), Fq.num y2, Fq.is (.pointer (some ⟨b2, 2, none⟩)), Fq.num y1, Fq.num (y2 - y1), Fq.is (.pointer (some ⟨b3, 0, none⟩)), Fq.num x2, Fq.is (.pointer (some ⟨b2, 0, none⟩)), Fq.num x1, Fq.num (x2 - x1), Fq.any, Fq.any]) (ks := [some (11, Fq.num (x2 - x1)), some (10, Fq.num (y2 - y1)), none, none, none]) (new := []) E rfl (by kernel_rfl) rfl rfl (fun hp => ⟨?_, ?_, ?_, ?_, ?_, ?_, ?_, ?_, ?_, ?_, ?_, ?_, trivial⟩) ?_
  ·exact q_addr (b := b3) (off := 0) (off' := 2) hp (free_of rfl) trivial (sqo 5) (fun ρ w h => by simp [execOp, go_sem, h]) (fun _ => rfl)
  ·exact q_loadSt (off := 2) (l := 2) (fs := [.n x2, .n y2, .v (.bool i2)]) (gs := [.n y2]) hp (free_of rfl) trivial (mq 2 rfl) (.inl rfl) rfl row_api_Int rfl (sqi 0) (fun v w h => st_num h)
  ·exact q_addr (b := b2) (off := 0) (off' := 2) hp (free_of rfl) trivial (sqo 4) (fun ρ w h => by simp [execOp, go_sem, h]) (fun _ => rfl)
  ·exact q_loadSt (off := 2) (l := 2) (fs := [.n x1, .n y1, .v (.bool i1)]) (gs := [.n y1]) hp (free_of rfl) trivial (mq 3 rfl) (.inl rfl) rfl row_api_Int rfl (sqi 2) (fun v w h => st_num h)
  ·exact q_call2 (F := (Fq.num y2).P) (G := (Fq.num y1).P) hp (free_of rfl) trivial (enq_Sub) (sqi 1) (sqi 3) (fun v v' w h h' => exK (SubV h h') B15.out (by omega))
  ·exact q_addr (b := b3) (off := 0) (off' := 0) hp (free_of rfl) trivial (sqo 5) (fun ρ w h => by simp [execOp, go_sem, h]) (fun _ => rfl)
  ·exact q_loadSt (off := 0) (l := 2) (fs := [.n x2, .n y2, .v (.bool i2)]) (gs := [.n x2]) hp (free_of rfl) trivial (mq 2 rfl) (.inl rfl) rfl row_api_Int rfl (sqi 5) (fun v w h => st_num h)
  ·exact q_addr (b := b2) (off := 0) (off' := 0) hp (free_of rfl) trivial (sqo 4) (fun ρ w h => by simp [execOp, go_sem, h]) (fun _ => rfl)
  ·exact q_loadSt (off := 0) (l := 2) (fs := [.n x1, .n y1, .v (.bool i1)]) (gs := [.n x1]) hp (free_of rfl) trivial (mq 3 rfl) (.inl rfl) rfl row_api_Int rfl (sqi 7) (fun v w h => st_num h)
  ·exact q_call2 (F := (Fq.num x2).P) (G := (Fq.num x1).P) hp (free_of rfl) trivial (enq_Sub) (sqi 6) (sqi 8) (fun v v' w h h' => exK (SubV h h') B16.out (by omega))
  ·exact q_storeOldInt hp (mq 1 rfl) rfl rfl (sqo 6) (sq_in 4 rfl rfl (by simp) rfl (fun v w h => intV_num h)) (fun _ _ => trivial) (newik_ne rfl)
  ·exact q_storeOldInt hp (mq 0 rfl) rfl rfl (sqo 7) (sq_in 9 rfl rfl (by simp) rfl (fun v w h => intV_num h)) (fun _ _ => trivial) (newik_ne rfl)
  intro L vs w17 nb hL hC hn E17
  have e0 : vs 0 = .pointer (some ⟨b3, 2, none⟩) := hC 0 (by simp)
  have e2 : vs 2 = .pointer (some ⟨b2, 2, none⟩) := hC 2 (by simp)
  have e5 : vs 5 = .pointer (some ⟨b3, 0, none⟩) := hC 5 (by simp)
  have e7 : vs 7 = .pointer (some ⟨b2, 0, none⟩) := hC 7 (by simp)
  have E : Fr w [(b5, 2, Fq.num (x2 - x1)), (b4, 2, Fq.num (y2 - y1)), (b3, 5, Fq.st [.n x2, .n y2, .v (.bool i2)]), (b2, 5, Fq.st [.n x1, .n y1, .v (.bool i1)]), (b1, 6, Fq.st [.n A, .n B, .n M])] w17 := E17
  rw [lay_all hL]
  simp only [putAll, dstOf, List.length_cons, List.length_nil, Nat.zero_add, Nat.reduceAdd, List.getElem?_toArray, List.getElem?_cons_zero, List.getElem?_cons_succ, Option.bind_some, Act.put, List.setIfInBounds_toArray, List.set_cons_succ, List.set_cons_zero]
  rw [e0, e2, e5, e7]
  generalize vs 1 = u17_1
  generalize vs 3 = u17_3
  generalize vs 4 = u17_4
  generalize vs 6 = u17_6
  generalize vs 8 = u17_8
  generalize vs 9 = u17_9
  clear e0 e2 e5 e7 hC hn E17 hL vs L nb
  clear HM0
  obtain ⟨p0_0, p0_1, c0_0, c0_1, hP0⟩ := box_num (E.box 1 rfl)
  obtain ⟨p1_0, p1_1, c1_0, c1_1, hP1⟩ := box_num (E.box 0 rfl)
  clear B15 B16 hM hA hx1 hy1 hx2 hy2
  go_wp2
  refine bodyPost_ret (v := .tuple #[.agg #[p0_0, p0_1], .agg #[p1_0, p1_1]]) ?_ rfl ⟨_, rfl, E.below, ⟨_, _, rfl, hP0, hP1⟩⟩
  simp [results, Try.results76, go_sem, c0_0, c0_1, c1_0, c1_1]

set_option maxRecDepth 100000 in
set_option maxHeartbeats 4000000 in
theorem exSumI {w : World} {v v' u : Value} {A B M x1 y1 x2 y2 : Int} {i2 : Bool} (h : (Fq.st [.n A, .n B, .n M]).P v w) (h' : (Fq.st [.n x1, .n y1, .v (.bool true)]).P v' w) (h2 : (Fq.st [.n x2, .n y2, .v (.bool i2)]).P u w) (hx2 : ab x2 < pw 5) (hy2 : ab y2 < pw 5) (h0x2 : 0 ≤ x2) (h0y2 : 0 ≤ y2) :
  Calls Try.prog 55 #[v, v', u] w fun e w' => ∃ v', e = .returned v' ∧ Below w.heap.size w w' ∧ (Fq.tup2 (Fq.st [.n x2, .n y2, .v (.bool i2)]) (Fq.num 0)).P v' w' := by
 replace hx2 := hidd hx2
 replace hy2 := hidd hy2
 have HX := hidd h0x2
 have HY := hidd h0y2
 clear h0x2 h0y2
 obtain ⟨_, rfl, hf0⟩ := h
 have hF0 := hf0
 obtain ⟨y0_p0, y0_q0, _, rfl, _y0_n0, y0_p1, y0_q1, _, rfl, _y0_n1, y0_p2, y0_q2, _, rfl, _y0_n2, rfl⟩ := hf0
 obtain ⟨_, rfl, hf1⟩ := h'
 have hF1 := hf1
 obtain ⟨y1_p0, y1_q0, _, rfl, _y1_n0, y1_p1, y1_q1, _, rfl, _y1_n1, _, rfl, _, rfl⟩ := hf1
 obtain ⟨_, rfl, hf2⟩ := h2
 have hF2 := hf2
 obtain ⟨y2_p0, y2_q0, _, rfl, _y2_n0, y2_p1, y2_q1, _, rfl, _y2_n1, _, rfl, _, rfl⟩ := hf2
 obtain ⟨w1, b1, hw1, hb1, hs1, E⟩ := fr_start w (F := Fq.st [.n A, .n B, .n M]) (us := [y0_p0, y0_q0, y0_p1, y0_q1, y0_p2, y0_q2]) 31 rfl (by simp) (hF0.tame) (show (Fq.st [.n A, .n B, .n M]).P _ w from ⟨_, rfl, hF0⟩)
 obtain ⟨w2, b2, hw2, hb2, hs2, E⟩ := fr_more E hs1 (F := Fq.st [.n x1, .n y1, .v (.bool true)]) (us := [y1_p0, y1_q0, y1_p1, y1_q1, .bool true]) 37 rfl (by simp) (hF1.tame) ((Fq.st [.n x1, .n y1, .v (.bool true)]).mono (show (Fq.st [.n x1, .n y1, .v (.bool true)]).P _ w from ⟨_, rfl, hF1⟩) E.below)
 obtain ⟨w3, b3, hw3, hb3, hs3, E⟩ := fr_more E hs2 (F := Fq.st [.n x2, .n y2, .v (.bool i2)]) (us := [y2_p0, y2_q0, y2_p1, y2_q1, .bool i2]) 37 rfl (by simp) (hF2.tame) ((Fq.st [.n x2, .n y2, .v (.bool i2)]).mono (show (Fq.st [.n x2, .n y2, .v (.bool i2)]).P _ w from ⟨_, rfl, hF2⟩) E.below)
 obtain ⟨w4, b4, hw4, hb4, hs4, E⟩ := fr_more E hs3 (F := Fq.st [.n 0, .n 0, .v (.bool false)]) (us := [.bool false, .slice none 0 0, .bool false, .slice none 0 0, .bool false]) 37 rfl (by simp) ((Fits.tame (fits0_api_Point w))) (fits0P_api_Point _)
 obtain ⟨w5, b5, hw5, hb5, hs5, E⟩ := fr_more E hs4 (F := Fq.num 0) (us := [.bool false, .slice none 0 0]) 29 rfl (by simp) (tame_int _ _ _ _) (Num.zero _)
 go_enter Try.func55, Try.ntmps55
 go_upto_region 1 with (fail)
 rw [← hw1]
 rw [← hw2]
 rw [← hw3]
 rw [← hw4]
 rw [← hw5]
 rw [← hb5]
 rw [← hb4]
 rw [← hb3]
 rw [← hb2]
 rw [← hb1]
 clear hw1 hw2 hw3 hw4 hw5 hb1 hb2 hb3 hb4 hb5 hs5 hs1 hs2 hs3 hs4
 refine region_fr (C := [Fq.is (.pointer (some ⟨b2, 4, none⟩)), Fq.is (.bool true), Fq.is (.bool true)]) (ks := [none, none, none, none, none]) (new := []) E rfl (by kernel_rfl) rfl rfl (fun hp => ⟨?_, ?_, ?_, trivial⟩) ?_
 ·exact q_addr (b := b2) (off := 0) (off' := 4) hp (free_of rfl) trivial (sqo 4) (fun ρ w h => by simp [execOp, go_sem, h]) (fun _ => rfl)
 ·exact q_load1 (off := 4) (fs := [.n x1, .n y1, .v (.bool true)]) (u := .bool true) hp (free_of rfl) trivial (mq 3 rfl) (.inl rfl) rfl rfl (fun ρ w b h1 h2 => by simp [execOp, go_sem, h1, h2]) (sqi 0) (fun _ => rfl)
 ·exact q_assign hp (free_of rfl) trivial (sqi 1)
 intro L vs w6 nb hL hC hn E6
 have e0 : vs 0 = .pointer (some ⟨b2, 4, none⟩) := hC 0 (by simp)
 have e1 : vs 1 = .bool true := hC 1 (by simp)
 have e2 : vs 2 = .bool true := hC 2 (by simp)
 have E : Fr w [(b5, 2, Fq.num 0), (b4, 5, Fq.st [.n 0, .n 0, .v (.bool false)]), (b3, 5, Fq.st [.n x2, .n y2, .v (.bool i2)]), (b2, 5, Fq.st [.n x1, .n y1, .v (.bool true)]), (b1, 6, Fq.st [.n A, .n B, .n M])] w6 := E6
 rw [lay_all hL]
 simp only [putAll, dstOf, List.length_cons, List.length_nil, Nat.zero_add, Nat.reduceAdd, List.getElem?_toArray, List.getElem?_cons_zero, List.getElem?_cons_succ, Option.bind_some, Act.put, List.setIfInBounds_toArray, List.set_cons_succ, List.set_cons_zero]
 rw [e0, e1, e2]
 clear e0 e1 e2 hC hn E6 hL vs L nb
 go_upto_region 2 with (fail)
 refine region_fr (C := [Fq.st [.n x2, .n y2, .v (.bool i2)], Fq.st [.n x2, .n y2, .v (.bool i2)], Fq.num 0, Fq.any, Fq.any]) (ks := [some (4, Fq.num 0), some (3, Fq.st [.n x2, .n y2, .v (.bool i2)]), none, none, none]) (new := []) E rfl (by kernel_rfl) rfl rfl (fun hp => ⟨?_, ?_, ?_, ?_, ?_, trivial⟩) ?_
 ·exact q_loadSt (off := 0) (l := 5) (fs := [.n x2, .n y2, .v (.bool i2)]) (gs := [.n x2, .n y2, .v (.bool i2)]) hp (free_of rfl) trivial (mq 2 rfl) (.inl rfl) rfl row_api_Point rfl (sqo 5) (fun v w h => h)
 ·exact q_call1 (F := (Fq.st [.n x2, .n y2, .v (.bool i2)]).P) hp (free_of rfl) trivial (enq_f_algorist_point_copied) (sqi 0) (fun v w h => exCopied h (Int.lt_of_lt_of_le hx2.out (pw_le (by omega))) (Int.lt_of_lt_of_le hy2.out (pw_le (by omega))) HX.out HY.out)
 ·exact q_zeroInt hp (free_of rfl) trivial (fun w => Num.zero w)
 ·exact q_storeOldSt (off := 0) (fs := [.n 0, .n 0, .v (.bool false)]) (gs := [.n x2, .n y2, .v (.bool i2)]) (fs' := [.n x2, .n y2, .v (.bool i2)]) hp (mq 1 rfl) rfl rfl rfl size_api_Point rfl (sqo 6) (sq_in 1 rfl rfl (by simp) rfl (fun v w h => fitv_st h)) (fun _ _ => trivial) (newik_ne rfl)
 ·exact q_storeOldInt hp (mq 0 rfl) rfl rfl (sqo 7) (sq_in 2 rfl rfl (by simp) rfl (fun v w h => intV_num h)) (fun _ _ => trivial) (newik_ne rfl)
 intro L vs w7 nb hL hC hn E7
 have E : Fr w [(b5, 2, Fq.num 0), (b4, 5, Fq.st [.n x2, .n y2, .v (.bool i2)]), (b3, 5, Fq.st [.n x2, .n y2, .v (.bool i2)]), (b2, 5, Fq.st [.n x1, .n y1, .v (.bool true)]), (b1, 6, Fq.st [.n A, .n B, .n M])] w7 := E7
 rw [lay_all hL]
 simp only [putAll, dstOf, List.length_cons, List.length_nil, Nat.zero_add, Nat.reduceAdd, List.getElem?_toArray, List.getElem?_cons_zero, List.getElem?_cons_succ, Option.bind_some, Act.put, List.setIfInBounds_toArray, List.set_cons_succ, List.set_cons_zero]
 generalize vs 0 = u7_0
 generalize vs 1 = u7_1
 generalize vs 2 = u7_2
 clear  hC hn E7 hL vs L nb
 clear HX HY
 obtain ⟨_, _, hc0, hf0⟩ := box_st (E.box 1 rfl)
 have hP0 := hf0
 obtain ⟨r0_p0, r0_q0, _, rfl, _r0_n0, r0_p1, r0_q1, _, rfl, _r0_n1, _, rfl, _, rfl⟩ := hf0
 have c0_0 := hc0 0 (by simp)
 have c0_1 := hc0 1 (by simp)
 have c0_2 := hc0 2 (by simp)
 have c0_3 := hc0 3 (by simp)
 have c0_4 := hc0 4 (by simp)
 simp only [List.getD_cons_zero, List.getD_cons_succ] at c0_0 c0_1 c0_2 c0_3 c0_4
 clear hc0
 obtain ⟨p1_0, p1_1, c1_0, c1_1, hP1⟩ := box_num (E.box 0 rfl)
 clear hx2 hy2
 go_wp2
 refine bodyPost_ret (v := .tuple #[.agg #[r0_p0, r0_q0, r0_p1, r0_q1, .bool i2], .agg #[p1_0, p1_1]]) ?_ rfl ⟨_, rfl, E.below, ⟨_, _, rfl, ⟨_, rfl, hP0⟩, hP1⟩⟩
 simp [results, Try.results55, go_sem, c0_0, c0_1, c0_2, c0_3, c0_4, c1_0, c1_1]

set_option maxRecDepth 100000 in
set_option maxHeartbeats 4000000 in
theorem exSumJ {w : World} {v v' u : Value} {A B M x1 y1 x2 y2 : Int} (h : (Fq.st [.n A, .n B, .n M]).P v w) (h' : (Fq.st [.n x1, .n y1, .v (.bool false)]).P v' w) (h2 : (Fq.st [.n x2, .n y2, .v (.bool true)]).P u w) (hx1 : ab x1 < pw 5) (hy1 : ab y1 < pw 5) (h0x1 : 0 ≤ x1) (h0y1 : 0 ≤ y1) :
  Calls Try.prog 55 #[v, v', u] w fun e w' => ∃ v', e = .returned v' ∧ Below w.heap.size w w' ∧ (Fq.tup2 (Fq.st [.n x1, .n y1, .v (.bool false)]) (Fq.num 0)).P v' w' := by
 replace hx1 := hidd hx1
 replace hy1 := hidd hy1
 have HX := hidd h0x1
 have HY := hidd h0y1
 clear h0x1 h0y1
 obtain ⟨_, rfl, hf0⟩ := h
 have hF0 := hf0
 obtain ⟨y0_p0, y0_q0, _, rfl, _y0_n0, y0_p1, y0_q1, _, rfl, _y0_n1, y0_p2, y0_q2, _, rfl, _y0_n2, rfl⟩ := hf0
 obtain ⟨_, rfl, hf1⟩ := h'
 have hF1 := hf1
 obtain ⟨y1_p0, y1_q0, _, rfl, _y1_n0, y1_p1, y1_q1, _, rfl, _y1_n1, _, rfl, _, rfl⟩ := hf1
 obtain ⟨_, rfl, hf2⟩ := h2
 have hF2 := hf2
 obtain ⟨y2_p0, y2_q0, _, rfl, _y2_n0, y2_p1, y2_q1, _, rfl, _y2_n1, _, rfl, _, rfl⟩ := hf2
 obtain ⟨w1, b1, hw1, hb1, hs1, E⟩ := fr_start w (F := Fq.st [.n A, .n B, .n M]) (us := [y0_p0, y0_q0, y0_p1, y0_q1, y0_p2, y0_q2]) 31 rfl (by simp) (hF0.tame) (show (Fq.st [.n A, .n B, .n M]).P _ w from ⟨_, rfl, hF0⟩)
 obtain ⟨w2, b2, hw2, hb2, hs2, E⟩ := fr_more E hs1 (F := Fq.st [.n x1, .n y1, .v (.bool false)]) (us := [y1_p0, y1_q0, y1_p1, y1_q1, .bool false]) 37 rfl (by simp) (hF1.tame) ((Fq.st [.n x1, .n y1, .v (.bool false)]).mono (show (Fq.st [.n x1, .n y1, .v (.bool false)]).P _ w from ⟨_, rfl, hF1⟩) E.below)
 obtain ⟨w3, b3, hw3, hb3, hs3, E⟩ := fr_more E hs2 (F := Fq.st [.n x2, .n y2, .v (.bool true)]) (us := [y2_p0, y2_q0, y2_p1, y2_q1, .bool true]) 37 rfl (by simp) (hF2.tame) ((Fq.st [.n x2, .n y2, .v (.bool true)]).mono (show (Fq.st [.n x2, .n y2, .v (.bool true)]).P _ w from ⟨_, rfl, hF2⟩) E.below)
 obtain ⟨w4, b4, hw4, hb4, hs4, E⟩ := fr_more E hs3 (F := Fq.st [.n 0, .n 0, .v (.bool false)]) (us := [.bool false, .slice none 0 0, .bool false, .slice none 0 0, .bool false]) 37 rfl (by simp) ((Fits.tame (fits0_api_Point w))) (fits0P_api_Point _)
 obtain ⟨w5, b5, hw5, hb5, hs5, E⟩ := fr_more E hs4 (F := Fq.num 0) (us := [.bool false, .slice none 0 0]) 29 rfl (by simp) (tame_int _ _ _ _) (Num.zero _)
 go_enter Try.func55, Try.ntmps55
 go_upto_region 1 with (fail)
 rw [← hw1]
 rw [← hw2]
 rw [← hw3]
 rw [← hw4]
 rw [← hw5]
 rw [← hb5]
 rw [← hb4]
 rw [← hb3]
 rw [← hb2]
 rw [← hb1]
 clear hw1 hw2 hw3 hw4 hw5 hb1 hb2 hb3 hb4 hb5 hs5 hs1 hs2 hs3 hs4
 refine region_fr (C := [Fq.is (.pointer (some ⟨b2, 4, none⟩)), Fq.is (.bool false), Fq.is (.bool false)]) (ks := [none, none, none, none, none]) (new := []) E rfl (by kernel_rfl) rfl rfl (fun hp => ⟨?_, ?_, ?_, trivial⟩) ?_
 ·exact q_addr (b := b2) (off := 0) (off' := 4) hp (free_of rfl) trivial (sqo 4) (fun ρ w h => by simp [execOp, go_sem, h]) (fun _ => rfl)
 ·exact q_load1 (off := 4) (fs := [.n x1, .n y1, .v (.bool false)]) (u := .bool false) hp (free_of rfl) trivial (mq 3 rfl) (.inl rfl) rfl rfl (fun ρ w b h1 h2 => by simp [execOp, go_sem, h1, h2]) (sqi 0) (fun _ => rfl)
 ·exact q_assign hp (free_of rfl) trivial (sqi 1)
 intro L vs w6 nb hL hC hn E6
 have e0 : vs 0 = .pointer (some ⟨b2, 4, none⟩) := hC 0 (by simp)
 have e1 : vs 1 = .bool false := hC 1 (by simp)
 have e2 : vs 2 = .bool false := hC 2 (by simp)
 have E : Fr w [(b5, 2, Fq.num 0), (b4, 5, Fq.st [.n 0, .n 0, .v (.bool false)]), (b3, 5, Fq.st [.n x2, .n y2, .v (.bool true)]), (b2, 5, Fq.st [.n x1, .n y1, .v (.bool false)]), (b1, 6, Fq.st [.n A, .n B, .n M])] w6 := E6
 rw [lay_all hL]
 simp only [putAll, dstOf, List.length_cons, List.length_nil, Nat.zero_add, Nat.reduceAdd, List.getElem?_toArray, List.getElem?_cons_zero, List.getElem?_cons_succ, Option.bind_some, Act.put, List.setIfInBounds_toArray, List.set_cons_succ, List.set_cons_zero]
 rw [e0, e1, e2]
 clear e0 e1 e2 hC hn E6 hL vs L nb
 go_upto_region 3 with (fail)
 refine region_fr (C := [Fq.is (.pointer (some ⟨b3, 4, none⟩)), Fq.is (.bool true), Fq.is (.bool true)]) (ks := [none, none, none, none, none]) (new := []) E rfl (by kernel_rfl) rfl rfl (fun hp => ⟨?_, ?_, ?_, trivial⟩) ?_
 ·exact q_addr (b := b3) (off := 0) (off' := 4) hp (free_of rfl) trivial (sqo 5) (fun ρ w h => by simp [execOp, go_sem, h]) (fun _ => rfl)
 ·exact q_load1 (off := 4) (fs := [.n x2, .n y2, .v (.bool true)]) (u := .bool true) hp (free_of rfl) trivial (mq 2 rfl) (.inl rfl) rfl rfl (fun ρ w b h1 h2 => by simp [execOp, go_sem, h1, h2]) (sqi 0) (fun _ => rfl)
 ·exact q_assign hp (free_of rfl) trivial (sqi 1)
 intro L vs w7 nb hL hC hn E7
 have e0 : vs 0 = .pointer (some ⟨b3, 4, none⟩) := hC 0 (by simp)
 have e1 : vs 1 = .bool true := hC 1 (by simp)
 have e2 : vs 2 = .bool true := hC 2 (by simp)
 have E : Fr w [(b5, 2, Fq.num 0), (b4, 5, Fq.st [.n 0, .n 0, .v (.bool false)]), (b3, 5, Fq.st [.n x2, .n y2, .v (.bool true)]), (b2, 5, Fq.st [.n x1, .n y1, .v (.bool false)]), (b1, 6, Fq.st [.n A, .n B, .n M])] w7 := E7
 rw [lay_all hL]
 simp only [putAll, dstOf, List.length_cons, List.length_nil, Nat.zero_add, Nat.reduceAdd, List.getElem?_toArray, List.getElem?_cons_zero, List.getElem?_cons_succ, Option.bind_some, Act.put, List.setIfInBounds_toArray, List.set_cons_succ, List.set_cons_zero]
 rw [e0, e1, e2]
 clear e0 e1 e2 hC hn E7 hL vs L nb
 go_upto_region 4 with (fail)
 refine region_fr (C := [Fq.st [.n x1, .n y1, .v (.bool false)], Fq.st [.n x1, .n y1, .v (.bool false)], Fq.num 0, Fq.any, Fq.any]) (ks := [some (4, Fq.num 0), some (3, Fq.st [.n x1, .n y1, .v (.bool false)]), none, none, none]) (new := []) E rfl (by kernel_rfl) rfl rfl (fun hp => ⟨?_, ?_, ?_, ?_, ?_, trivial⟩) ?_
 ·exact q_loadSt (off := 0) (l := 5) (fs := [.n x1, .n y1, .v (.bool false)]) (gs := [.n x1, .n y1, .v (.bool false)]) hp (free_of rfl) trivial (mq 3 rfl) (.inl rfl) rfl row_api_Point rfl (sqo 4) (fun v w h => h)
 ·exact q_call1 (F := (Fq.st [.n x1, .n y1, .v (.bool false)]).P) hp (free_of rfl) trivial (enq_f_algorist_point_copied) (sqi 0) (fun v w h => exCopied h (Int.lt_of_lt_of_le hx1.out (pw_le (by omega))) (Int.lt_of_lt_of_le hy1.out (pw_le (by omega))) HX.out HY.out)
 ·exact q_zeroInt hp (free_of rfl) trivial (fun w => Num.zero w)
 ·exact q_storeOldSt (off := 0) (fs := [.n 0, .n 0, .v (.bool false)]) (gs := [.n x1, .n y1, .v (.bool false)]) (fs' := [.n x1, .n y1, .v (.bool false)]) hp (mq 1 rfl) rfl rfl rfl size_api_Point rfl (sqo 6) (sq_in 1 rfl rfl (by simp) rfl (fun v w h => fitv_st h)) (fun _ _ => trivial) (newik_ne rfl)
 ·exact q_storeOldInt hp (mq 0 rfl) rfl rfl (sqo 7) (sq_in 2 rfl rfl (by simp) rfl (fun v w h => intV_num h)) (fun _ _ => trivial) (newik_ne rfl)
 intro L vs w8 nb hL hC hn E8
 have E : Fr w [(b5, 2, Fq.num 0), (b4, 5, Fq.st [.n x1, .n y1, .v (.bool false)]), (b3, 5, Fq.st [.n x2, .n y2, .v (.bool true)]), (b2, 5, Fq.st [.n x1, .n y1, .v (.bool false)]), (b1, 6, Fq.st [.n A, .n B, .n M])] w8 := E8
 rw [lay_all hL]
 simp only [putAll, dstOf, List.length_cons, List.length_nil, Nat.zero_add, Nat.reduceAdd, List.getElem?_toArray, List.getElem?_cons_zero, List.getElem?_cons_succ, Option.bind_some, Act.put, List.setIfInBounds_toArray, List.set_cons_succ, List.set_cons_zero]
 generalize vs 0 = u8_0
 generalize vs 1 = u8_1
 generalize vs 2 = u8_2
 clear  hC hn E8 hL vs L nb
 clear HX HY
 obtain ⟨_, _, hc0, hf0⟩ := box_st (E.box 1 rfl)
 have hP0 := hf0
 obtain ⟨r0_p0, r0_q0, _, rfl, _r0_n0, r0_p1, r0_q1, _, rfl, _r0_n1, _, rfl, _, rfl⟩ := hf0
 have c0_0 := hc0 0 (by simp)
 have c0_1 := hc0 1 (by simp)
 have c0_2 := hc0 2 (by simp)
 have c0_3 := hc0 3 (by simp)
 have c0_4 := hc0 4 (by simp)
 simp only [List.getD_cons_zero, List.getD_cons_succ] at c0_0 c0_1 c0_2 c0_3 c0_4
 clear hc0
 obtain ⟨p1_0, p1_1, c1_0, c1_1, hP1⟩ := box_num (E.box 0 rfl)
 clear hx1 hy1
 go_wp2
 refine bodyPost_ret (v := .tuple #[.agg #[r0_p0, r0_q0, r0_p1, r0_q1, .bool false], .agg #[p1_0, p1_1]]) ?_ rfl ⟨_, rfl, E.below, ⟨_, _, rfl, ⟨_, rfl, hP0⟩, hP1⟩⟩
 simp [results, Try.results55, go_sem, c0_0, c0_1, c0_2, c0_3, c0_4, c1_0, c1_1]

set_option maxRecDepth 100000 in
set_option maxHeartbeats 4000000 in
theorem exSumF {w : World} {v v' u : Value} {A B M x1 y1 x2 y2 : Int} {R : Pt × Int} (h : (Fq.st [.n A, .n B, .n M]).P v w) (h' : (Fq.st [.n x1, .n y1, .v (.bool false)]).P v' w) (h2 : (Fq.st [.n x2, .n y2, .v (.bool false)]).P u w) (hM : ab M < pw 5) (hA : ab A < pw 5) (hx1 : ab x1 < pw 5) (hy1 : ab y1 < pw 5) (hx2 : ab x2 < pw 5) (hy2 : ab y2 < pw 5) (hM0 : 0 < M) (ht : finP M x1 y1 x2 (slN A x1 y1 x2 y2) (slD M x1 y1 x2 y2) = R) :
  Calls Try.prog 55 #[v, v', u] w fun e w' => ∃ v', e = .returned v' ∧ Below w.heap.size w w' ∧ (Fq.tup2 (Fq.pt R.1) (Fq.num R.2)).P v' w' := by
 replace hM := hidd hM
 replace hA := hidd hA
 replace hx1 := hidd hx1
 replace hy1 := hidd hy1
 replace hx2 := hidd hx2
 replace hy2 := hidd hy2
 have HM0 := hidd hM0
 obtain ⟨N, hN⟩ : ∃ N, N = slN A x1 y1 x2 y2 := ⟨_, rfl⟩
 obtain ⟨D, hD⟩ : ∃ D, D = slD M x1 y1 x2 y2 := ⟨_, rfl⟩
 have HNB : Hid (ab N < pw 20) := by rw [hN]; exact slN_ab hA.out hx1.out hy1.out hy2.out
 have HDB : Hid (ab D < pw 20) := by rw [hD]; exact slD_ab hM.out hM0 hx1.out hx2.out
 have HND := hidd (And.intro hN hD)
 rw [← hN, ← hD] at ht
 clear hN hD hM0
 obtain ⟨_, rfl, hf0⟩ := h
 have hF0 := hf0
 obtain ⟨y0_p0, y0_q0, _, rfl, _y0_n0, y0_p1, y0_q1, _, rfl, _y0_n1, y0_p2, y0_q2, _, rfl, _y0_n2, rfl⟩ := hf0
 obtain ⟨_, rfl, hf1⟩ := h'
 have hF1 := hf1
 obtain ⟨y1_p0, y1_q0, _, rfl, _y1_n0, y1_p1, y1_q1, _, rfl, _y1_n1, _, rfl, _, rfl⟩ := hf1
 obtain ⟨_, rfl, hf2⟩ := h2
 have hF2 := hf2
 obtain ⟨y2_p0, y2_q0, _, rfl, _y2_n0, y2_p1, y2_q1, _, rfl, _y2_n1, _, rfl, _, rfl⟩ := hf2
 obtain ⟨w1, b1, hw1, hb1, hs1, E⟩ := fr_start w (F := Fq.st [.n A, .n B, .n M]) (us := [y0_p0, y0_q0, y0_p1, y0_q1, y0_p2, y0_q2]) 31 rfl (by simp) (hF0.tame) (show (Fq.st [.n A, .n B, .n M]).P _ w from ⟨_, rfl, hF0⟩)
 obtain ⟨w2, b2, hw2, hb2, hs2, E⟩ := fr_more E hs1 (F := Fq.st [.n x1, .n y1, .v (.bool false)]) (us := [y1_p0, y1_q0, y1_p1, y1_q1, .bool false]) 37 rfl (by simp) (hF1.tame) ((Fq.st [.n x1, .n y1, .v (.bool false)]).mono (show (Fq.st [.n x1, .n y1, .v (.bool false)]).P _ w from ⟨_, rfl, hF1⟩) E.below)
 obtain ⟨w3, b3, hw3, hb3, hs3, E⟩ := fr_more E hs2 (F := Fq.st [.n x2, .n y2, .v (.bool false)]) (us := [y2_p0, y2_q0, y2_p1, y2_q1, .bool false]) 37 rfl (by simp) (hF2.tame) ((Fq.st [.n x2, .n y2, .v (.bool false)]).mono (show (Fq.st [.n x2, .n y2, .v (.bool false)]).P _ w from ⟨_, rfl, hF2⟩) E.below)
 obtain ⟨w4, b4, hw4, hb4, hs4, E⟩ := fr_more E hs3 (F := Fq.st [.n 0, .n 0, .v (.bool false)]) (us := [.bool false, .slice none 0 0, .bool false, .slice none 0 0, .bool false]) 37 rfl (by simp) ((Fits.tame (fits0_api_Point w))) (fits0P_api_Point _)
 obtain ⟨w5, b5, hw5, hb5, hs5, E⟩ := fr_more E hs4 (F := Fq.num 0) (us := [.bool false, .slice none 0 0]) 29 rfl (by simp) (tame_int _ _ _ _) (Num.zero _)
 go_enter Try.func55, Try.ntmps55
 go_upto_region 1 with (fail)
 rw [← hw1]
 rw [← hw2]
 rw [← hw3]
 rw [← hw4]
 rw [← hw5]
 rw [← hb5]
 rw [← hb4]
 rw [← hb3]
 rw [← hb2]
 rw [← hb1]
 clear hw1 hw2 hw3 hw4 hw5 hb1 hb2 hb3 hb4 hb5 hs5 hs1 hs2 hs3 hs4
 refine region_fr (C := [Fq.is (.pointer (some ⟨b2, 4, none⟩)), Fq.is (.bool false), Fq.is (.bool false)]) (ks := [none, none, none, none, none]) (new := []) E rfl (by kernel_rfl) rfl rfl (fun hp => ⟨?_, ?_, ?_, trivial⟩) ?_
 ·exact q_addr (b := b2) (off := 0) (off' := 4) hp (free_of rfl) trivial (sqo 4) (fun ρ w h => by simp [execOp, go_sem, h]) (fun _ => rfl)
 ·exact q_load1 (off := 4) (fs := [.n x1, .n y1, .v (.bool false)]) (u := .bool false) hp (free_of rfl) trivial (mq 3 rfl) (.inl rfl) rfl rfl (fun ρ w b h1 h2 => by simp [execOp, go_sem, h1, h2]) (sqi 0) (fun _ => rfl)
 ·exact q_assign hp (free_of rfl) trivial (sqi 1)
 intro L vs w6 nb hL hC hn E6
 have e0 : vs 0 = .pointer (some ⟨b2, 4, none⟩) := hC 0 (by simp)
 have e1 : vs 1 = .bool false := hC 1 (by simp)
 have e2 : vs 2 = .bool false := hC 2 (by simp)
 have E : Fr w [(b5, 2, Fq.num 0), (b4, 5, Fq.st [.n 0, .n 0, .v (.bool false)]), (b3, 5, Fq.st [.n x2, .n y2, .v (.bool false)]), (b2, 5, Fq.st [.n x1, .n y1, .v (.bool false)]), (b1, 6, Fq.st [.n A, .n B, .n M])] w6 := E6
 rw [lay_all hL]
 simp only [putAll, dstOf, List.length_cons, List.length_nil, Nat.zero_add, Nat.reduceAdd, List.getElem?_toArray, List.getElem?_cons_zero, List.getElem?_cons_succ, Option.bind_some, Act.put, List.setIfInBounds_toArray, List.set_cons_succ, List.set_cons_zero]
 rw [e0, e1, e2]
 clear e0 e1 e2 hC hn E6 hL vs L nb
 go_upto_region 3 with (fail)
 refine region_fr (C := [Fq.is (.pointer (some ⟨b3, 4, none⟩)), Fq.is (.bool false), Fq.is (.bool false)]) (ks := [none, none, none, none, none]) (new := []) E rfl (by kernel_rfl) rfl rfl (fun hp => ⟨?_, ?_, ?_, trivial⟩) ?_
 ·exact q_addr (b := b3) (off := 0) (off' := 4) hp (free_of rfl) trivial (sqo 5) (fun ρ w h => by simp [execOp, go_sem, h]) (fun _ => rfl)
 ·exact q_load1 (off := 4) (fs := [.n x2, .n y2, .v (.bool false)]) (u := .bool false) hp (free_of rfl) trivial (mq 2 rfl) (.inl rfl) rfl rfl (fun ρ w b h1 h2 => by simp [execOp, go_sem, h1, h2]) (sqi 0) (fun _ => rfl)
 ·exact q_assign hp (free_of rfl) trivial (sqi 1)
 intro L vs w7 nb hL hC hn E7
 have e0 : vs 0 = .pointer (some ⟨b3, 4, none⟩) := hC 0 (by simp)
 have e1 : vs 1 = .bool false := hC 1 (by simp)
 have e2 : vs 2 = .bool false := hC 2 (by simp)
 have E : Fr w [(b5, 2, Fq.num 0), (b4, 5, Fq.st [.n 0, .n 0, .v (.bool false)]), (b3, 5, Fq.st [.n x2, .n y2, .v (.bool false)]), (b2, 5, Fq.st [.n x1, .n y1, .v (.bool false)]), (b1, 6, Fq.st [.n A, .n B, .n M])] w7 := E7
 rw [lay_all hL]
 simp only [putAll, dstOf, List.length_cons, List.length_nil, Nat.zero_add, Nat.reduceAdd, List.getElem?_toArray, List.getElem?_cons_zero, List.getElem?_cons_succ, Option.bind_some, Act.put, List.setIfInBounds_toArray, List.set_cons_succ, List.set_cons_zero]
 rw [e0, e1, e2]
 clear e0 e1 e2 hC hn E7 hL vs L nb
 go_upto_region 5 with (fail)
 refine region_fr (C := [Fq.st [.n A, .n B, .n M], Fq.st [.n x1, .n y1, .v (.bool false)], Fq.st [.n x2, .n y2, .v (.bool false)], Fq.tup2 (Fq.num N) (Fq.num D), Fq.tup2 (Fq.num N) (Fq.num D), Fq.num N, Fq.num D, Fq.any, Fq.any, Fq.any, Fq.any]) (ks := [none, none, none, none, none]) (new := [⟨7, 9, 2, Fq.num 0, Fq.num N, none⟩, ⟨8, 10, 2, Fq.num 0, Fq.num D, none⟩]) E rfl (by kernel_rfl) rfl rfl (fun hp => ⟨?_, ?_, ?_, ?_, ?_, ?_, ?_, ?_, ?_, ?_, ?_, trivial⟩) ?_
 ·exact q_loadSt (off := 0) (l := 6) (fs := [.n A, .n B, .n M]) (gs := [.n A, .n B, .n M]) hp (free_of rfl) trivial (mq 4 rfl) (.inl rfl) rfl row_api_Mod rfl (sqo 3) (fun v w h => h)
 ·exact q_loadSt (off := 0) (l := 5) (fs := [.n x1, .n y1, .v (.bool false)]) (gs := [.n x1, .n y1, .v (.bool false)]) hp (free_of rfl) trivial (mq 3 rfl) (.inl rfl) rfl row_api_Point rfl (sqo 4) (fun v w h => h)
 ·exact q_loadSt (off := 0) (l := 5) (fs := [.n x2, .n y2, .v (.bool false)]) (gs := [.n x2, .n y2, .v (.bool false)]) hp (free_of rfl) trivial (mq 2 rfl) (.inl rfl) rfl row_api_Point rfl (sqo 5) (fun v w h => h)
 ·exact q_call3 (F := (Fq.st [.n A, .n B, .n M]).P) (G := (Fq.st [.n x1, .n y1, .v (.bool false)]).P) (F3 := (Fq.st [.n x2, .n y2, .v (.bool false)]).P) hp (free_of rfl) trivial (enq_f_algorist_point_slope) (sqi 0) (sqi 1) (sqi 2) (fun v v' u w h h' g => exSlope h h' g hM.out hA.out hx1.out hy1.out hx2.out hy2.out HM0.out HND.out.1.symm HND.out.2.symm)
 ·exact q_move hp (free_of rfl) trivial (sqi 3)
 ·exact q_extract2 hp (free_of rfl) trivial (sqi 4) (fun v1 v2 w h1 h2 => ⟨_, rfl, h1⟩)
 ·exact q_extract2 hp (free_of rfl) trivial (sqi 4) (fun v1 v2 w h1 h2 => ⟨_, rfl, h2⟩)
 ·exact q_allocInt hp (mq 0 rfl) rfl rfl rfl rfl (Nat.ne_of_beq_eq_false rfl) (fun _ _ => trivial) (old_ne rfl) (newk_ne rfl) (fun w => Num.zero w)
 ·exact q_allocInt hp (mq 1 rfl) rfl rfl rfl rfl (Nat.ne_of_beq_eq_false rfl) (fun _ _ => trivial) (old_ne rfl) (newk_ne rfl) (fun w => Num.zero w)
 ·exact q_storeNewInt hp (mq 0 rfl) rfl rfl rfl (own_ptr rfl rfl (by simp) rfl) (sq_in 5 rfl rfl (by simp) rfl (fun v w h => intV_num h)) (fun _ _ => trivial) (old_ne rfl) (newi_ne rfl)
 ·exact q_storeNewInt hp (mq 1 rfl) rfl rfl rfl (own_ptr rfl rfl (by simp) rfl) (sq_in 6 rfl rfl (by simp) rfl (fun v w h => intV_num h)) (fun _ _ => trivial) (old_ne rfl) (newi_ne rfl)
 intro L vs w8 nb hL hC hn E8
 have e7 : vs 7 = .pointer (some ⟨nb 7, 0, none⟩) := hn _ (mq 0 rfl)
 have e8 : vs 8 = .pointer (some ⟨nb 8, 0, none⟩) := hn _ (mq 1 rfl)
 have E : Fr w [(nb 7, 2, Fq.num N), (nb 8, 2, Fq.num D), (b5, 2, Fq.num 0), (b4, 5, Fq.st [.n 0, .n 0, .v (.bool false)]), (b3, 5, Fq.st [.n x2, .n y2, .v (.bool false)]), (b2, 5, Fq.st [.n x1, .n y1, .v (.bool false)]), (b1, 6, Fq.st [.n A, .n B, .n M])] w8 := E8
 rw [lay_all hL]
 simp only [putAll, dstOf, List.length_cons, List.length_nil, Nat.zero_add, Nat.reduceAdd, List.getElem?_toArray, List.getElem?_cons_zero, List.getElem?_cons_succ, Option.bind_some, Act.put, List.setIfInBounds_toArray, List.set_cons_succ, List.set_cons_zero]
 rw [e7, e8]
 generalize nb 7 = b8_7 at E ⊢
 generalize nb 8 = b8_8 at E ⊢
 generalize vs 0 = u8_0
 generalize vs 1 = u8_1
 generalize vs 2 = u8_2
 generalize vs 3 = u8_3
 generalize vs 4 = u8_4
 generalize vs 5 = u8_5
 generalize vs 6 = u8_6
 clear e7 e8 hC hn E8 hL vs L nb
 by_cases h0 : D = 0
 ·unfold finP at ht
  rw [if_pos h0] at ht
  subst ht
  have T0 := hidd (decide_eq_true h0)
  clear h0
  go_upto_region 6 with (fail)
  refine region_fr (C := [Fq.num D, Fq.is (.bool true)]) (ks := [none, none, none, none, none, none, none]) (new := []) E rfl (by kernel_rfl) rfl rfl (fun hp => ⟨?_, ?_, trivial⟩) ?_
  ·exact q_loadInt (off := 0) hp (free_of rfl) trivial (mq 1 rfl) (.inl rfl) (Nat.le_of_ble_eq_true rfl) (sqo 9) (fun us w hl h => ld_num hl h)
  ·exact q_call1 (F := (Fq.num D).P) hp (free_of rfl) trivial (enq_f_algorist_point_isZero) (sqi 0) (fun v w h => exIsZero h T0.out)
  intro L vs w9 nb hL hC hn E9
  have e1 : vs 1 = .bool true := hC 1 (by simp)
  have E : Fr w [(b8_7, 2, Fq.num N), (b8_8, 2, Fq.num D), (b5, 2, Fq.num 0), (b4, 5, Fq.st [.n 0, .n 0, .v (.bool false)]), (b3, 5, Fq.st [.n x2, .n y2, .v (.bool false)]), (b2, 5, Fq.st [.n x1, .n y1, .v (.bool false)]), (b1, 6, Fq.st [.n A, .n B, .n M])] w9 := E9
  rw [lay_all hL]
  simp only [putAll, dstOf, List.length_cons, List.length_nil, Nat.zero_add, Nat.reduceAdd, List.getElem?_toArray, List.getElem?_cons_zero, List.getElem?_cons_succ, Option.bind_some, Act.put, List.setIfInBounds_toArray, List.set_cons_succ, List.set_cons_zero]
  rw [e1]
  generalize vs 0 = u9_0
  clear e1 hC hn E9 hL vs L nb
  go_upto_region 7 with (fail)
  refine region_fr (C := [Fq.st [.n 0, .n 0, .v (.bool true)], Fq.num 0, Fq.any, Fq.any]) (ks := [none, none, some (3, Fq.num 0), some (2, Fq.st [.n 0, .n 0, .v (.bool true)]), none, none, none]) (new := []) E rfl (by kernel_rfl) rfl rfl (fun hp => ⟨?_, ?_, ?_, ?_, trivial⟩) ?_
  ·exact q_build_api_Point_2 (u2 := true) hp (free_of rfl) trivial (sq_const (fun _ => rfl)) (fun v w h => h)
  ·exact q_zeroInt hp (free_of rfl) trivial (fun w => Num.zero w)
  ·exact q_storeOldSt (off := 0) (fs := [.n 0, .n 0, .v (.bool false)]) (gs := [.n 0, .n 0, .v (.bool true)]) (fs' := [.n 0, .n 0, .v (.bool true)]) hp (mq 3 rfl) rfl rfl rfl size_api_Point rfl (sqo 6) (sq_in 0 rfl rfl (by simp) rfl (fun v w h => fitv_st h)) (fun _ _ => trivial) (newik_ne rfl)
  ·exact q_storeOldInt hp (mq 2 rfl) rfl rfl (sqo 7) (sq_in 1 rfl rfl (by simp) rfl (fun v w h => intV_num h)) (fun _ _ => trivial) (newik_ne rfl)
  intro L vs w10 nb hL hC hn E10
  have E : Fr w [(b8_7, 2, Fq.num N), (b8_8, 2, Fq.num D), (b5, 2, Fq.num 0), (b4, 5, Fq.st [.n 0, .n 0, .v (.bool true)]), (b3, 5, Fq.st [.n x2, .n y2, .v (.bool false)]), (b2, 5, Fq.st [.n x1, .n y1, .v (.bool false)]), (b1, 6, Fq.st [.n A, .n B, .n M])] w10 := E10
  rw [lay_all hL]
  simp only [putAll, dstOf, List.length_cons, List.length_nil, Nat.zero_add, Nat.reduceAdd, List.getElem?_toArray, List.getElem?_cons_zero, List.getElem?_cons_succ, Option.bind_some, Act.put, List.setIfInBounds_toArray, List.set_cons_succ, List.set_cons_zero]
  generalize vs 0 = u10_0
  generalize vs 1 = u10_1
  clear  hC hn E10 hL vs L nb
  clear T0 HM0 HND
  obtain ⟨_, _, hc0, hf0⟩ := box_st (E.box 3 rfl)
  have hP0 := hf0
  obtain ⟨r0_p0, r0_q0, _, rfl, _r0_n0, r0_p1, r0_q1, _, rfl, _r0_n1, _, rfl, _, rfl⟩ := hf0
  have c0_0 := hc0 0 (by simp)
  have c0_1 := hc0 1 (by simp)
  have c0_2 := hc0 2 (by simp)
  have c0_3 := hc0 3 (by simp)
  have c0_4 := hc0 4 (by simp)
  simp only [List.getD_cons_zero, List.getD_cons_succ] at c0_0 c0_1 c0_2 c0_3 c0_4
  clear hc0
  obtain ⟨p1_0, p1_1, c1_0, c1_1, hP1⟩ := box_num (E.box 2 rfl)
  clear hM hA hx1 hy1 hx2 hy2 HNB HDB
  go_wp2
  refine bodyPost_ret (v := .tuple #[.agg #[r0_p0, r0_q0, r0_p1, r0_q1, .bool true], .agg #[p1_0, p1_1]]) ?_ rfl ⟨_, rfl, E.below, ⟨_, _, rfl, ⟨_, rfl, hP0⟩, hP1⟩⟩
  simp [results, Try.results55, go_sem, c0_0, c0_1, c0_2, c0_3, c0_4, c1_0, c1_1]
 ·by_cases h1 : Int.gcd D M = 1
  ·unfold finP at ht
   rw [if_neg h0, if_pos h1] at ht
   subst ht
   have T0 := hidd (decide_eq_false h0)
   have HG := hidd h1
   have HU : Hid (ab (bezU D M) < pw 5) := bezU_ab HM0.out hM.out
   clear h0 h1
   go_upto_region 6 with (fail)
   refine region_fr (C := [Fq.num D, Fq.is (.bool false)]) (ks := [none, none, none, none, none, none, none]) (new := []) E rfl (by kernel_rfl) rfl rfl (fun hp => ⟨?_, ?_, trivial⟩) ?_
   ·exact q_loadInt (off := 0) hp (free_of rfl) trivial (mq 1 rfl) (.inl rfl) (Nat.le_of_ble_eq_true rfl) (sqo 9) (fun us w hl h => ld_num hl h)
   ·exact q_call1 (F := (Fq.num D).P) hp (free_of rfl) trivial (enq_f_algorist_point_isZero) (sqi 0) (fun v w h => exIsZero h T0.out)
   intro L vs w11 nb hL hC hn E11
   have e1 : vs 1 = .bool false := hC 1 (by simp)
   have E : Fr w [(b8_7, 2, Fq.num N), (b8_8, 2, Fq.num D), (b5, 2, Fq.num 0), (b4, 5, Fq.st [.n 0, .n 0, .v (.bool false)]), (b3, 5, Fq.st [.n x2, .n y2, .v (.bool false)]), (b2, 5, Fq.st [.n x1, .n y1, .v (.bool false)]), (b1, 6, Fq.st [.n A, .n B, .n M])] w11 := E11
   rw [lay_all hL]
   simp only [putAll, dstOf, List.length_cons, List.length_nil, Nat.zero_add, Nat.reduceAdd, List.getElem?_toArray, List.getElem?_cons_zero, List.getElem?_cons_succ, Option.bind_some, Act.put, List.setIfInBounds_toArray, List.set_cons_succ, List.set_cons_zero]
   rw [e1]
   generalize vs 0 = u11_0
   clear e1 hC hn E11 hL vs L nb
   go_upto_region 8 with (fail)
   refine region_fr (C := [Fq.num D, Fq.is (.pointer (some ⟨b1, 4, none⟩)), Fq.num M, Fq.tup2 (Fq.num (bezU D M)) (Fq.is (.int .i64 0)), Fq.tup2 (Fq.num (bezU D M)) (Fq.is (.int .i64 0)), Fq.num (bezU D M), Fq.is (.int .i64 0), Fq.any, Fq.any, Fq.is (.int .i64 0)]) (ks := [none, none, none, none, none, none, none]) (new := [⟨7, 8, 2, Fq.num 0, Fq.num (bezU D M), none⟩]) E rfl (by kernel_rfl) rfl rfl (fun hp => ⟨?_, ?_, ?_, ?_, ?_, ?_, ?_, ?_, ?_, ?_, trivial⟩) ?_
   ·exact q_loadInt (off := 0) hp (free_of rfl) trivial (mq 1 rfl) (.inl rfl) (Nat.le_of_ble_eq_true rfl) (sqo 9) (fun us w hl h => ld_num hl h)
   ·exact q_addr (b := b1) (off := 0) (off' := 4) hp (free_of rfl) trivial (sqo 3) (fun ρ w h => by simp [execOp, go_sem, h]) (fun _ => rfl)
   ·exact q_loadSt (off := 4) (l := 2) (fs := [.n A, .n B, .n M]) (gs := [.n M]) hp (free_of rfl) trivial (mq 6 rfl) (.inl rfl) rfl row_api_Int rfl (sqi 1) (fun v w h => st_num h)
   ·exact q_call2 (F := (Fq.num D).P) (G := (Fq.num M).P) hp (free_of rfl) trivial (enq_M_Inv) (sqi 0) (sqi 2) (fun v v' w h h' => exInvP h h' (Int.lt_of_lt_of_le HDB.out (pw_le (by omega))) (Int.lt_of_lt_of_le hM.out (pw_le (by omega))) HM0.out HG.out)
   ·exact q_move hp (free_of rfl) trivial (sqi 3)
   ·exact q_extract2 hp (free_of rfl) trivial (sqi 4) (fun v1 v2 w h1 h2 => ⟨_, rfl, h1⟩)
   ·exact q_extract2 hp (free_of rfl) trivial (sqi 4) (fun v1 v2 w h1 h2 => ⟨_, rfl, h2⟩)
   ·exact q_allocInt hp (mq 0 rfl) rfl rfl rfl rfl (Nat.ne_of_beq_eq_false rfl) (fun _ _ => trivial) (old_ne rfl) (newk_ne rfl) (fun w => Num.zero w)
   ·exact q_storeNewInt hp (mq 0 rfl) rfl rfl rfl (own_ptr rfl rfl (by simp) rfl) (sq_in 5 rfl rfl (by simp) rfl (fun v w h => intV_num h)) (fun _ _ => trivial) (old_ne rfl) (newi_ne rfl)
   ·exact q_assign hp (free_of rfl) trivial (sqi 6)
   intro L vs w12 nb hL hC hn E12
   have e1 : vs 1 = .pointer (some ⟨b1, 4, none⟩) := hC 1 (by simp)
   have e6 : vs 6 = .int .i64 0 := hC 6 (by simp)
   have e9 : vs 9 = .int .i64 0 := hC 9 (by simp)
   have e7 : vs 7 = .pointer (some ⟨nb 7, 0, none⟩) := hn _ (mq 0 rfl)
   have E : Fr w [(nb 7, 2, Fq.num (bezU D M)), (b8_7, 2, Fq.num N), (b8_8, 2, Fq.num D), (b5, 2, Fq.num 0), (b4, 5, Fq.st [.n 0, .n 0, .v (.bool false)]), (b3, 5, Fq.st [.n x2, .n y2, .v (.bool false)]), (b2, 5, Fq.st [.n x1, .n y1, .v (.bool false)]), (b1, 6, Fq.st [.n A, .n B, .n M])] w12 := E12
   rw [lay_all hL]
   simp only [putAll, dstOf, List.length_cons, List.length_nil, Nat.zero_add, Nat.reduceAdd, List.getElem?_toArray, List.getElem?_cons_zero, List.getElem?_cons_succ, Option.bind_some, Act.put, List.setIfInBounds_toArray, List.set_cons_succ, List.set_cons_zero]
   rw [e1, e6, e9, e7]
   generalize nb 7 = b12_7 at E ⊢
   generalize vs 0 = u12_0
   generalize vs 2 = u12_2
   generalize vs 3 = u12_3
   generalize vs 4 = u12_4
   generalize vs 5 = u12_5
   clear e1 e6 e9 e7 hC hn E12 hL vs L nb
   go_upto_region 9 with (fail)
   refine region_fr (C := [Fq.is (.int .i64 0), Fq.is (.bool false)]) (ks := [none, none, none, none, none, none, none, none]) (new := []) E rfl (by kernel_rfl) rfl rfl (fun hp => ⟨?_, ?_, trivial⟩) ?_
   ·exact q_move hp (free_of rfl) trivial (sqo 11)
   ·exact q_one (F := fun v _ => v = .int .i64 0) hp (free_of rfl) trivial (sqi 0) (fun ρ w hc h => ⟨.bool false, by simp [execOp, go_sem, h, hc], rfl⟩)
   intro L vs w13 nb hL hC hn E13
   have e0 : vs 0 = .int .i64 0 := hC 0 (by simp)
   have e1 : vs 1 = .bool false := hC 1 (by simp)
   have E : Fr w [(b12_7, 2, Fq.num (bezU D M)), (b8_7, 2, Fq.num N), (b8_8, 2, Fq.num D), (b5, 2, Fq.num 0), (b4, 5, Fq.st [.n 0, .n 0, .v (.bool false)]), (b3, 5, Fq.st [.n x2, .n y2, .v (.bool false)]), (b2, 5, Fq.st [.n x1, .n y1, .v (.bool false)]), (b1, 6, Fq.st [.n A, .n B, .n M])] w13 := E13
   rw [lay_all hL]
   simp only [putAll, dstOf, List.length_cons, List.length_nil, Nat.zero_add, Nat.reduceAdd, List.getElem?_toArray, List.getElem?_cons_zero, List.getElem?_cons_succ, Option.bind_some, Act.put, List.setIfInBounds_toArray, List.set_cons_succ, List.set_cons_zero]
   rw [e0, e1]
   clear e0 e1 hC hn E13 hL vs L nb
   go_upto_region 11 with (fail)
   have B14 : Hid (ab ((N * (bezU D M))) < pw 25) := ab_mulM HNB.out HU.out (by omega)
   have B15 : Hid (ab (((N * (bezU D M)) % M)) < pw 5) := ab_mod' HM0.out hM.out
   refine region_fr (C := [Fq.num N, Fq.num (bezU D M), Fq.num (N * (bezU D M)), Fq.is (.pointer (some ⟨b1, 4, none⟩)), Fq.num M, Fq.num ((N * (bezU D M)) % M), Fq.any, Fq.any]) (ks := [none, none, none, none, none, none, none, none]) (new := [⟨6, 7, 2, Fq.num 0, Fq.num ((N * (bezU D M)) % M), none⟩]) E rfl (by kernel_rfl) rfl rfl (fun hp => ⟨?_, ?_, ?_, ?_, ?_, ?_, ?_, ?_, trivial⟩) ?_
   ·exact q_loadInt (off := 0) hp (free_of rfl) trivial (mq 1 rfl) (.inl rfl) (Nat.le_of_ble_eq_true rfl) (sqo 8) (fun us w hl h => ld_num hl h)
   ·exact q_loadInt (off := 0) hp (free_of rfl) trivial (mq 0 rfl) (.inl rfl) (Nat.le_of_ble_eq_true rfl) (sqo 10) (fun us w hl h => ld_num hl h)
   ·exact q_call2 (F := (Fq.num N).P) (G := (Fq.num (bezU D M)).P) hp (free_of rfl) trivial (enq_Mul) (sqi 0) (sqi 1) (fun v v' w h h' => exK (MulV h h') B14.out (by omega))
   ·exact q_addr (b := b1) (off := 0) (off' := 4) hp (free_of rfl) trivial (sqo 3) (fun ρ w h => by simp [execOp, go_sem, h]) (fun _ => rfl)
   ·exact q_loadSt (off := 4) (l := 2) (fs := [.n A, .n B, .n M]) (gs := [.n M]) hp (free_of rfl) trivial (mq 7 rfl) (.inl rfl) rfl row_api_Int rfl (sqi 3) (fun v w h => st_num h)
   ·exact q_call2 (F := (Fq.num (N * (bezU D M))).P) (G := (Fq.num M).P) hp (free_of rfl) trivial (enq_f_algorist_point_residue) (sqi 2) (sqi 4) (fun v v' w h h' => exResP h h' (Int.lt_of_lt_of_le B14.out (pw_le (by omega))) (Int.lt_of_lt_of_le hM.out (pw_le (by omega))) HM0.out)
   ·exact q_allocInt hp (mq 0 rfl) rfl rfl rfl rfl (Nat.ne_of_beq_eq_false rfl) (fun _ _ => trivial) (old_ne rfl) (newk_ne rfl) (fun w => Num.zero w)
   ·exact q_storeNewInt hp (mq 0 rfl) rfl rfl rfl (own_ptr rfl rfl (by simp) rfl) (sq_in 5 rfl rfl (by simp) rfl (fun v w h => intV_num h)) (fun _ _ => trivial) (old_ne rfl) (newi_ne rfl)
   intro L vs w16 nb hL hC hn E16
   have e3 : vs 3 = .pointer (some ⟨b1, 4, none⟩) := hC 3 (by simp)
   have e6 : vs 6 = .pointer (some ⟨nb 6, 0, none⟩) := hn _ (mq 0 rfl)
   have E : Fr w [(nb 6, 2, Fq.num ((N * (bezU D M)) % M)), (b12_7, 2, Fq.num (bezU D M)), (b8_7, 2, Fq.num N), (b8_8, 2, Fq.num D), (b5, 2, Fq.num 0), (b4, 5, Fq.st [.n 0, .n 0, .v (.bool false)]), (b3, 5, Fq.st [.n x2, .n y2, .v (.bool false)]), (b2, 5, Fq.st [.n x1, .n y1, .v (.bool false)]), (b1, 6, Fq.st [.n A, .n B, .n M])] w16 := E16
   rw [lay_all hL]
   simp only [putAll, dstOf, List.length_cons, List.length_nil, Nat.zero_add, Nat.reduceAdd, List.getElem?_toArray, List.getElem?_cons_zero, List.getElem?_cons_succ, Option.bind_some, Act.put, List.setIfInBounds_toArray, List.set_cons_succ, List.set_cons_zero]
   rw [e3, e6]
   generalize nb 6 = b16_6 at E ⊢
   generalize vs 0 = u16_0
   generalize vs 1 = u16_1
   generalize vs 2 = u16_2
   generalize vs 4 = u16_4
   generalize vs 5 = u16_5
   clear e3 e6 hC hn E16 hL vs L nb
   go_upto_region 12 with (fail)
   have B17 : Hid (ab ((((N * (bezU D M)) % M) * ((N * (bezU D M)) % M))) < pw 10) := ab_mulM B15.out B15.out (by omega)
   have B18 : Hid (ab ((x1 + x2)) < pw 6) := ab_addB hx1.out hx2.out (by omega) (by omega)
   have B19 : Hid (ab (((((N * (bezU D M)) % M) * ((N * (bezU D M)) % M)) - (x1 + x2))) < pw 11) := ab_subB B17.out B18.out (by omega) (by omega)
   have B20 : Hid (ab ((((((N * (bezU D M)) % M) * ((N * (bezU D M)) % M)) - (x1 + x2)) % M)) < pw 5) := ab_mod' HM0.out hM.out
   refine region_fr (C := [Fq.num ((N * (bezU D M)) % M), Fq.num ((N * (bezU D M)) % M), Fq.num (((N * (bezU D M)) % M) * ((N * (bezU D M)) % M)), Fq.is (.pointer (some ⟨b2, 0, none⟩)), Fq.num x1, Fq.is (.pointer (some ⟨b3, 0, none⟩)), Fq.num x2, Fq.num (x1 + x2), Fq.num ((((N * (bezU D M)) % M) * ((N * (bezU D M)) % M)) - (x1 + x2)), Fq.is (.pointer (some ⟨b1, 4, none⟩)), Fq.num M, Fq.num (((((N * (bezU D M)) % M) * ((N * (bezU D M)) % M)) - (x1 + x2)) % M), Fq.any, Fq.any]) (ks := [none, none, none, none, none, none, none, none, none]) (new := [⟨12, 13, 2, Fq.num 0, Fq.num (((((N * (bezU D M)) % M) * ((N * (bezU D M)) % M)) - (x1 + x2)) % M), none⟩]) E rfl (by kernel_rfl) rfl rfl (fun hp => ⟨?_, ?_, ?_, ?_, ?_, ?_, ?_, ?_, ?_, ?_, ?_, ?_, ?_, ?_, trivial⟩) ?_
   ·exact q_loadInt (off := 0) hp (free_of rfl) trivial (mq 0 rfl) (.inl rfl) (Nat.le_of_ble_eq_true rfl) (sqo 12) (fun us w hl h => ld_num hl h)
   ·exact q_loadInt (off := 0) hp (free_of rfl) trivial (mq 0 rfl) (.inl rfl) (Nat.le_of_ble_eq_true rfl) (sqo 12) (fun us w hl h => ld_num hl h)
   ·exact q_call2 (F := (Fq.num ((N * (bezU D M)) % M)).P) (G := (Fq.num ((N * (bezU D M)) % M)).P) hp (free_of rfl) trivial (enq_Mul) (sqi 0) (sqi 1) (fun v v' w h h' => exK (MulV h h') B17.out (by omega))
   ·exact q_addr (b := b2) (off := 0) (off' := 0) hp (free_of rfl) trivial (sqo 4) (fun ρ w h => by simp [execOp, go_sem, h]) (fun _ => rfl)
   ·exact q_loadSt (off := 0) (l := 2) (fs := [.n x1, .n y1, .v (.bool false)]) (gs := [.n x1]) hp (free_of rfl) trivial (mq 7 rfl) (.inl rfl) rfl row_api_Int rfl (sqi 3) (fun v w h => st_num h)
   ·exact q_addr (b := b3) (off := 0) (off' := 0) hp (free_of rfl) trivial (sqo 5) (fun ρ w h => by simp [execOp, go_sem, h]) (fun _ => rfl)
   ·exact q_loadSt (off := 0) (l := 2) (fs := [.n x2, .n y2, .v (.bool false)]) (gs := [.n x2]) hp (free_of rfl) trivial (mq 6 rfl) (.inl rfl) rfl row_api_Int rfl (sqi 5) (fun v w h => st_num h)
   ·exact q_call2 (F := (Fq.num x1).P) (G := (Fq.num x2).P) hp (free_of rfl) trivial (enq_Add) (sqi 4) (sqi 6) (fun v v' w h h' => exK (AddV h h') B18.out (by omega))
   ·exact q_call2 (F := (Fq.num (((N * (bezU D M)) % M) * ((N * (bezU D M)) % M))).P) (G := (Fq.num (x1 + x2)).P) hp (free_of rfl) trivial (enq_Sub) (sqi 2) (sqi 7) (fun v v' w h h' => exK (SubV h h') B19.out (by omega))
   ·exact q_addr (b := b1) (off := 0) (off' := 4) hp (free_of rfl) trivial (sqo 3) (fun ρ w h => by simp [execOp, go_sem, h]) (fun _ => rfl)
   ·exact q_loadSt (off := 4) (l := 2) (fs := [.n A, .n B, .n M]) (gs := [.n M]) hp (free_of rfl) trivial (mq 8 rfl) (.inl rfl) rfl row_api_Int rfl (sqi 9) (fun v w h => st_num h)
   ·exact q_call2 (F := (Fq.num ((((N * (bezU D M)) % M) * ((N * (bezU D M)) % M)) - (x1 + x2))).P) (G := (Fq.num M).P) hp (free_of rfl) trivial (enq_f_algorist_point_residue) (sqi 8) (sqi 10) (fun v v' w h h' => exResP h h' (Int.lt_of_lt_of_le B19.out (pw_le (by omega))) (Int.lt_of_lt_of_le hM.out (pw_le (by omega))) HM0.out)
   ·exact q_allocInt hp (mq 0 rfl) rfl rfl rfl rfl (Nat.ne_of_beq_eq_false rfl) (fun _ _ => trivial) (old_ne rfl) (newk_ne rfl) (fun w => Num.zero w)
   ·exact q_storeNewInt hp (mq 0 rfl) rfl rfl rfl (own_ptr rfl rfl (by simp) rfl) (sq_in 11 rfl rfl (by simp) rfl (fun v w h => intV_num h)) (fun _ _ => trivial) (old_ne rfl) (newi_ne rfl)
   intro L vs w21 nb hL hC hn E21
   have e3 : vs 3 = .pointer (some ⟨b2, 0, none⟩) := hC 3 (by simp)
   have e5 : vs 5 = .pointer (some ⟨b3, 0, none⟩) := hC 5 (by simp)
   have e9 : vs 9 = .pointer (some ⟨b1, 4, none⟩) := hC 9 (by simp)
   have e12 : vs 12 = .pointer (some ⟨nb 12, 0, none⟩) := hn _ (mq 0 rfl)
   have E : Fr w [(nb 12, 2, Fq.num (((((N * (bezU D M)) % M) * ((N * (bezU D M)) % M)) - (x1 + x2)) % M)), (b16_6, 2, Fq.num ((N * (bezU D M)) % M)), (b12_7, 2, Fq.num (bezU D M)), (b8_7, 2, Fq.num N), (b8_8, 2, Fq.num D), (b5, 2, Fq.num 0), (b4, 5, Fq.st [.n 0, .n 0, .v (.bool false)]), (b3, 5, Fq.st [.n x2, .n y2, .v (.bool false)]), (b2, 5, Fq.st [.n x1, .n y1, .v (.bool false)]), (b1, 6, Fq.st [.n A, .n B, .n M])] w21 := E21
   rw [lay_all hL]
   simp only [putAll, dstOf, List.length_cons, List.length_nil, Nat.zero_add, Nat.reduceAdd, List.getElem?_toArray, List.getElem?_cons_zero, List.getElem?_cons_succ, Option.bind_some, Act.put, List.setIfInBounds_toArray, List.set_cons_succ, List.set_cons_zero]
   rw [e3, e5, e9, e12]
   generalize nb 12 = b21_12 at E ⊢
   generalize vs 0 = u21_0
   generalize vs 1 = u21_1
   generalize vs 2 = u21_2
   generalize vs 4 = u21_4
   generalize vs 6 = u21_6
   generalize vs 7 = u21_7
   generalize vs 8 = u21_8
   generalize vs 10 = u21_10
   generalize vs 11 = u21_11
   clear e3 e5 e9 e12 hC hn E21 hL vs L nb
   go_upto_region 13 with (fail)
   have B22 : Hid (ab ((x1 - (((((N * (bezU D M)) % M) * ((N * (bezU D M)) % M)) - (x1 + x2)) % M))) < pw 6) := ab_subB hx1.out B20.out (by omega) (by omega)
   have B23 : Hid (ab ((((N * (bezU D M)) % M) * (x1 - (((((N * (bezU D M)) % M) * ((N * (bezU D M)) % M)) - (x1 + x2)) % M)))) < pw 11) := ab_mulM B15.out B22.out (by omega)
   have B24 : Hid (ab (((((N * (bezU D M)) % M) * (x1 - (((((N * (bezU D M)) % M) * ((N * (bezU D M)) % M)) - (x1 + x2)) % M))) - y1)) < pw 12) := ab_subB B23.out hy1.out (by omega) (by omega)
   have B25 : Hid (ab ((((((N * (bezU D M)) % M) * (x1 - (((((N * (bezU D M)) % M) * ((N * (bezU D M)) % M)) - (x1 + x2)) % M))) - y1) % M)) < pw 5) := ab_mod' HM0.out hM.out
   refine region_fr (C := [Fq.num ((N * (bezU D M)) % M), Fq.is (.pointer (some ⟨b2, 0, none⟩)), Fq.num x1, Fq.num (((((N * (bezU D M)) % M) * ((N * (bezU D M)) % M)) - (x1 + x2)) % M), Fq.num (x1 - (((((N * (bezU D M)) % M) * ((N * (bezU D M)) % M)) - (x1 + x2)) % M)), Fq.num (((N * (bezU D M)) % M) * (x1 - (((((N * (bezU D M)) % M) * ((N * (bezU D M)) % M)) - (x1 + x2)) % M))), Fq.is (.pointer (some ⟨b2, 2, none⟩)), Fq.num y1, Fq.num ((((N * (bezU D M)) % M) * (x1 - (((((N * (bezU D M)) % M) * ((N * (bezU D M)) % M)) - (x1 + x2)) % M))) - y1), Fq.is (.pointer (some ⟨b1, 4, none⟩)), Fq.num M, Fq.num (((((N * (bezU D M)) % M) * (x1 - (((((N * (bezU D M)) % M) * ((N * (bezU D M)) % M)) - (x1 + x2)) % M))) - y1) % M), Fq.any, Fq.any]) (ks := [none, none, none, none, none, none, none, none, none, none]) (new := [⟨12, 13, 2, Fq.num 0, Fq.num (((((N * (bezU D M)) % M) * (x1 - (((((N * (bezU D M)) % M) * ((N * (bezU D M)) % M)) - (x1 + x2)) % M))) - y1) % M), none⟩]) E rfl (by kernel_rfl) rfl rfl (fun hp => ⟨?_, ?_, ?_, ?_, ?_, ?_, ?_, ?_, ?_, ?_, ?_, ?_, ?_, ?_, trivial⟩) ?_
   ·exact q_loadInt (off := 0) hp (free_of rfl) trivial (mq 1 rfl) (.inl rfl) (Nat.le_of_ble_eq_true rfl) (sqo 12) (fun us w hl h => ld_num hl h)
   ·exact q_addr (b := b2) (off := 0) (off' := 0) hp (free_of rfl) trivial (sqo 4) (fun ρ w h => by simp [execOp, go_sem, h]) (fun _ => rfl)
   ·exact q_loadSt (off := 0) (l := 2) (fs := [.n x1, .n y1, .v (.bool false)]) (gs := [.n x1]) hp (free_of rfl) trivial (mq 8 rfl) (.inl rfl) rfl row_api_Int rfl (sqi 1) (fun v w h => st_num h)
   ·exact q_loadInt (off := 0) hp (free_of rfl) trivial (mq 0 rfl) (.inl rfl) (Nat.le_of_ble_eq_true rfl) (sqo 13) (fun us w hl h => ld_num hl h)
   ·exact q_call2 (F := (Fq.num x1).P) (G := (Fq.num (((((N * (bezU D M)) % M) * ((N * (bezU D M)) % M)) - (x1 + x2)) % M)).P) hp (free_of rfl) trivial (enq_Sub) (sqi 2) (sqi 3) (fun v v' w h h' => exK (SubV h h') B22.out (by omega))
   ·exact q_call2 (F := (Fq.num ((N * (bezU D M)) % M)).P) (G := (Fq.num (x1 - (((((N * (bezU D M)) % M) * ((N * (bezU D M)) % M)) - (x1 + x2)) % M))).P) hp (free_of rfl) trivial (enq_Mul) (sqi 0) (sqi 4) (fun v v' w h h' => exK (MulV h h') B23.out (by omega))
   ·exact q_addr (b := b2) (off := 0) (off' := 2) hp (free_of rfl) trivial (sqo 4) (fun ρ w h => by simp [execOp, go_sem, h]) (fun _ => rfl)
   ·exact q_loadSt (off := 2) (l := 2) (fs := [.n x1, .n y1, .v (.bool false)]) (gs := [.n y1]) hp (free_of rfl) trivial (mq 8 rfl) (.inl rfl) rfl row_api_Int rfl (sqi 6) (fun v w h => st_num h)
   ·exact q_call2 (F := (Fq.num (((N * (bezU D M)) % M) * (x1 - (((((N * (bezU D M)) % M) * ((N * (bezU D M)) % M)) - (x1 + x2)) % M)))).P) (G := (Fq.num y1).P) hp (free_of rfl) trivial (enq_Sub) (sqi 5) (sqi 7) (fun v v' w h h' => exK (SubV h h') B24.out (by omega))
   ·exact q_addr (b := b1) (off := 0) (off' := 4) hp (free_of rfl) trivial (sqo 3) (fun ρ w h => by simp [execOp, go_sem, h]) (fun _ => rfl)
   ·exact q_loadSt (off := 4) (l := 2) (fs := [.n A, .n B, .n M]) (gs := [.n M]) hp (free_of rfl) trivial (mq 9 rfl) (.inl rfl) rfl row_api_Int rfl (sqi 9) (fun v w h => st_num h)
   ·exact q_call2 (F := (Fq.num ((((N * (bezU D M)) % M) * (x1 - (((((N * (bezU D M)) % M) * ((N * (bezU D M)) % M)) - (x1 + x2)) % M))) - y1)).P) (G := (Fq.num M).P) hp (free_of rfl) trivial (enq_f_algorist_point_residue) (sqi 8) (sqi 10) (fun v v' w h h' => exResP h h' (Int.lt_of_lt_of_le B24.out (pw_le (by omega))) (Int.lt_of_lt_of_le hM.out (pw_le (by omega))) HM0.out)
   ·exact q_allocInt hp (mq 0 rfl) rfl rfl rfl rfl (Nat.ne_of_beq_eq_false rfl) (fun _ _ => trivial) (old_ne rfl) (newk_ne rfl) (fun w => Num.zero w)
   ·exact q_storeNewInt hp (mq 0 rfl) rfl rfl rfl (own_ptr rfl rfl (by simp) rfl) (sq_in 11 rfl rfl (by simp) rfl (fun v w h => intV_num h)) (fun _ _ => trivial) (old_ne rfl) (newi_ne rfl)
   intro L vs w26 nb hL hC hn E26
   have e1 : vs 1 = .pointer (some ⟨b2, 0, none⟩) := hC 1 (by simp)
   have e6 : vs 6 = .pointer (some ⟨b2, 2, none⟩) := hC 6 (by simp)
   have e9 : vs 9 = .pointer (some ⟨b1, 4, none⟩) := hC 9 (by simp)
   have e12 : vs 12 = .pointer (some ⟨nb 12, 0, none⟩) := hn _ (mq 0 rfl)
   have E : Fr w [(nb 12, 2, Fq.num (((((N * (bezU D M)) % M) * (x1 - (((((N * (bezU D M)) % M) * ((N * (bezU D M)) % M)) - (x1 + x2)) % M))) - y1) % M)), (b21_12, 2, Fq.num (((((N * (bezU D M)) % M) * ((N * (bezU D M)) % M)) - (x1 + x2)) % M)), (b16_6, 2, Fq.num ((N * (bezU D M)) % M)), (b12_7, 2, Fq.num (bezU D M)), (b8_7, 2, Fq.num N), (b8_8, 2, Fq.num D), (b5, 2, Fq.num 0), (b4, 5, Fq.st [.n 0, .n 0, .v (.bool false)]), (b3, 5, Fq.st [.n x2, .n y2, .v (.bool false)]), (b2, 5, Fq.st [.n x1, .n y1, .v (.bool false)]), (b1, 6, Fq.st [.n A, .n B, .n M])] w26 := E26
   rw [lay_all hL]
   simp only [putAll, dstOf, List.length_cons, List.length_nil, Nat.zero_add, Nat.reduceAdd, List.getElem?_toArray, List.getElem?_cons_zero, List.getElem?_cons_succ, Option.bind_some, Act.put, List.setIfInBounds_toArray, List.set_cons_succ, List.set_cons_zero]
   rw [e1, e6, e9, e12]
   generalize nb 12 = b26_12 at E ⊢
   generalize vs 0 = u26_0
   generalize vs 2 = u26_2
   generalize vs 3 = u26_3
   generalize vs 4 = u26_4
   generalize vs 5 = u26_5
   generalize vs 7 = u26_7
   generalize vs 8 = u26_8
   generalize vs 10 = u26_10
   generalize vs 11 = u26_11
   clear e1 e6 e9 e12 hC hn E26 hL vs L nb
   go_upto_region 14 with (fail)
   refine region_fr (C := [Fq.num (((((N * (bezU D M)) % M) * ((N * (bezU D M)) % M)) - (x1 + x2)) % M), Fq.num (((((N * (bezU D M)) % M) * (x1 - (((((N * (bezU D M)) % M) * ((N * (bezU D M)) % M)) - (x1 + x2)) % M))) - y1) % M), Fq.st [.n (((((N * (bezU D M)) % M) * ((N * (bezU D M)) % M)) - (x1 + x2)) % M), .n (((((N * (bezU D M)) % M) * (x1 - (((((N * (bezU D M)) % M) * ((N * (bezU D M)) % M)) - (x1 + x2)) % M))) - y1) % M), .v (.bool false)], Fq.num 0, Fq.any, Fq.any]) (ks := [none, none, none, none, none, none, some (5, Fq.num 0), some (4, Fq.st [.n (((((N * (bezU D M)) % M) * ((N * (bezU D M)) % M)) - (x1 + x2)) % M), .n (((((N * (bezU D M)) % M) * (x1 - (((((N * (bezU D M)) % M) * ((N * (bezU D M)) % M)) - (x1 + x2)) % M))) - y1) % M), .v (.bool false)]), none, none, none]) (new := []) E rfl (by kernel_rfl) rfl rfl (fun hp => ⟨?_, ?_, ?_, ?_, ?_, ?_, trivial⟩) ?_
   ·exact q_loadInt (off := 0) hp (free_of rfl) trivial (mq 1 rfl) (.inl rfl) (Nat.le_of_ble_eq_true rfl) (sqo 13) (fun us w hl h => ld_num hl h)
   ·exact q_loadInt (off := 0) hp (free_of rfl) trivial (mq 0 rfl) (.inl rfl) (Nat.le_of_ble_eq_true rfl) (sqo 14) (fun us w hl h => ld_num hl h)
   ·exact q_build_api_Point_01 (z0 := (((((N * (bezU D M)) % M) * ((N * (bezU D M)) % M)) - (x1 + x2)) % M)) (z1 := (((((N * (bezU D M)) % M) * (x1 - (((((N * (bezU D M)) % M) * ((N * (bezU D M)) % M)) - (x1 + x2)) % M))) - y1) % M)) hp (free_of rfl) trivial (sqi 0) (sqi 1) (fun v w h => h)
   ·exact q_zeroInt hp (free_of rfl) trivial (fun w => Num.zero w)
   ·exact q_storeOldSt (off := 0) (fs := [.n 0, .n 0, .v (.bool false)]) (gs := [.n (((((N * (bezU D M)) % M) * ((N * (bezU D M)) % M)) - (x1 + x2)) % M), .n (((((N * (bezU D M)) % M) * (x1 - (((((N * (bezU D M)) % M) * ((N * (bezU D M)) % M)) - (x1 + x2)) % M))) - y1) % M), .v (.bool false)]) (fs' := [.n (((((N * (bezU D M)) % M) * ((N * (bezU D M)) % M)) - (x1 + x2)) % M), .n (((((N * (bezU D M)) % M) * (x1 - (((((N * (bezU D M)) % M) * ((N * (bezU D M)) % M)) - (x1 + x2)) % M))) - y1) % M), .v (.bool false)]) hp (mq 7 rfl) rfl rfl rfl size_api_Point rfl (sqo 6) (sq_in 2 rfl rfl (by simp) rfl (fun v w h => fitv_st h)) (fun _ _ => trivial) (newik_ne rfl)
   ·exact q_storeOldInt hp (mq 6 rfl) rfl rfl (sqo 7) (sq_in 3 rfl rfl (by simp) rfl (fun v w h => intV_num h)) (fun _ _ => trivial) (newik_ne rfl)
   intro L vs w27 nb hL hC hn E27
   have E : Fr w [(b26_12, 2, Fq.num (((((N * (bezU D M)) % M) * (x1 - (((((N * (bezU D M)) % M) * ((N * (bezU D M)) % M)) - (x1 + x2)) % M))) - y1) % M)), (b21_12, 2, Fq.num (((((N * (bezU D M)) % M) * ((N * (bezU D M)) % M)) - (x1 + x2)) % M)), (b16_6, 2, Fq.num ((N * (bezU D M)) % M)), (b12_7, 2, Fq.num (bezU D M)), (b8_7, 2, Fq.num N), (b8_8, 2, Fq.num D), (b5, 2, Fq.num 0), (b4, 5, Fq.st [.n (((((N * (bezU D M)) % M) * ((N * (bezU D M)) % M)) - (x1 + x2)) % M), .n (((((N * (bezU D M)) % M) * (x1 - (((((N * (bezU D M)) % M) * ((N * (bezU D M)) % M)) - (x1 + x2)) % M))) - y1) % M), .v (.bool false)]), (b3, 5, Fq.st [.n x2, .n y2, .v (.bool false)]), (b2, 5, Fq.st [.n x1, .n y1, .v (.bool false)]), (b1, 6, Fq.st [.n A, .n B, .n M])] w27 := E27
   rw [lay_all hL]
   simp only [putAll, dstOf, List.length_cons, List.length_nil, Nat.zero_add, Nat.reduceAdd, List.getElem?_toArray, List.getElem?_cons_zero, List.getElem?_cons_succ, Option.bind_some, Act.put, List.setIfInBounds_toArray, List.set_cons_succ, List.set_cons_zero]
   generalize vs 0 = u27_0
   generalize vs 1 = u27_1
   generalize vs 2 = u27_2
   generalize vs 3 = u27_3
   clear  hC hn E27 hL vs L nb
   clear T0 HM0 HND HG
   obtain ⟨_, _, hc0, hf0⟩ := box_st (E.box 7 rfl)
   have hP0 := hf0
   obtain ⟨r0_p0, r0_q0, _, rfl, _r0_n0, r0_p1, r0_q1, _, rfl, _r0_n1, _, rfl, _, rfl⟩ := hf0
   have c0_0 := hc0 0 (by simp)
   have c0_1 := hc0 1 (by simp)
   have c0_2 := hc0 2 (by simp)
   have c0_3 := hc0 3 (by simp)
   have c0_4 := hc0 4 (by simp)
   simp only [List.getD_cons_zero, List.getD_cons_succ] at c0_0 c0_1 c0_2 c0_3 c0_4
   clear hc0
   obtain ⟨p1_0, p1_1, c1_0, c1_1, hP1⟩ := box_num (E.box 6 rfl)
   clear B14 B15 B17 B18 B19 B20 B22 B23 B24 B25 hM hA hx1 hy1 hx2 hy2 HNB HDB HU
   go_wp2
   refine bodyPost_ret (v := .tuple #[.agg #[r0_p0, r0_q0, r0_p1, r0_q1, .bool false], .agg #[p1_0, p1_1]]) ?_ rfl ⟨_, rfl, E.below, ⟨_, _, rfl, ⟨_, rfl, hP0⟩, hP1⟩⟩
   simp [results, Try.results55, go_sem, c0_0, c0_1, c0_2, c0_3, c0_4, c1_0, c1_1]
  ·unfold finP at ht
   rw [if_neg h0, if_neg h1] at ht
   subst ht
   have T0 := hidd (decide_eq_false h0)
   have HG := hidd h1
   clear h0 h1
   go_upto_region 6 with (fail)
   refine region_fr (C := [Fq.num D, Fq.is (.bool false)]) (ks := [none, none, none, none, none, none, none]) (new := []) E rfl (by kernel_rfl) rfl rfl (fun hp => ⟨?_, ?_, trivial⟩) ?_
   ·exact q_loadInt (off := 0) hp (free_of rfl) trivial (mq 1 rfl) (.inl rfl) (Nat.le_of_ble_eq_true rfl) (sqo 9) (fun us w hl h => ld_num hl h)
   ·exact q_call1 (F := (Fq.num D).P) hp (free_of rfl) trivial (enq_f_algorist_point_isZero) (sqi 0) (fun v w h => exIsZero h T0.out)
   intro L vs w28 nb hL hC hn E28
   have e1 : vs 1 = .bool false := hC 1 (by simp)
   have E : Fr w [(b8_7, 2, Fq.num N), (b8_8, 2, Fq.num D), (b5, 2, Fq.num 0), (b4, 5, Fq.st [.n 0, .n 0, .v (.bool false)]), (b3, 5, Fq.st [.n x2, .n y2, .v (.bool false)]), (b2, 5, Fq.st [.n x1, .n y1, .v (.bool false)]), (b1, 6, Fq.st [.n A, .n B, .n M])] w28 := E28
   rw [lay_all hL]
   simp only [putAll, dstOf, List.length_cons, List.length_nil, Nat.zero_add, Nat.reduceAdd, List.getElem?_toArray, List.getElem?_cons_zero, List.getElem?_cons_succ, Option.bind_some, Act.put, List.setIfInBounds_toArray, List.set_cons_succ, List.set_cons_zero]
   rw [e1]
   generalize vs 0 = u28_0
   clear e1 hC hn E28 hL vs L nb
   go_upto_region 8 with (fail)
   refine region_fr (C := [Fq.num D, Fq.is (.pointer (some ⟨b1, 4, none⟩)), Fq.num M, Fq.tup2 (Fq.num (0)) (Fq.is (.int .i64 4)), Fq.tup2 (Fq.num (0)) (Fq.is (.int .i64 4)), Fq.num (0), Fq.is (.int .i64 4), Fq.any, Fq.any, Fq.is (.int .i64 4)]) (ks := [none, none, none, none, none, none, none]) (new := [⟨7, 8, 2, Fq.num 0, Fq.num (0), none⟩]) E rfl (by kernel_rfl) rfl rfl (fun hp => ⟨?_, ?_, ?_, ?_, ?_, ?_, ?_, ?_, ?_, ?_, trivial⟩) ?_
   ·exact q_loadInt (off := 0) hp (free_of rfl) trivial (mq 1 rfl) (.inl rfl) (Nat.le_of_ble_eq_true rfl) (sqo 9) (fun us w hl h => ld_num hl h)
   ·exact q_addr (b := b1) (off := 0) (off' := 4) hp (free_of rfl) trivial (sqo 3) (fun ρ w h => by simp [execOp, go_sem, h]) (fun _ => rfl)
   ·exact q_loadSt (off := 4) (l := 2) (fs := [.n A, .n B, .n M]) (gs := [.n M]) hp (free_of rfl) trivial (mq 6 rfl) (.inl rfl) rfl row_api_Int rfl (sqi 1) (fun v w h => st_num h)
   ·exact q_call2 (F := (Fq.num D).P) (G := (Fq.num M).P) hp (free_of rfl) trivial (enq_M_Inv) (sqi 0) (sqi 2) (fun v v' w h h' => exInvN h h' (Int.lt_of_lt_of_le HDB.out (pw_le (by omega))) (Int.lt_of_lt_of_le hM.out (pw_le (by omega))) HM0.out HG.out)
   ·exact q_move hp (free_of rfl) trivial (sqi 3)
   ·exact q_extract2 hp (free_of rfl) trivial (sqi 4) (fun v1 v2 w h1 h2 => ⟨_, rfl, h1⟩)
   ·exact q_extract2 hp (free_of rfl) trivial (sqi 4) (fun v1 v2 w h1 h2 => ⟨_, rfl, h2⟩)
   ·exact q_allocInt hp (mq 0 rfl) rfl rfl rfl rfl (Nat.ne_of_beq_eq_false rfl) (fun _ _ => trivial) (old_ne rfl) (newk_ne rfl) (fun w => Num.zero w)
   ·exact q_storeNewInt hp (mq 0 rfl) rfl rfl rfl (own_ptr rfl rfl (by simp) rfl) (sq_in 5 rfl rfl (by simp) rfl (fun v w h => intV_num h)) (fun _ _ => trivial) (old_ne rfl) (newi_ne rfl)
   ·exact q_assign hp (free_of rfl) trivial (sqi 6)
   intro L vs w29 nb hL hC hn E29
   have e1 : vs 1 = .pointer (some ⟨b1, 4, none⟩) := hC 1 (by simp)
   have e6 : vs 6 = .int .i64 4 := hC 6 (by simp)
   have e9 : vs 9 = .int .i64 4 := hC 9 (by simp)
   have e7 : vs 7 = .pointer (some ⟨nb 7, 0, none⟩) := hn _ (mq 0 rfl)
   have E : Fr w [(nb 7, 2, Fq.num (0)), (b8_7, 2, Fq.num N), (b8_8, 2, Fq.num D), (b5, 2, Fq.num 0), (b4, 5, Fq.st [.n 0, .n 0, .v (.bool false)]), (b3, 5, Fq.st [.n x2, .n y2, .v (.bool false)]), (b2, 5, Fq.st [.n x1, .n y1, .v (.bool false)]), (b1, 6, Fq.st [.n A, .n B, .n M])] w29 := E29
   rw [lay_all hL]
   simp only [putAll, dstOf, List.length_cons, List.length_nil, Nat.zero_add, Nat.reduceAdd, List.getElem?_toArray, List.getElem?_cons_zero, List.getElem?_cons_succ, Option.bind_some, Act.put, List.setIfInBounds_toArray, List.set_cons_succ, List.set_cons_zero]
   rw [e1, e6, e9, e7]
   generalize nb 7 = b29_7 at E ⊢
   generalize vs 0 = u29_0
   generalize vs 2 = u29_2
   generalize vs 3 = u29_3
   generalize vs 4 = u29_4
   generalize vs 5 = u29_5
   clear e1 e6 e9 e7 hC hn E29 hL vs L nb
   go_upto_region 9 with (fail)
   refine region_fr (C := [Fq.is (.int .i64 4), Fq.is (.bool true)]) (ks := [none, none, none, none, none, none, none, none]) (new := []) E rfl (by kernel_rfl) rfl rfl (fun hp => ⟨?_, ?_, trivial⟩) ?_
   ·exact q_move hp (free_of rfl) trivial (sqo 11)
   ·exact q_one (F := fun v _ => v = .int .i64 4) hp (free_of rfl) trivial (sqi 0) (fun ρ w hc h => ⟨.bool true, by simp [execOp, go_sem, h, hc], rfl⟩)
   intro L vs w30 nb hL hC hn E30
   have e0 : vs 0 = .int .i64 4 := hC 0 (by simp)
   have e1 : vs 1 = .bool true := hC 1 (by simp)
   have E : Fr w [(b29_7, 2, Fq.num (0)), (b8_7, 2, Fq.num N), (b8_8, 2, Fq.num D), (b5, 2, Fq.num 0), (b4, 5, Fq.st [.n 0, .n 0, .v (.bool false)]), (b3, 5, Fq.st [.n x2, .n y2, .v (.bool false)]), (b2, 5, Fq.st [.n x1, .n y1, .v (.bool false)]), (b1, 6, Fq.st [.n A, .n B, .n M])] w30 := E30
   rw [lay_all hL]
   simp only [putAll, dstOf, List.length_cons, List.length_nil, Nat.zero_add, Nat.reduceAdd, List.getElem?_toArray, List.getElem?_cons_zero, List.getElem?_cons_succ, Option.bind_some, Act.put, List.setIfInBounds_toArray, List.set_cons_succ, List.set_cons_zero]
   rw [e0, e1]
   clear e0 e1 hC hn E30 hL vs L nb
   go_upto_region 10 with (fail)
   refine region_fr (C := [Fq.st [.n 0, .n 0, .v (.bool false)], Fq.num D, Fq.is (.pointer (some ⟨b1, 4, none⟩)), Fq.num M, Fq.num (Int.gcd D M : Int), Fq.any, Fq.any]) (ks := [none, none, none, some (6, Fq.num (Int.gcd D M : Int)), some (5, Fq.st [.n 0, .n 0, .v (.bool false)]), none, none, none]) (new := []) E rfl (by kernel_rfl) rfl rfl (fun hp => ⟨?_, ?_, ?_, ?_, ?_, ?_, ?_, trivial⟩) ?_
   ·exact q_build_api_Point_ hp (free_of rfl) trivial (fun v w h => h)
   ·exact q_loadInt (off := 0) hp (free_of rfl) trivial (mq 2 rfl) (.inl rfl) (Nat.le_of_ble_eq_true rfl) (sqo 9) (fun us w hl h => ld_num hl h)
   ·exact q_addr (b := b1) (off := 0) (off' := 4) hp (free_of rfl) trivial (sqo 3) (fun ρ w h => by simp [execOp, go_sem, h]) (fun _ => rfl)
   ·exact q_loadSt (off := 4) (l := 2) (fs := [.n A, .n B, .n M]) (gs := [.n M]) hp (free_of rfl) trivial (mq 7 rfl) (.inl rfl) rfl row_api_Int rfl (sqi 2) (fun v w h => st_num h)
   ·exact q_call2 (F := (Fq.num D).P) (G := (Fq.num M).P) hp (free_of rfl) trivial (enq_Gcd) (sqi 1) (sqi 3) (fun v v' w h h' => exK (GcdV h h') (gcd_ab HM0.out hM.out) (by omega))
   ·exact q_storeOldSt (off := 0) (fs := [.n 0, .n 0, .v (.bool false)]) (gs := [.n 0, .n 0, .v (.bool false)]) (fs' := [.n 0, .n 0, .v (.bool false)]) hp (mq 4 rfl) rfl rfl rfl size_api_Point rfl (sqo 6) (sq_in 0 rfl rfl (by simp) rfl (fun v w h => fitv_st h)) (fun _ _ => trivial) (newik_ne rfl)
   ·exact q_storeOldInt hp (mq 3 rfl) rfl rfl (sqo 7) (sq_in 4 rfl rfl (by simp) rfl (fun v w h => intV_num h)) (fun _ _ => trivial) (newik_ne rfl)
   intro L vs w31 nb hL hC hn E31
   have e2 : vs 2 = .pointer (some ⟨b1, 4, none⟩) := hC 2 (by simp)
   have E : Fr w [(b29_7, 2, Fq.num (0)), (b8_7, 2, Fq.num N), (b8_8, 2, Fq.num D), (b5, 2, Fq.num (Int.gcd D M : Int)), (b4, 5, Fq.st [.n 0, .n 0, .v (.bool false)]), (b3, 5, Fq.st [.n x2, .n y2, .v (.bool false)]), (b2, 5, Fq.st [.n x1, .n y1, .v (.bool false)]), (b1, 6, Fq.st [.n A, .n B, .n M])] w31 := E31
   rw [lay_all hL]
   simp only [putAll, dstOf, List.length_cons, List.length_nil, Nat.zero_add, Nat.reduceAdd, List.getElem?_toArray, List.getElem?_cons_zero, List.getElem?_cons_succ, Option.bind_some, Act.put, List.setIfInBounds_toArray, List.set_cons_succ, List.set_cons_zero]
   rw [e2]
   generalize vs 0 = u31_0
   generalize vs 1 = u31_1
   generalize vs 3 = u31_3
   generalize vs 4 = u31_4
   clear e2 hC hn E31 hL vs L nb
   clear T0 HM0 HND HG
   obtain ⟨_, _, hc0, hf0⟩ := box_st (E.box 4 rfl)
   have hP0 := hf0
   obtain ⟨r0_p0, r0_q0, _, rfl, _r0_n0, r0_p1, r0_q1, _, rfl, _r0_n1, _, rfl, _, rfl⟩ := hf0
   have c0_0 := hc0 0 (by simp)
   have c0_1 := hc0 1 (by simp)
   have c0_2 := hc0 2 (by simp)
   have c0_3 := hc0 3 (by simp)
   have c0_4 := hc0 4 (by simp)
   simp only [List.getD_cons_zero, List.getD_cons_succ] at c0_0 c0_1 c0_2 c0_3 c0_4
   clear hc0
   obtain ⟨p1_0, p1_1, c1_0, c1_1, hP1⟩ := box_num (E.box 3 rfl)
   clear hM hA hx1 hy1 hx2 hy2 HNB HDB
   go_wp2
   refine bodyPost_ret (v := .tuple #[.agg #[r0_p0, r0_q0, r0_p1, r0_q1, .bool false], .agg #[p1_0, p1_1]]) ?_ rfl ⟨_, rfl, E.below, ⟨_, _, rfl, ⟨_, rfl, hP0⟩, hP1⟩⟩
   simp [results, Try.results55, go_sem, c0_0, c0_1, c0_2, c0_3, c0_4, c1_0, c1_1]

theorem exSum {w : World} {v v' u : Value} {A B M : Int} {P Q : Pt} (h : (Fq.st [.n A, .n B, .n M]).P v w) (h' : (Fq.pt P).P v' w) (h2 : (Fq.pt Q).P u w) (hM : ab M < pw 5) (hA : ab A < pw 5) (hP : P.Ok M) (hQ : Q.Ok M) {R : Pt × Int} (ht : sumP A M P Q = R) : Calls Try.prog 55 #[v, v', u] w fun e w' => ∃ v', e = .returned v' ∧ Below w.heap.size w w' ∧ (Fq.tup2 (Fq.pt R.1) (Fq.num R.2)).P v' w' := by
 subst ht
 have h1 := hP.ab hM
 have h3 := hQ.ab hM
 obtain ⟨x1, y1, i1⟩ := P
 obtain ⟨x2, y2, i2⟩ := Q
 cases i1 with
 | true => exact exSumI h h' h2 h3.1 h3.2 hQ.1 hQ.2.2.1
 | false =>
  cases i2 with
  | true => exact exSumJ h h' h2 h1.1 h1.2 hP.1 hP.2.2.1
  | false => exact exSumF h h' h2 hM hA h1.1 h1.2 h3.1 h3.2 (by have := hP.1; have := hP.2.1; omega) rfl

end Go.Proofs.Ytihhlaagndingaa
