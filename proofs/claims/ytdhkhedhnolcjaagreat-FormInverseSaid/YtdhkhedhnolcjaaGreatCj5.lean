/- Ug, Me, Oq, Or, Os, Mg, Mh, Mi, Mj, Mk, Pn, Pd, Pe, Pg, Pf, Pk, Ps, Ph, Pi, Pj, Qf, Pq, Qg, Pr, Pt, Pu, Ml, Mm, Mo, Mq, Ms, Mu, Mw, Mx, Na, Nb, Nc, Pv, Px, Qh, Qi, Ot, Ou, Sb. -/
import Derived.Test.YtdhkhedhnolcjaaGreatCj4
import Derived.WalkSmall
import Derived.Shelf.Spec.TrailingZeros
import Derived.Shelf.Bits.Mul64
import Derived.Lib.BitFns
import Derived.Lib.Walk
import Derived.Lib.Small
import Derived.RangeFuncNested
import Derived.RangeFuncBound
import Derived.RangeFuncCalls
import Derived.RangeFuncLeaves
import Derived.Shelf.Abstract
import Derived.Shelf.RegionOpen
import Derived.WalkKit
import Derived.OwnWalkIn
import Derived.TacticsInMore
import Derived.LoopNIn
import Derived.LoopIn
import Derived.Laws.OwnMore
import Derived.Deep.AppendLies
import Derived.Recover
import Derived.Laws.Pointers
set_option linter.unusedSimpArgs false
set_option linter.unusedVariables false
namespace Go.Proofs.YtdhkhedhnolcjaaGreat
open Go Go.RowKit

theorem zJ2 (args : Array Value) (w : World) : (callFunc 26 args).run Tryz.prog w = .ok (.enter 26 args) w := zAq Tryz.func26 (by kernel_rfl) rfl args w
theorem zH5 (args : Array Value) (w : World) : (callFunc 31 args).run Tryz.prog w = .ok (.enter 31 args) w := zAq Tryz.func31 (by kernel_rfl) rfl args w
theorem zGt (args : Array Value) (w : World) : (callFunc 24 args).run Tryz.prog w = .ok (.enter 24 args) w := zAq Tryz.func24 (by kernel_rfl) rfl args w
theorem zEm (args : Array Value) (w : World) : (callFunc 18 args).run Tryz.prog w = .ok (.enter 18 args) w := zAq Tryz.func18 (by kernel_rfl) rfl args w
theorem zE2 (args : Array Value) (w : World) : (callFunc 34 args).run Tryz.prog w = .ok (.enter 34 args) w := zAq Tryz.func34 (by kernel_rfl) rfl args w
theorem zH4 (args : Array Value) (w : World) : (callFunc 22 args).run Tryz.prog w = .ok (.enter 22 args) w := zAq Tryz.func22 (by kernel_rfl) rfl args w
theorem zFo (args : Array Value) (w : World) : (callFunc 14 args).run Tryz.prog w = .ok (.enter 14 args) w := zAq Tryz.func14 (by kernel_rfl) rfl args w
theorem zH3 (args : Array Value) (w : World) : (callFunc 10 args).run Tryz.prog w = .ok (.enter 10 args) w := zAq Tryz.func10 (by kernel_rfl) rfl args w
theorem zGs (args : Array Value) (w : World) : (callFunc 12 args).run Tryz.prog w = .ok (.enter 12 args) w := zAq Tryz.func12 (by kernel_rfl) rfl args w
theorem zMs (args : Array Value) (w : World) : (callFunc 36 args).run Tryz.prog w = .ok (.enter 36 args) w := zAq Tryz.func36 (by kernel_rfl) rfl args w
theorem zH7 (args : Array Value) (w : World) : (callFunc 70 args).run Tryz.prog w = .ok (.enter 70 args) w := zAq Tryz.func70 (by kernel_rfl) rfl args w
theorem zJ3 (args : Array Value) (w : World) : (callFunc 71 args).run Tryz.prog w = .ok (.enter 71 args) w := zAq Tryz.func71 (by kernel_rfl) rfl args w
theorem zE3 (args : Array Value) (w : World) : (callFunc 54 args).run Tryz.prog w = .ok (.enter 54 args) w := zAq Tryz.func54 (by kernel_rfl) rfl args w
theorem zH6 (args : Array Value) (w : World) : (callFunc 66 args).run Tryz.prog w = .ok (.enter 66 args) w := zAq Tryz.func66 (by kernel_rfl) rfl args w
theorem zE4 (args : Array Value) (w : World) : (callFunc 47 args).run Tryz.prog w = .ok (.enter 47 args) w := zAq Tryz.func47 (by kernel_rfl) rfl args w
theorem zMu (args : Array Value) (w : World) : (callFunc 76 args).run Tryz.prog w = .ok (.enter 76 args) w := zAq Tryz.func76 (by kernel_rfl) rfl args w
theorem zMt (args : Array Value) (w : World) : (callFunc 77 args).run Tryz.prog w = .ok (.enter 77 args) w := zAq Tryz.func77 (by kernel_rfl) rfl args w

theorem zC4 {w : World} {v : Value} {z : Int} (h : Num w v z) : Calls Tryz.prog 56 #[v] w fun e w' => ∃ v', e = .returned v' ∧ Below w.heap.size w w' ∧ v' = .bool true := by
 obtain ⟨n, ao, k, c, rfl⟩ := h.parts
 refine (exValid h).mono ?_
 rintro e w' ⟨rfl, hb⟩
 exact ⟨_, rfl, hb, rfl⟩
theorem exPSqrt {n : Int} (h0 : 0 ≤ n) (hn : ab n < pw 40) : ∃ s : Int, (∀ (w : World) (v : Value), Num w v n → Calls Tryz.prog 89 #[v] w fun e w' => ∃ v', e = .returned v' ∧ Below w.heap.size w w' ∧ (Fq.tup3 (Fq.num s) (Fq.num (n - s * s)) (Fq.is (.int .i64 0))).P v' w') ∧ sqB n = decide (n - s * s = 0) := by
 obtain ⟨s, s0, s1, s2⟩ := isq_ex n.toNat
 have e : ((n.toNat : Nat) : Int) = n := by omega
 rw [e] at s1 s2
 refine ⟨s, fun w v hv => (SqrtV hv (Int.lt_of_lt_of_le hn (zAb (by omega)))).mono fun e w' hh => ?_, zLu s0 s1 s2⟩
 obtain ⟨hB, ⟨h1, _⟩ | ⟨_, v1, v2, r, rfl, hr1, hr2, hr⟩⟩ := hh
 ·omega
 ·obtain ⟨q0, q1, q2⟩ := root_sq hr
  obtain rfl : r = s := zIj q0 q1 q2 s0 s1 s2
  have hbr : ab r < pw 40 := by
   have h4 := hn
   have h5 : r ≤ r * r := by
    rcases Int.lt_or_le 0 r with h | h
    ·have := Int.mul_le_mul_of_nonneg_left (show 1 ≤ r by omega) s0; omega
    ·have := Int.mul_nonneg s0 s0; omega
   unfold ab at *
   generalize pw 40 = k at *
   omega
  have hbr2 : ab (n - r * r) < pw 40 := by
   have h4 := hn
   have := Int.mul_nonneg s0 s0
   unfold ab at *
   generalize pw 40 = k at *
   omega
  exact ⟨_, rfl, hB, v1, v2, _, rfl, zDj hr1 hbr (by omega), zDj hr2 hbr2 (by omega), rfl⟩
theorem exPSqrtN {w : World} {v : Value} {n : Int} (h : Num w v n) (hn : ab n < pw 40) (h0 : n < 0) : Calls Tryz.prog 89 #[v] w fun e w' => ∃ v', e = .returned v' ∧ Below w.heap.size w w' ∧ (Fq.tup3 (Fq.num 0) (Fq.num 0) (Fq.is (.int .i64 1))).P v' w' := by
 refine (SqrtV h (Int.lt_of_lt_of_le hn (zAb (by omega)))).mono fun e w' hh => ?_
 obtain ⟨hB, ⟨_, rfl⟩ | ⟨h1, _⟩⟩ := hh
 ·exact ⟨_, rfl, hB, _, _, _, rfl, Num.zero w', Num.zero w', rfl⟩
 ·omega
theorem zKe {a b c : Int} (hd : b * b - 4 * (a * c) < 0) : a ≠ 0 := by
 rintro rfl
 have := zDv b
 rw [Int.zero_mul] at hd
 omega
theorem cmpI_eq0 {x y : Int} : cmpI x y = 0 ↔ x = y := cmpIq0
theorem zHe (a b c : Int) : dfB a b c = decide (redE a b c = 0) := by
 unfold dfB redE
 by_cases hd : b * b - 4 * (a * c) < 0
 ·rw [if_neg (fun x => by omega)]
  by_cases hz : a < 0
  ·rw [zJu hd hz, decide_eq_false (by omega)]; rfl
  ·rw [zHt hd hz, decide_eq_true (by omega)]; rfl
 ·rw [zHu hd, decide_eq_false (by omega)]
  symm
  refine decide_eq_false ?_
  by_cases hq : sqB (b * b - 4 * (a * c)) = true
  ·rw [if_pos hq, if_neg (fun x => absurd x.1 (by decide))]; decide
  ·rw [if_neg hq, if_pos ⟨rfl, by
    rcases Int.lt_or_le 0 (b * b - 4 * (a * c)) with h | h
    ·exact h
    ·exfalso
     have e : b * b - 4 * (a * c) = 0 := by omega
     rw [e] at hq
     exact hq (sqB_iff.2 ⟨0, rfl⟩)⟩]
   decide
set_option maxRecDepth 100000 in
set_option maxHeartbeats 4000000 in
theorem zNm {w : World} {v : Value} {n : Int} (h : Num w v n) (hn : ab n < pw 40) (hc : n < 0) {t : Bool} (ht : sqB n = t) :
  Calls Tryz.prog 47 #[v] w fun e w' => ∃ v', e = .returned v' ∧ Below w.heap.size w w' ∧ v' = .bool t := by
 replace hn := hidd hn
 have ht2 : t = false := ht.symm.trans (zHj hc)
 subst ht2
 clear ht
 have HC := hidd hc
 clear hc
 obtain ⟨n0, ao0, k0, c0, rfl⟩ := h.parts
 obtain ⟨w1, b1, hw1, hb1, hs1, E⟩ := zCu w (F := Fq.num n) (us := [.bool n0, .slice ao0 k0 c0]) 31 rfl (by simp) (zB0 _ _ _ _) h
 go_enter Tryz.func47, Tryz.ntmps47
 go_upto_region 1 with (fail)
 rw [← hw1]
 rw [← hb1]
 clear hw1 hb1 hs1
 refine rg [Fq.num n, Fq.tup3 (Fq.num 0) (Fq.num 0) (Fq.is (.int .i64 1)), Fq.tup3 (Fq.num 0) (Fq.num 0) (Fq.is (.int .i64 1)), Fq.num 0, Fq.num 0, Fq.is (.int .i64 1), Fq.any, Fq.any, Fq.any, Fq.any, Fq.is (.int .i64 1)] [none] [⟨6, 8, 2, Fq.num 0, Fq.num 0, none⟩, ⟨7, 9, 2, Fq.num 0, Fq.num 0, none⟩] E (fun hp => ⟨?_, ?_, ?_, ?_, ?_, ?_, ?_, ?_, ?_, ?_, ?_, tv⟩) ?_
 ·exact lI 0 hp (mq 0 rfl) (sqo 1) fun us w hl h => zAp hl h
 ·exact wXa (Fq.num n) hp zJy (sqi 0) fun v w h => exPSqrtN h hn.out HC.out
 ·exact zAa hp fo tv (sqi 1)
 ·exact zA1 hp fo tv (sqi 2) (fun v1 v2 v3 w h1 h2 h3 => ⟨_, rfl, h1⟩)
 ·exact zA1 hp fo tv (sqi 2) (fun v1 v2 v3 w h1 h2 h3 => ⟨_, rfl, h2⟩)
 ·exact zA1 hp fo tv (sqi 2) (fun v1 v2 v3 w h1 h2 h3 => ⟨_, rfl, h3⟩)
 ·exact aN hp (mq 0 rfl)
 ·exact aN hp (mq 1 rfl)
 ·exact sN 3 hp (mq 0 rfl)
 ·exact sN 4 hp (mq 1 rfl)
 ·exact zAh hp fo tv (sqi 5)
 intro L vs w2 nb hL hC hn E2
 have e5 := wXi hC 5
 have e10 := wXi hC 10
 have e6 : vs 6 = .pointer (some ⟨nb 6, 0, none⟩) := hn _ (mq 0 rfl)
 have e7 : vs 7 = .pointer (some ⟨nb 7, 0, none⟩) := hn _ (mq 1 rfl)
 have E := E2; try simp only [LM, zAd] at E
 rw [zAe hL]
 simp only [SP, Nat.zero_add, Nat.reduceAdd]
 rw [e5, e10, e6, e7]
 generalize nb 6 = b2_6 at E ⊢
 generalize nb 7 = b2_7 at E ⊢
 generalize vs 0 = u2_0
 generalize vs 1 = u2_1
 generalize vs 2 = u2_2
 generalize vs 3 = u2_3
 generalize vs 4 = u2_4
 clear e5 e10 e6 e7 hC hn E2 hL vs L nb
 clear HC
 go_upto_region 2 with (fail)
 refine rg [Fq.is (.int .i64 1), yF, yF, Fq.is (undef), Fq.is (undef), Fq.is (undef), yF, yF] N3 [] E (fun hp => ⟨?_, ?_, ?_, ?_, ?_, ?_, ?_, ?_, tv⟩) ?_
 ·exact zAa hp fo tv (sqo 5)
 ·exact zAf (F := fun v _ => v = .int .i64 1) hp fo tv (sqi 0) (fun ρ w hc h => ⟨.bool false, by simp [execOp, go_sem, h, hc], rfl⟩)
 ·exact zAa hp fo tv (sqi 1)
 ·exact zAi hp fo rfl gqi (fun _ => rfl)
 ·exact zAi hp fo rfl gqi (fun _ => rfl)
 ·exact zAi hp fo rfl gqi (fun _ => rfl)
 ·exact zAg (F := fun v _ => v = .bool false) (G := fun v _ => v = .bool false) hp fo tv (sqi 2) (zAj (fun _ => rfl)) (fun ρ w hc h h' => ⟨_, by simp [execOp, go_sem, h, h'], rfl⟩)
 ·exact zAh hp fo tv (sqi 6)
 intro L vs w3 nb hL hC hn E3
 have e0 := wXi hC 0
 have e1 := wXi hC 1
 have e2 := wXi hC 2
 have e3 := wXi hC 3
 have e4 := wXi hC 4
 have e5 := wXi hC 5
 have e6 := wXi hC 6
 have e7 := wXi hC 7
 have E := E3; try simp only [LM, zAd] at E
 rw [zAe hL]
 simp only [SP, Nat.zero_add, Nat.reduceAdd]
 rw [e0, e1, e2, e3, e4, e5, e6, e7]
 clear e0 e1 e2 e3 e4 e5 e6 e7 hC hn E3 hL vs L nb
 clear hn
 go_wp2
 refine bodyPost_ret (v := .bool false) ?_ rfl ⟨_, rfl, E.below, rfl⟩
 simp [results, Tryz.results47, go_sem]

set_option maxRecDepth 100000 in
set_option maxHeartbeats 4000000 in
theorem zNn {w : World} {v : Value} {n : Int} (h : Num w v n) (hn : ab n < pw 40) (hc : ¬ n < 0) {t : Bool} (ht : sqB n = t) :
  Calls Tryz.prog 47 #[v] w fun e w' => ∃ v', e = .returned v' ∧ Below w.heap.size w w' ∧ v' = .bool t := by
 replace hn := hidd hn
 obtain ⟨s, hS, hq⟩ := exPSqrt (by omega) hn.out
 have HS := hidd hS
 have ht3 : t = decide (n - s * s = 0) := ht.symm.trans hq
 clear hc hS hq ht
 have HT : Hid (t = decide (n - s * s = 0)) := ht3
 clear ht3
 obtain ⟨n0, ao0, k0, c0, rfl⟩ := h.parts
 obtain ⟨w1, b1, hw1, hb1, hs1, E⟩ := zCu w (F := Fq.num n) (us := [.bool n0, .slice ao0 k0 c0]) 31 rfl (by simp) (zB0 _ _ _ _) h
 go_enter Tryz.func47, Tryz.ntmps47
 go_upto_region 1 with (fail)
 rw [← hw1]
 rw [← hb1]
 clear hw1 hb1 hs1
 refine rg [Fq.num n, Fq.tup3 (Fq.num s) (Fq.num (n - s * s)) (Fq.is (.int .i64 0)), Fq.tup3 (Fq.num s) (Fq.num (n - s * s)) (Fq.is (.int .i64 0)), Fq.num s, Fq.num (n - s * s), Fq.is (.int .i64 0), Fq.any, Fq.any, Fq.any, Fq.any, Fq.is (.int .i64 0)] [none] [⟨6, 8, 2, Fq.num 0, Fq.num s, none⟩, ⟨7, 9, 2, Fq.num 0, Fq.num (n - s * s), none⟩] E (fun hp => ⟨?_, ?_, ?_, ?_, ?_, ?_, ?_, ?_, ?_, ?_, ?_, tv⟩) ?_
 ·exact lI 0 hp (mq 0 rfl) (sqo 1) fun us w hl h => zAp hl h
 ·exact wXa (Fq.num n) hp zJy (sqi 0) fun v w h => HS.out _ _ h
 ·exact zAa hp fo tv (sqi 1)
 ·exact zA1 hp fo tv (sqi 2) (fun v1 v2 v3 w h1 h2 h3 => ⟨_, rfl, h1⟩)
 ·exact zA1 hp fo tv (sqi 2) (fun v1 v2 v3 w h1 h2 h3 => ⟨_, rfl, h2⟩)
 ·exact zA1 hp fo tv (sqi 2) (fun v1 v2 v3 w h1 h2 h3 => ⟨_, rfl, h3⟩)
 ·exact aN hp (mq 0 rfl)
 ·exact aN hp (mq 1 rfl)
 ·exact sN 3 hp (mq 0 rfl)
 ·exact sN 4 hp (mq 1 rfl)
 ·exact zAh hp fo tv (sqi 5)
 intro L vs w2 nb hL hC hn E2
 have e5 := wXi hC 5
 have e10 := wXi hC 10
 have e6 : vs 6 = .pointer (some ⟨nb 6, 0, none⟩) := hn _ (mq 0 rfl)
 have e7 : vs 7 = .pointer (some ⟨nb 7, 0, none⟩) := hn _ (mq 1 rfl)
 have E := E2; try simp only [LM, zAd] at E
 rw [zAe hL]
 simp only [SP, Nat.zero_add, Nat.reduceAdd]
 rw [e5, e10, e6, e7]
 generalize nb 6 = b2_6 at E ⊢
 generalize nb 7 = b2_7 at E ⊢
 generalize vs 0 = u2_0
 generalize vs 1 = u2_1
 generalize vs 2 = u2_2
 generalize vs 3 = u2_3
 generalize vs 4 = u2_4
 clear e5 e10 e6 e7 hC hn E2 hL vs L nb
 go_upto_region 2 with (fail)
 by_cases hz : n - s * s = 0
 ·have T2 : Hid (cmpI (n - s * s) 0 = 0) := cmpIq0.2 hz
  have ht2 : t = true := HT.out.trans (decide_eq_true hz)
  subst ht2
  clear hz HT
  refine rg [Fq.is (.int .i64 0), yT, yT, Fq.num (n - s * s), Fq.is (.int .i64 (cmpI (n - s * s) 0)), yT, yT, yT] N3 [] E (fun hp => ⟨?_, ?_, ?_, ?_, ?_, ?_, ?_, ?_, tv⟩) ?_
  ·exact zAa hp fo tv (sqo 5)
  ·exact zAf (F := fun v _ => v = .int .i64 0) hp fo tv (sqi 0) (fun ρ w hc h => ⟨.bool true, by simp [execOp, go_sem, h, hc], rfl⟩)
  ·exact zAa hp fo tv (sqi 1)
  ·exact zCd (off := 0) hp fo gqi (mq 1 rfl) (.inl rfl) (Nat.le_of_ble_eq_true rfl) (sqo 4) (fun us w hl h => zAp hl h)
  ·exact zAn (F := (Fq.num (n - s * s)).P) hp fo gqi (zCg) (sqi 3) (fun v w h => zCh h)
  ·exact zAf (F := fun v _ => v = .int .i64 (cmpI (n - s * s) 0)) hp fo gqi (sqi 4) (fun ρ w hc h => ⟨.bool true, by simp [execOp, go_sem, h, hc, T2.out], rfl⟩)
  ·exact zAg (F := fun v _ => v = .bool true) (G := fun v _ => v = .bool true) hp fo tv (sqi 2) (sqi 5) (fun ρ w hc h h' => ⟨_, by simp [execOp, go_sem, h, h'], rfl⟩)
  ·exact zAh hp fo tv (sqi 6)
  intro L vs w3 nb hL hC hn E3
  have e0 := wXi hC 0
  have e1 := wXi hC 1
  have e2 := wXi hC 2
  have e4 := wXi hC 4
  have e5 := wXi hC 5
  have e6 := wXi hC 6
  have e7 := wXi hC 7
  have E := E3; try simp only [LM, zAd] at E
  rw [zAe hL]
  simp only [SP, Nat.zero_add, Nat.reduceAdd]
  rw [e0, e1, e2, e4, e5, e6, e7]
  generalize vs 3 = u3_3
  clear e0 e1 e2 e4 e5 e6 e7 hC hn E3 hL vs L nb
  clear T2 HS
  clear hn
  go_wp2
  refine bodyPost_ret (v := .bool true) ?_ rfl ⟨_, rfl, E.below, rfl⟩
  simp [results, Tryz.results47, go_sem]
 ·have T2 : Hid (¬ cmpI (n - s * s) 0 = 0) := fun e => hz (cmpIq0.1 e)
  have ht2 : t = false := HT.out.trans (decide_eq_false hz)
  subst ht2
  clear hz HT
  refine rg [Fq.is (.int .i64 0), yT, yT, Fq.num (n - s * s), Fq.is (.int .i64 (cmpI (n - s * s) 0)), yF, yF, yF] N3 [] E (fun hp => ⟨?_, ?_, ?_, ?_, ?_, ?_, ?_, ?_, tv⟩) ?_
  ·exact zAa hp fo tv (sqo 5)
  ·exact zAf (F := fun v _ => v = .int .i64 0) hp fo tv (sqi 0) (fun ρ w hc h => ⟨.bool true, by simp [execOp, go_sem, h, hc], rfl⟩)
  ·exact zAa hp fo tv (sqi 1)
  ·exact zCd (off := 0) hp fo gqi (mq 1 rfl) (.inl rfl) (Nat.le_of_ble_eq_true rfl) (sqo 4) (fun us w hl h => zAp hl h)
  ·exact zAn (F := (Fq.num (n - s * s)).P) hp fo gqi (zCg) (sqi 3) (fun v w h => zCh h)
  ·exact zAf (F := fun v _ => v = .int .i64 (cmpI (n - s * s) 0)) hp fo gqi (sqi 4) (fun ρ w hc h => ⟨.bool false, by simp [execOp, go_sem, h, hc, T2.out], rfl⟩)
  ·exact zAg (F := fun v _ => v = .bool true) (G := fun v _ => v = .bool false) hp fo tv (sqi 2) (sqi 5) (fun ρ w hc h h' => ⟨_, by simp [execOp, go_sem, h, h'], rfl⟩)
  ·exact zAh hp fo tv (sqi 6)
  intro L vs w4 nb hL hC hn E4
  have e0 := wXi hC 0
  have e1 := wXi hC 1
  have e2 := wXi hC 2
  have e4 := wXi hC 4
  have e5 := wXi hC 5
  have e6 := wXi hC 6
  have e7 := wXi hC 7
  have E := E4; try simp only [LM, zAd] at E
  rw [zAe hL]
  simp only [SP, Nat.zero_add, Nat.reduceAdd]
  rw [e0, e1, e2, e4, e5, e6, e7]
  generalize vs 3 = u4_3
  clear e0 e1 e2 e4 e5 e6 e7 hC hn E4 hL vs L nb
  clear T2 HS
  clear hn
  go_wp2
  refine bodyPost_ret (v := .bool false) ?_ rfl ⟨_, rfl, E.below, rfl⟩
  simp [results, Tryz.results47, go_sem]

theorem zE7 {w : World} {v : Value} {n : Int} (h : Num w v n) (hn : ab n < pw 40) {t : Bool} (ht : sqB n = t) :
  Calls Tryz.prog 47 #[v] w fun e w' => ∃ v', e = .returned v' ∧ Below w.heap.size w w' ∧ v' = .bool t := by
 by_cases hc : n < 0
 ·exact zNm h hn hc ht
 ·exact zNn h hn hc ht

set_option maxRecDepth 100000 in
set_option maxHeartbeats 4000000 in
theorem exPDisc0 {w : World} {v : Value} {a b c : Int} (h : (Fq.st [.n a, .n b, .n c]).P v w) (ha : ab a < pw 60) (hb : ab b < pw 60) (hc : ab c < pw 60) :
  Calls Tryz.prog 18 #[v] w fun e w' => ∃ v', e = .returned v' ∧ Below w.heap.size w w' ∧ Num w' v' (((b * b) - ((4) * (a * c)))) := by
 replace ha := hidd ha
 replace hb := hidd hb
 replace hc := hidd hc
 obtain ⟨_, rfl, hf0⟩ := h
 have hF0 := hf0
 obtain ⟨y0_p0, y0_q0, _, rfl, _y0_n0, y0_p1, y0_q1, _, rfl, _y0_n1, y0_p2, y0_q2, _, rfl, _y0_n2, rfl⟩ := hf0
 obtain ⟨w1, b1, hw1, hb1, hs1, E⟩ := gS w 33 hF0
 obtain ⟨w2, b2, hw2, hb2, hs2, E⟩ := fZ E hs1 31
 go_enter Tryz.func18, Tryz.ntmps18
 go_upto_region 1 with (fail)
 rw [← hw1]
 rw [← hw2]
 rw [← hb2]
 rw [← hb1]
 clear hw1 hw2 hb1 hb2 hs2 hs1
 have B3 : Hid (ab ((4)) < pw 3) := zBh (by decide)
 refine rg [Fq.num (4), Fq.any, Fq.any] N2 [⟨1, 2, 2, Fq.num 0, Fq.num (4), none⟩] E (fun hp => ⟨?_, ?_, ?_, tv⟩) ?_
 ·exact zAn (F := (Fq.is (.int .i64 4)).P) hp fo tv (zC1) (zAj (fun _ => rfl)) (fun v w h => (by subst h; exact OfK w (4) (by omega) (by omega)))
 ·exact aN hp (mq 0 rfl)
 ·exact sN 0 hp (mq 0 rfl)
 intro L vs w4 nb hL hC hn E4
 have e1 : vs 1 = .pointer (some ⟨nb 1, 0, none⟩) := hn _ (mq 0 rfl)
 have E := E4; try simp only [LM, zAd] at E
 rw [zAe hL]
 simp only [SP, Nat.zero_add, Nat.reduceAdd]
 rw [e1]
 generalize nb 1 = b4_1 at E ⊢
 generalize vs 0 = u4_0
 clear e1 hC hn E4 hL vs L nb
 go_upto_region 2 with (fail)
 have B5 : Hid (ab ((b * b)) < pw 120) := zAt hb.out hb.out (by omega)
 have B6 : Hid (ab ((a * c)) < pw 120) := zAt ha.out hc.out (by omega)
 have B7 : Hid (ab (((4) * (a * c))) < pw 123) := zAt B3.out B6.out (by omega)
 have B8 : Hid (ab (((b * b) - ((4) * (a * c)))) < pw 124) := zDp B5.out B7.out (by omega) (by omega)
 refine rg [ip b1 2, Fq.num b, ip b1 2, Fq.num b, Fq.num (b * b), Fq.num (4), ip b1 0, Fq.num a, ip b1 4, Fq.num c, Fq.num (a * c), Fq.num ((4) * (a * c)), Fq.num ((b * b) - ((4) * (a * c))), Fq.any] [none, some (13, Fq.num ((b * b) - ((4) * (a * c)))), none] [] E (fun hp => ⟨?_, ?_, ?_, ?_, ?_, ?_, ?_, ?_, ?_, ?_, ?_, ?_, ?_, ?_, tv⟩) ?_
 ·exact qa b1 0 2 hp (sqo 1)
 ·exact lN 2 2 hp (mq 2 rfl) zAc (sqi 0)
 ·exact qa b1 0 2 hp (sqo 1)
 ·exact lN 2 2 hp (mq 2 rfl) zAc (sqi 2)
 ·exact wXb (Fq.num b) (Fq.num b) hp zBj (sqi 1) (sqi 3) fun v v' w h h' => exK (MulV h h') B5.out (by omega)
 ·exact lI 0 hp (mq 0 rfl) (sqo 3) fun us w hl h => zAp hl h
 ·exact qa b1 0 0 hp (sqo 1)
 ·exact lN 0 2 hp (mq 2 rfl) zAc (sqi 6)
 ·exact qa b1 0 4 hp (sqo 1)
 ·exact lN 4 2 hp (mq 2 rfl) zAc (sqi 8)
 ·exact wXb (Fq.num a) (Fq.num c) hp zBj (sqi 7) (sqi 9) fun v v' w h h' => exK (MulV h h') B6.out (by omega)
 ·exact wXb (Fq.num (4)) (Fq.num (a * c)) hp zBj (sqi 5) (sqi 10) fun v v' w h h' => exK (MulV h h') B7.out (by omega)
 ·exact wXb (Fq.num (b * b)) (Fq.num ((4) * (a * c))) hp enq_Sub (sqi 4) (sqi 11) fun v v' w h h' => exK (SubV h h') B8.out (by omega)
 ·exact sP 12 hp (mq 1 rfl) (sqo 2)
 intro L vs w9 nb hL hC hn E9
 have e0 := wXi hC 0
 have e2 := wXi hC 2
 have e6 := wXi hC 6
 have e8 := wXi hC 8
 have E := E9; try simp only [LM, zAd] at E
 rw [zAe hL]
 simp only [SP, Nat.zero_add, Nat.reduceAdd]
 rw [e0, e2, e6, e8]
 generalize vs 1 = u9_1
 generalize vs 3 = u9_3
 generalize vs 4 = u9_4
 generalize vs 5 = u9_5
 generalize vs 7 = u9_7
 generalize vs 9 = u9_9
 generalize vs 10 = u9_10
 generalize vs 11 = u9_11
 generalize vs 12 = u9_12
 clear e0 e2 e6 e8 hC hn E9 hL vs L nb
 obtain ⟨p0_0, p0_1, c0_0, c0_1, hP0⟩ := zD0 (E.box 1 rfl)
 clear B3 B5 B6 B7 B8 ha hb hc
 go_wp2
 refine bodyPost_ret (v := .agg #[p0_0, p0_1]) ?_ rfl ⟨_, rfl, E.below, hP0⟩
 simp [results, Tryz.results18, go_sem, c0_0, c0_1]

theorem zEn {w : World} {v : Value} {a b c : Int} (h : (Fq.st [.n a, .n b, .n c]).P v w) (ha : ab a < pw 60) (hb : ab b < pw 60) (hc : ab c < pw 60) :
  Calls Tryz.prog 18 #[v] w fun e w' => ∃ v', e = .returned v' ∧ Below w.heap.size w w' ∧ Num w' v' (b * b - 4 * (a * c)) := exPDisc0 h ha hb hc

set_option maxRecDepth 100000 in
set_option maxHeartbeats 4000000 in
theorem zM8 {w : World} {v : Value} {a b c : Int} (h : (Fq.st [.n a, .n b, .n c]).P v w) (ha : ab a < pw 15) (hb : ab b < pw 15) (hc : ab c < pw 15) (hq : sqB (b * b - 4 * (a * c)) = true) :
  Calls Tryz.prog 14 #[v] w fun e w' => ∃ v', e = .returned v' ∧ Below w.heap.size w w' ∧ v' = .int .i64 5 := by
 replace ha := hidd ha
 replace hb := hidd hb
 replace hc := hidd hc
 have HQ := hidd hq
 clear hq
 have HDB := hidd (zCf ha.out hb.out hc.out)
 obtain ⟨_, rfl, hf0⟩ := h
 have hF0 := hf0
 obtain ⟨y0_p0, y0_q0, _, rfl, _y0_n0, y0_p1, y0_q1, _, rfl, _y0_n1, y0_p2, y0_q2, _, rfl, _y0_n2, rfl⟩ := hf0
 obtain ⟨w1, b1, hw1, hb1, hs1, E⟩ := gS w 33 hF0
 go_enter Tryz.func14, Tryz.ntmps14
 go_upto_region 1 with (fail)
 rw [← hw1]
 rw [← hb1]
 clear hw1 hb1 hs1
 refine rg [ip b1 0, Fq.num a, yT, yF, yF, ip b1 2, Fq.num b, yT, yF, yF, yF, ip b1 4, Fq.num c, yT, yF, yF] [none] [] E (fun hp => ⟨?_, ?_, ?_, ?_, ?_, ?_, ?_, ?_, ?_, ?_, ?_, ?_, ?_, ?_, ?_, ?_, tv⟩) ?_
 ·exact qa b1 0 0 hp (sqo 1)
 ·exact lN 0 2 hp (mq 0 rfl) zAc (sqi 0)
 ·exact wXa (Fq.num a) hp zC3 (sqi 1) fun v w h => zC4 h
 ·exact zAf (F := fun v _ => v = .bool true) hp fo tv (sqi 2) (fun ρ w _ h => ⟨.bool false, by simp [execOp, go_sem, h], rfl⟩)
 ·exact zAa hp fo tv (sqi 3)
 ·exact zAl (b := b1) (off := 0) (off' := 2) hp fo gqi (sqo 1) (fun ρ w h => by simp [execOp, go_sem, h]) (fun _ => rfl)
 ·exact lG 2 2 hp gqi (mq 0 rfl) zAc (sqi 5) fun v w h => zAk h
 ·exact zAn (F := (Fq.num b).P) hp fo gqi (zC3) (sqi 6) (fun v w h => zC4 h)
 ·exact zAf (F := fun v _ => v = .bool true) hp fo gqi (sqi 7) (fun ρ w _ h => ⟨.bool false, by simp [execOp, go_sem, h], rfl⟩)
 ·exact zAg (F := fun v _ => v = .bool false) (G := fun v _ => v = .bool false) hp fo tv (sqi 4) (sqi 8) (fun ρ w hc h h' => ⟨_, by simp [execOp, go_sem, h, h'], rfl⟩)
 ·exact zAa hp fo tv (sqi 9)
 ·exact zAl (b := b1) (off := 0) (off' := 4) hp fo gqi (sqo 1) (fun ρ w h => by simp [execOp, go_sem, h]) (fun _ => rfl)
 ·exact lG 4 2 hp gqi (mq 0 rfl) zAc (sqi 11) fun v w h => zAk h
 ·exact zAn (F := (Fq.num c).P) hp fo gqi (zC3) (sqi 12) (fun v w h => zC4 h)
 ·exact zAf (F := fun v _ => v = .bool true) hp fo gqi (sqi 13) (fun ρ w _ h => ⟨.bool false, by simp [execOp, go_sem, h], rfl⟩)
 ·exact zAg (F := fun v _ => v = .bool false) (G := fun v _ => v = .bool false) hp fo tv (sqi 10) (sqi 14) (fun ρ w hc h h' => ⟨_, by simp [execOp, go_sem, h, h'], rfl⟩)
 intro L vs w2 nb hL hC hn E2
 have e0 := wXi hC 0
 have e2 := wXi hC 2
 have e3 := wXi hC 3
 have e4 := wXi hC 4
 have e5 := wXi hC 5
 have e7 := wXi hC 7
 have e8 := wXi hC 8
 have e9 := wXi hC 9
 have e10 := wXi hC 10
 have e11 := wXi hC 11
 have e13 := wXi hC 13
 have e14 := wXi hC 14
 have e15 := wXi hC 15
 have E := E2; try simp only [LM, zAd] at E
 rw [zAe hL]
 simp only [SP, Nat.zero_add, Nat.reduceAdd]
 rw [e0, e2, e3, e4, e5, e7, e8, e9, e10, e11, e13, e14, e15]
 generalize vs 1 = u2_1
 generalize vs 6 = u2_6
 generalize vs 12 = u2_12
 clear e0 e2 e3 e4 e5 e7 e8 e9 e10 e11 e13 e14 e15 hC hn E2 hL vs L nb
 go_upto_region 3 with (fail)
 refine rg [Fq.st [.n a, .n b, .n c], Fq.num (b * b - 4 * (a * c)), Fq.any, Fq.any] [none] [⟨2, 3, 2, Fq.num 0, Fq.num (b * b - 4 * (a * c)), none⟩] E (fun hp => ⟨?_, ?_, ?_, ?_, tv⟩) ?_
 ·exact lS 0 6 hp (mq 0 rfl) zAm (sqo 1)
 ·exact wXa (Fq.st [.n a, .n b, .n c]) hp zEm (sqi 0) fun v w h => zEn h (Int.lt_of_lt_of_le ha.out (zAb (by omega))) (Int.lt_of_lt_of_le hb.out (zAb (by omega))) (Int.lt_of_lt_of_le hc.out (zAb (by omega)))
 ·exact aN hp (mq 0 rfl)
 ·exact sN 1 hp (mq 0 rfl)
 intro L vs w3 nb hL hC hn E3
 have e2 : vs 2 = .pointer (some ⟨nb 2, 0, none⟩) := hn _ (mq 0 rfl)
 have E := E3; try simp only [LM, zAd] at E
 rw [zAe hL]
 simp only [SP, Nat.zero_add, Nat.reduceAdd]
 rw [e2]
 generalize nb 2 = b3_2 at E ⊢
 generalize vs 0 = u3_0
 generalize vs 1 = u3_1
 clear e2 hC hn E3 hL vs L nb
 go_upto_region 4 with (fail)
 refine rg [Fq.num (b * b - 4 * (a * c)), yT, yT] N2 [] E (fun hp => ⟨?_, ?_, ?_, tv⟩) ?_
 ·exact lI 0 hp (mq 0 rfl) (sqo 3) fun us w hl h => zAp hl h
 ·exact wXa (Fq.num (b * b - 4 * (a * c))) hp zE4 (sqi 0) fun v w h => zE7 h HDB.out HQ.out
 ·exact zAh hp fo tv (sqi 1)
 intro L vs w4 nb hL hC hn E4
 have e1 := wXi hC 1
 have e2 := wXi hC 2
 have E := E4; try simp only [LM, zAd] at E
 rw [zAe hL]
 simp only [SP, Nat.zero_add, Nat.reduceAdd]
 rw [e1, e2]
 generalize vs 0 = u4_0
 clear e1 e2 hC hn E4 hL vs L nb
 go_upto_region 5 with (fail)
 refine rg [Fq.is (.int .i64 5)] N2 [] E (fun hp => ⟨?_, tv⟩) ?_
 ·exact zAh hp fo tv (zAj (fun _ => rfl))
 intro L vs w5 nb hL hC hn E5
 have e0 := wXi hC 0
 have E := E5; try simp only [LM, zAd] at E
 rw [zAe hL]
 simp only [SP, Nat.zero_add, Nat.reduceAdd]
 rw [e0]
 clear e0 hC hn E5 hL vs L nb
 clear HQ
 clear ha hb hc HDB
 go_wp2
 refine bodyPost_ret (v := .int .i64 5) ?_ rfl ⟨_, rfl, E.below, rfl⟩
 simp [results, Tryz.results14, go_sem]

set_option maxRecDepth 100000 in
set_option maxHeartbeats 4000000 in
theorem zM7 {w : World} {v : Value} {a b c : Int} (h : (Fq.st [.n a, .n b, .n c]).P v w) (ha : ab a < pw 15) (hb : ab b < pw 15) (hc : ab c < pw 15) (hq : sqB (b * b - 4 * (a * c)) = false) (hd : (b * b - 4 * (a * c)) < 0) (hz : a < 0) :
  Calls Tryz.prog 14 #[v] w fun e w' => ∃ v', e = .returned v' ∧ Below w.heap.size w w' ∧ v' = .int .i64 1 := by
 replace ha := hidd ha
 replace hb := hidd hb
 replace hc := hidd hc
 have HQ := hidd hq
 clear hq
 have HDB := hidd (zCf ha.out hb.out hc.out)
 have T1 : Hid (cmpI (b * b - 4 * (a * c)) 0 < 0) := cmpIqlt.2 hd
 clear hd
 have T2 : Hid (cmpI a 0 ≤ 0) := by have := cmpIqlt.2 hz; show _ ≤ _; omega
 clear hz
 obtain ⟨_, rfl, hf0⟩ := h
 have hF0 := hf0
 obtain ⟨y0_p0, y0_q0, _, rfl, _y0_n0, y0_p1, y0_q1, _, rfl, _y0_n1, y0_p2, y0_q2, _, rfl, _y0_n2, rfl⟩ := hf0
 obtain ⟨w1, b1, hw1, hb1, hs1, E⟩ := gS w 33 hF0
 go_enter Tryz.func14, Tryz.ntmps14
 go_upto_region 1 with (fail)
 rw [← hw1]
 rw [← hb1]
 clear hw1 hb1 hs1
 refine rg [ip b1 0, Fq.num a, yT, yF, yF, ip b1 2, Fq.num b, yT, yF, yF, yF, ip b1 4, Fq.num c, yT, yF, yF] [none] [] E (fun hp => ⟨?_, ?_, ?_, ?_, ?_, ?_, ?_, ?_, ?_, ?_, ?_, ?_, ?_, ?_, ?_, ?_, tv⟩) ?_
 ·exact qa b1 0 0 hp (sqo 1)
 ·exact lN 0 2 hp (mq 0 rfl) zAc (sqi 0)
 ·exact wXa (Fq.num a) hp zC3 (sqi 1) fun v w h => zC4 h
 ·exact zAf (F := fun v _ => v = .bool true) hp fo tv (sqi 2) (fun ρ w _ h => ⟨.bool false, by simp [execOp, go_sem, h], rfl⟩)
 ·exact zAa hp fo tv (sqi 3)
 ·exact zAl (b := b1) (off := 0) (off' := 2) hp fo gqi (sqo 1) (fun ρ w h => by simp [execOp, go_sem, h]) (fun _ => rfl)
 ·exact lG 2 2 hp gqi (mq 0 rfl) zAc (sqi 5) fun v w h => zAk h
 ·exact zAn (F := (Fq.num b).P) hp fo gqi (zC3) (sqi 6) (fun v w h => zC4 h)
 ·exact zAf (F := fun v _ => v = .bool true) hp fo gqi (sqi 7) (fun ρ w _ h => ⟨.bool false, by simp [execOp, go_sem, h], rfl⟩)
 ·exact zAg (F := fun v _ => v = .bool false) (G := fun v _ => v = .bool false) hp fo tv (sqi 4) (sqi 8) (fun ρ w hc h h' => ⟨_, by simp [execOp, go_sem, h, h'], rfl⟩)
 ·exact zAa hp fo tv (sqi 9)
 ·exact zAl (b := b1) (off := 0) (off' := 4) hp fo gqi (sqo 1) (fun ρ w h => by simp [execOp, go_sem, h]) (fun _ => rfl)
 ·exact lG 4 2 hp gqi (mq 0 rfl) zAc (sqi 11) fun v w h => zAk h
 ·exact zAn (F := (Fq.num c).P) hp fo gqi (zC3) (sqi 12) (fun v w h => zC4 h)
 ·exact zAf (F := fun v _ => v = .bool true) hp fo gqi (sqi 13) (fun ρ w _ h => ⟨.bool false, by simp [execOp, go_sem, h], rfl⟩)
 ·exact zAg (F := fun v _ => v = .bool false) (G := fun v _ => v = .bool false) hp fo tv (sqi 10) (sqi 14) (fun ρ w hc h h' => ⟨_, by simp [execOp, go_sem, h, h'], rfl⟩)
 intro L vs w2 nb hL hC hn E2
 have e0 := wXi hC 0
 have e2 := wXi hC 2
 have e3 := wXi hC 3
 have e4 := wXi hC 4
 have e5 := wXi hC 5
 have e7 := wXi hC 7
 have e8 := wXi hC 8
 have e9 := wXi hC 9
 have e10 := wXi hC 10
 have e11 := wXi hC 11
 have e13 := wXi hC 13
 have e14 := wXi hC 14
 have e15 := wXi hC 15
 have E := E2; try simp only [LM, zAd] at E
 rw [zAe hL]
 simp only [SP, Nat.zero_add, Nat.reduceAdd]
 rw [e0, e2, e3, e4, e5, e7, e8, e9, e10, e11, e13, e14, e15]
 generalize vs 1 = u2_1
 generalize vs 6 = u2_6
 generalize vs 12 = u2_12
 clear e0 e2 e3 e4 e5 e7 e8 e9 e10 e11 e13 e14 e15 hC hn E2 hL vs L nb
 go_upto_region 3 with (fail)
 refine rg [Fq.st [.n a, .n b, .n c], Fq.num (b * b - 4 * (a * c)), Fq.any, Fq.any] [none] [⟨2, 3, 2, Fq.num 0, Fq.num (b * b - 4 * (a * c)), none⟩] E (fun hp => ⟨?_, ?_, ?_, ?_, tv⟩) ?_
 ·exact lS 0 6 hp (mq 0 rfl) zAm (sqo 1)
 ·exact wXa (Fq.st [.n a, .n b, .n c]) hp zEm (sqi 0) fun v w h => zEn h (Int.lt_of_lt_of_le ha.out (zAb (by omega))) (Int.lt_of_lt_of_le hb.out (zAb (by omega))) (Int.lt_of_lt_of_le hc.out (zAb (by omega)))
 ·exact aN hp (mq 0 rfl)
 ·exact sN 1 hp (mq 0 rfl)
 intro L vs w3 nb hL hC hn E3
 have e2 : vs 2 = .pointer (some ⟨nb 2, 0, none⟩) := hn _ (mq 0 rfl)
 have E := E3; try simp only [LM, zAd] at E
 rw [zAe hL]
 simp only [SP, Nat.zero_add, Nat.reduceAdd]
 rw [e2]
 generalize nb 2 = b3_2 at E ⊢
 generalize vs 0 = u3_0
 generalize vs 1 = u3_1
 clear e2 hC hn E3 hL vs L nb
 go_upto_region 4 with (fail)
 refine rg [Fq.num (b * b - 4 * (a * c)), yF, yF] N2 [] E (fun hp => ⟨?_, ?_, ?_, tv⟩) ?_
 ·exact lI 0 hp (mq 0 rfl) (sqo 3) fun us w hl h => zAp hl h
 ·exact wXa (Fq.num (b * b - 4 * (a * c))) hp zE4 (sqi 0) fun v w h => zE7 h HDB.out HQ.out
 ·exact zAh hp fo tv (sqi 1)
 intro L vs w4 nb hL hC hn E4
 have e1 := wXi hC 1
 have e2 := wXi hC 2
 have E := E4; try simp only [LM, zAd] at E
 rw [zAe hL]
 simp only [SP, Nat.zero_add, Nat.reduceAdd]
 rw [e1, e2]
 generalize vs 0 = u4_0
 clear e1 e2 hC hn E4 hL vs L nb
 go_upto_region 6 with (fail)
 refine rg [Fq.num (b * b - 4 * (a * c)), Fq.is (.int .i64 (cmpI (b * b - 4 * (a * c)) 0)), yT, yT, ip b1 0, Fq.num a, Fq.is (.int .i64 (cmpI a 0)), yT, yT, yT] N2 [] E (fun hp => ⟨?_, ?_, ?_, ?_, ?_, ?_, ?_, ?_, ?_, ?_, tv⟩) ?_
 ·exact lI 0 hp (mq 0 rfl) (sqo 3) fun us w hl h => zAp hl h
 ·exact wXa (Fq.num (b * b - 4 * (a * c))) hp zCg (sqi 0) fun v w h => zCh h
 ·exact zAf (F := fun v _ => v = .int .i64 (cmpI (b * b - 4 * (a * c)) 0)) hp fo tv (sqi 1) (fun ρ w hc h => ⟨.bool true, by simp [execOp, go_sem, h, hc, T1.out], rfl⟩)
 ·exact zAa hp fo tv (sqi 2)
 ·exact zAl (b := b1) (off := 0) (off' := 0) hp fo gqi (sqo 1) (fun ρ w h => by simp [execOp, go_sem, h]) (fun _ => rfl)
 ·exact lG 0 2 hp gqi (mq 1 rfl) zAc (sqi 4) fun v w h => zAk h
 ·exact zAn (F := (Fq.num a).P) hp fo gqi (zCg) (sqi 5) (fun v w h => zCh h)
 ·exact zAf (F := fun v _ => v = .int .i64 (cmpI a 0)) hp fo gqi (sqi 6) (fun ρ w hc h => ⟨.bool true, by simp [execOp, go_sem, h, hc, T2.out], rfl⟩)
 ·exact zAg (F := fun v _ => v = .bool true) (G := fun v _ => v = .bool true) hp fo tv (sqi 3) (sqi 7) (fun ρ w hc h h' => ⟨_, by simp [execOp, go_sem, h, h'], rfl⟩)
 ·exact zAh hp fo tv (sqi 8)
 intro L vs w5 nb hL hC hn E5
 have e1 := wXi hC 1
 have e2 := wXi hC 2
 have e3 := wXi hC 3
 have e4 := wXi hC 4
 have e6 := wXi hC 6
 have e7 := wXi hC 7
 have e8 := wXi hC 8
 have e9 := wXi hC 9
 have E := E5; try simp only [LM, zAd] at E
 rw [zAe hL]
 simp only [SP, Nat.zero_add, Nat.reduceAdd]
 rw [e1, e2, e3, e4, e6, e7, e8, e9]
 generalize vs 0 = u5_0
 generalize vs 5 = u5_5
 clear e1 e2 e3 e4 e6 e7 e8 e9 hC hn E5 hL vs L nb
 go_upto_region 7 with (fail)
 refine rg [Fq.is (.int .i64 1)] N2 [] E (fun hp => ⟨?_, tv⟩) ?_
 ·exact zAh hp fo tv (zAj (fun _ => rfl))
 intro L vs w6 nb hL hC hn E6
 have e0 := wXi hC 0
 have E := E6; try simp only [LM, zAd] at E
 rw [zAe hL]
 simp only [SP, Nat.zero_add, Nat.reduceAdd]
 rw [e0]
 clear e0 hC hn E6 hL vs L nb
 clear HQ T1 T2
 clear ha hb hc HDB
 go_wp2
 refine bodyPost_ret (v := .int .i64 1) ?_ rfl ⟨_, rfl, E.below, rfl⟩
 simp [results, Tryz.results14, go_sem]

set_option maxRecDepth 100000 in
set_option maxHeartbeats 4000000 in
theorem zM5 {w : World} {v : Value} {a b c : Int} (h : (Fq.st [.n a, .n b, .n c]).P v w) (ha : ab a < pw 15) (hb : ab b < pw 15) (hc : ab c < pw 15) (hq : sqB (b * b - 4 * (a * c)) = false) (hd : (b * b - 4 * (a * c)) < 0) (hz : 0 < a) :
  Calls Tryz.prog 14 #[v] w fun e w' => ∃ v', e = .returned v' ∧ Below w.heap.size w w' ∧ v' = .int .i64 0 := by
 replace ha := hidd ha
 replace hb := hidd hb
 replace hc := hidd hc
 have HQ := hidd hq
 clear hq
 have HDB := hidd (zCf ha.out hb.out hc.out)
 have T1 : Hid (cmpI (b * b - 4 * (a * c)) 0 < 0) := cmpIqlt.2 hd
 clear hd
 have T2 : Hid (¬ cmpI a 0 ≤ 0) := by have := cmpIqgt.2 hz; show ¬ _ ≤ _; omega
 clear hz
 obtain ⟨_, rfl, hf0⟩ := h
 have hF0 := hf0
 obtain ⟨y0_p0, y0_q0, _, rfl, _y0_n0, y0_p1, y0_q1, _, rfl, _y0_n1, y0_p2, y0_q2, _, rfl, _y0_n2, rfl⟩ := hf0
 obtain ⟨w1, b1, hw1, hb1, hs1, E⟩ := gS w 33 hF0
 go_enter Tryz.func14, Tryz.ntmps14
 go_upto_region 1 with (fail)
 rw [← hw1]
 rw [← hb1]
 clear hw1 hb1 hs1
 refine rg [ip b1 0, Fq.num a, yT, yF, yF, ip b1 2, Fq.num b, yT, yF, yF, yF, ip b1 4, Fq.num c, yT, yF, yF] [none] [] E (fun hp => ⟨?_, ?_, ?_, ?_, ?_, ?_, ?_, ?_, ?_, ?_, ?_, ?_, ?_, ?_, ?_, ?_, tv⟩) ?_
 ·exact qa b1 0 0 hp (sqo 1)
 ·exact lN 0 2 hp (mq 0 rfl) zAc (sqi 0)
 ·exact wXa (Fq.num a) hp zC3 (sqi 1) fun v w h => zC4 h
 ·exact zAf (F := fun v _ => v = .bool true) hp fo tv (sqi 2) (fun ρ w _ h => ⟨.bool false, by simp [execOp, go_sem, h], rfl⟩)
 ·exact zAa hp fo tv (sqi 3)
 ·exact zAl (b := b1) (off := 0) (off' := 2) hp fo gqi (sqo 1) (fun ρ w h => by simp [execOp, go_sem, h]) (fun _ => rfl)
 ·exact lG 2 2 hp gqi (mq 0 rfl) zAc (sqi 5) fun v w h => zAk h
 ·exact zAn (F := (Fq.num b).P) hp fo gqi (zC3) (sqi 6) (fun v w h => zC4 h)
 ·exact zAf (F := fun v _ => v = .bool true) hp fo gqi (sqi 7) (fun ρ w _ h => ⟨.bool false, by simp [execOp, go_sem, h], rfl⟩)
 ·exact zAg (F := fun v _ => v = .bool false) (G := fun v _ => v = .bool false) hp fo tv (sqi 4) (sqi 8) (fun ρ w hc h h' => ⟨_, by simp [execOp, go_sem, h, h'], rfl⟩)
 ·exact zAa hp fo tv (sqi 9)
 ·exact zAl (b := b1) (off := 0) (off' := 4) hp fo gqi (sqo 1) (fun ρ w h => by simp [execOp, go_sem, h]) (fun _ => rfl)
 ·exact lG 4 2 hp gqi (mq 0 rfl) zAc (sqi 11) fun v w h => zAk h
 ·exact zAn (F := (Fq.num c).P) hp fo gqi (zC3) (sqi 12) (fun v w h => zC4 h)
 ·exact zAf (F := fun v _ => v = .bool true) hp fo gqi (sqi 13) (fun ρ w _ h => ⟨.bool false, by simp [execOp, go_sem, h], rfl⟩)
 ·exact zAg (F := fun v _ => v = .bool false) (G := fun v _ => v = .bool false) hp fo tv (sqi 10) (sqi 14) (fun ρ w hc h h' => ⟨_, by simp [execOp, go_sem, h, h'], rfl⟩)
 intro L vs w2 nb hL hC hn E2
 have e0 := wXi hC 0
 have e2 := wXi hC 2
 have e3 := wXi hC 3
 have e4 := wXi hC 4
 have e5 := wXi hC 5
 have e7 := wXi hC 7
 have e8 := wXi hC 8
 have e9 := wXi hC 9
 have e10 := wXi hC 10
 have e11 := wXi hC 11
 have e13 := wXi hC 13
 have e14 := wXi hC 14
 have e15 := wXi hC 15
 have E := E2; try simp only [LM, zAd] at E
 rw [zAe hL]
 simp only [SP, Nat.zero_add, Nat.reduceAdd]
 rw [e0, e2, e3, e4, e5, e7, e8, e9, e10, e11, e13, e14, e15]
 generalize vs 1 = u2_1
 generalize vs 6 = u2_6
 generalize vs 12 = u2_12
 clear e0 e2 e3 e4 e5 e7 e8 e9 e10 e11 e13 e14 e15 hC hn E2 hL vs L nb
 go_upto_region 3 with (fail)
 refine rg [Fq.st [.n a, .n b, .n c], Fq.num (b * b - 4 * (a * c)), Fq.any, Fq.any] [none] [⟨2, 3, 2, Fq.num 0, Fq.num (b * b - 4 * (a * c)), none⟩] E (fun hp => ⟨?_, ?_, ?_, ?_, tv⟩) ?_
 ·exact lS 0 6 hp (mq 0 rfl) zAm (sqo 1)
 ·exact wXa (Fq.st [.n a, .n b, .n c]) hp zEm (sqi 0) fun v w h => zEn h (Int.lt_of_lt_of_le ha.out (zAb (by omega))) (Int.lt_of_lt_of_le hb.out (zAb (by omega))) (Int.lt_of_lt_of_le hc.out (zAb (by omega)))
 ·exact aN hp (mq 0 rfl)
 ·exact sN 1 hp (mq 0 rfl)
 intro L vs w3 nb hL hC hn E3
 have e2 : vs 2 = .pointer (some ⟨nb 2, 0, none⟩) := hn _ (mq 0 rfl)
 have E := E3; try simp only [LM, zAd] at E
 rw [zAe hL]
 simp only [SP, Nat.zero_add, Nat.reduceAdd]
 rw [e2]
 generalize nb 2 = b3_2 at E ⊢
 generalize vs 0 = u3_0
 generalize vs 1 = u3_1
 clear e2 hC hn E3 hL vs L nb
 go_upto_region 4 with (fail)
 refine rg [Fq.num (b * b - 4 * (a * c)), yF, yF] N2 [] E (fun hp => ⟨?_, ?_, ?_, tv⟩) ?_
 ·exact lI 0 hp (mq 0 rfl) (sqo 3) fun us w hl h => zAp hl h
 ·exact wXa (Fq.num (b * b - 4 * (a * c))) hp zE4 (sqi 0) fun v w h => zE7 h HDB.out HQ.out
 ·exact zAh hp fo tv (sqi 1)
 intro L vs w4 nb hL hC hn E4
 have e1 := wXi hC 1
 have e2 := wXi hC 2
 have E := E4; try simp only [LM, zAd] at E
 rw [zAe hL]
 simp only [SP, Nat.zero_add, Nat.reduceAdd]
 rw [e1, e2]
 generalize vs 0 = u4_0
 clear e1 e2 hC hn E4 hL vs L nb
 go_upto_region 6 with (fail)
 refine rg [Fq.num (b * b - 4 * (a * c)), Fq.is (.int .i64 (cmpI (b * b - 4 * (a * c)) 0)), yT, yT, ip b1 0, Fq.num a, Fq.is (.int .i64 (cmpI a 0)), yF, yF, yF] N2 [] E (fun hp => ⟨?_, ?_, ?_, ?_, ?_, ?_, ?_, ?_, ?_, ?_, tv⟩) ?_
 ·exact lI 0 hp (mq 0 rfl) (sqo 3) fun us w hl h => zAp hl h
 ·exact wXa (Fq.num (b * b - 4 * (a * c))) hp zCg (sqi 0) fun v w h => zCh h
 ·exact zAf (F := fun v _ => v = .int .i64 (cmpI (b * b - 4 * (a * c)) 0)) hp fo tv (sqi 1) (fun ρ w hc h => ⟨.bool true, by simp [execOp, go_sem, h, hc, T1.out], rfl⟩)
 ·exact zAa hp fo tv (sqi 2)
 ·exact zAl (b := b1) (off := 0) (off' := 0) hp fo gqi (sqo 1) (fun ρ w h => by simp [execOp, go_sem, h]) (fun _ => rfl)
 ·exact lG 0 2 hp gqi (mq 1 rfl) zAc (sqi 4) fun v w h => zAk h
 ·exact zAn (F := (Fq.num a).P) hp fo gqi (zCg) (sqi 5) (fun v w h => zCh h)
 ·exact zAf (F := fun v _ => v = .int .i64 (cmpI a 0)) hp fo gqi (sqi 6) (fun ρ w hc h => ⟨.bool false, by simp [execOp, go_sem, h, hc, T2.out], rfl⟩)
 ·exact zAg (F := fun v _ => v = .bool true) (G := fun v _ => v = .bool false) hp fo tv (sqi 3) (sqi 7) (fun ρ w hc h h' => ⟨_, by simp [execOp, go_sem, h, h'], rfl⟩)
 ·exact zAh hp fo tv (sqi 8)
 intro L vs w5 nb hL hC hn E5
 have e1 := wXi hC 1
 have e2 := wXi hC 2
 have e3 := wXi hC 3
 have e4 := wXi hC 4
 have e6 := wXi hC 6
 have e7 := wXi hC 7
 have e8 := wXi hC 8
 have e9 := wXi hC 9
 have E := E5; try simp only [LM, zAd] at E
 rw [zAe hL]
 simp only [SP, Nat.zero_add, Nat.reduceAdd]
 rw [e1, e2, e3, e4, e6, e7, e8, e9]
 generalize vs 0 = u5_0
 generalize vs 5 = u5_5
 clear e1 e2 e3 e4 e6 e7 e8 e9 hC hn E5 hL vs L nb
 go_upto_region 8 with (fail)
 refine rg [Fq.is (.int .i64 0)] N2 [] E (fun hp => ⟨?_, tv⟩) ?_
 ·exact zAh hp fo tv (zAj (fun _ => rfl))
 intro L vs w6 nb hL hC hn E6
 have e0 := wXi hC 0
 have E := E6; try simp only [LM, zAd] at E
 rw [zAe hL]
 simp only [SP, Nat.zero_add, Nat.reduceAdd]
 rw [e0]
 clear e0 hC hn E6 hL vs L nb
 clear HQ T1 T2
 clear ha hb hc HDB
 go_wp2
 refine bodyPost_ret (v := .int .i64 0) ?_ rfl ⟨_, rfl, E.below, rfl⟩
 simp [results, Tryz.results14, go_sem]

set_option maxRecDepth 100000 in
set_option maxHeartbeats 4000000 in
theorem zM6 {w : World} {v : Value} {a b c : Int} (h : (Fq.st [.n a, .n b, .n c]).P v w) (ha : ab a < pw 15) (hb : ab b < pw 15) (hc : ab c < pw 15) (hq : sqB (b * b - 4 * (a * c)) = false) (hd : ¬ (b * b - 4 * (a * c)) < 0) :
  Calls Tryz.prog 14 #[v] w fun e w' => ∃ v', e = .returned v' ∧ Below w.heap.size w w' ∧ v' = .int .i64 0 := by
 replace ha := hidd ha
 replace hb := hidd hb
 replace hc := hidd hc
 have HQ := hidd hq
 clear hq
 have HDB := hidd (zCf ha.out hb.out hc.out)
 have T1 : Hid (¬ cmpI (b * b - 4 * (a * c)) 0 < 0) := fun e => hd (cmpIqlt.1 e)
 clear hd
 obtain ⟨_, rfl, hf0⟩ := h
 have hF0 := hf0
 obtain ⟨y0_p0, y0_q0, _, rfl, _y0_n0, y0_p1, y0_q1, _, rfl, _y0_n1, y0_p2, y0_q2, _, rfl, _y0_n2, rfl⟩ := hf0
 obtain ⟨w1, b1, hw1, hb1, hs1, E⟩ := gS w 33 hF0
 go_enter Tryz.func14, Tryz.ntmps14
 go_upto_region 1 with (fail)
 rw [← hw1]
 rw [← hb1]
 clear hw1 hb1 hs1
 refine rg [ip b1 0, Fq.num a, yT, yF, yF, ip b1 2, Fq.num b, yT, yF, yF, yF, ip b1 4, Fq.num c, yT, yF, yF] [none] [] E (fun hp => ⟨?_, ?_, ?_, ?_, ?_, ?_, ?_, ?_, ?_, ?_, ?_, ?_, ?_, ?_, ?_, ?_, tv⟩) ?_
 ·exact qa b1 0 0 hp (sqo 1)
 ·exact lN 0 2 hp (mq 0 rfl) zAc (sqi 0)
 ·exact wXa (Fq.num a) hp zC3 (sqi 1) fun v w h => zC4 h
 ·exact zAf (F := fun v _ => v = .bool true) hp fo tv (sqi 2) (fun ρ w _ h => ⟨.bool false, by simp [execOp, go_sem, h], rfl⟩)
 ·exact zAa hp fo tv (sqi 3)
 ·exact zAl (b := b1) (off := 0) (off' := 2) hp fo gqi (sqo 1) (fun ρ w h => by simp [execOp, go_sem, h]) (fun _ => rfl)
 ·exact lG 2 2 hp gqi (mq 0 rfl) zAc (sqi 5) fun v w h => zAk h
 ·exact zAn (F := (Fq.num b).P) hp fo gqi (zC3) (sqi 6) (fun v w h => zC4 h)
 ·exact zAf (F := fun v _ => v = .bool true) hp fo gqi (sqi 7) (fun ρ w _ h => ⟨.bool false, by simp [execOp, go_sem, h], rfl⟩)
 ·exact zAg (F := fun v _ => v = .bool false) (G := fun v _ => v = .bool false) hp fo tv (sqi 4) (sqi 8) (fun ρ w hc h h' => ⟨_, by simp [execOp, go_sem, h, h'], rfl⟩)
 ·exact zAa hp fo tv (sqi 9)
 ·exact zAl (b := b1) (off := 0) (off' := 4) hp fo gqi (sqo 1) (fun ρ w h => by simp [execOp, go_sem, h]) (fun _ => rfl)
 ·exact lG 4 2 hp gqi (mq 0 rfl) zAc (sqi 11) fun v w h => zAk h
 ·exact zAn (F := (Fq.num c).P) hp fo gqi (zC3) (sqi 12) (fun v w h => zC4 h)
 ·exact zAf (F := fun v _ => v = .bool true) hp fo gqi (sqi 13) (fun ρ w _ h => ⟨.bool false, by simp [execOp, go_sem, h], rfl⟩)
 ·exact zAg (F := fun v _ => v = .bool false) (G := fun v _ => v = .bool false) hp fo tv (sqi 10) (sqi 14) (fun ρ w hc h h' => ⟨_, by simp [execOp, go_sem, h, h'], rfl⟩)
 intro L vs w2 nb hL hC hn E2
 have e0 := wXi hC 0
 have e2 := wXi hC 2
 have e3 := wXi hC 3
 have e4 := wXi hC 4
 have e5 := wXi hC 5
 have e7 := wXi hC 7
 have e8 := wXi hC 8
 have e9 := wXi hC 9
 have e10 := wXi hC 10
 have e11 := wXi hC 11
 have e13 := wXi hC 13
 have e14 := wXi hC 14
 have e15 := wXi hC 15
 have E := E2; try simp only [LM, zAd] at E
 rw [zAe hL]
 simp only [SP, Nat.zero_add, Nat.reduceAdd]
 rw [e0, e2, e3, e4, e5, e7, e8, e9, e10, e11, e13, e14, e15]
 generalize vs 1 = u2_1
 generalize vs 6 = u2_6
 generalize vs 12 = u2_12
 clear e0 e2 e3 e4 e5 e7 e8 e9 e10 e11 e13 e14 e15 hC hn E2 hL vs L nb
 go_upto_region 3 with (fail)
 refine rg [Fq.st [.n a, .n b, .n c], Fq.num (b * b - 4 * (a * c)), Fq.any, Fq.any] [none] [⟨2, 3, 2, Fq.num 0, Fq.num (b * b - 4 * (a * c)), none⟩] E (fun hp => ⟨?_, ?_, ?_, ?_, tv⟩) ?_
 ·exact lS 0 6 hp (mq 0 rfl) zAm (sqo 1)
 ·exact wXa (Fq.st [.n a, .n b, .n c]) hp zEm (sqi 0) fun v w h => zEn h (Int.lt_of_lt_of_le ha.out (zAb (by omega))) (Int.lt_of_lt_of_le hb.out (zAb (by omega))) (Int.lt_of_lt_of_le hc.out (zAb (by omega)))
 ·exact aN hp (mq 0 rfl)
 ·exact sN 1 hp (mq 0 rfl)
 intro L vs w3 nb hL hC hn E3
 have e2 : vs 2 = .pointer (some ⟨nb 2, 0, none⟩) := hn _ (mq 0 rfl)
 have E := E3; try simp only [LM, zAd] at E
 rw [zAe hL]
 simp only [SP, Nat.zero_add, Nat.reduceAdd]
 rw [e2]
 generalize nb 2 = b3_2 at E ⊢
 generalize vs 0 = u3_0
 generalize vs 1 = u3_1
 clear e2 hC hn E3 hL vs L nb
 go_upto_region 4 with (fail)
 refine rg [Fq.num (b * b - 4 * (a * c)), yF, yF] N2 [] E (fun hp => ⟨?_, ?_, ?_, tv⟩) ?_
 ·exact lI 0 hp (mq 0 rfl) (sqo 3) fun us w hl h => zAp hl h
 ·exact wXa (Fq.num (b * b - 4 * (a * c))) hp zE4 (sqi 0) fun v w h => zE7 h HDB.out HQ.out
 ·exact zAh hp fo tv (sqi 1)
 intro L vs w4 nb hL hC hn E4
 have e1 := wXi hC 1
 have e2 := wXi hC 2
 have E := E4; try simp only [LM, zAd] at E
 rw [zAe hL]
 simp only [SP, Nat.zero_add, Nat.reduceAdd]
 rw [e1, e2]
 generalize vs 0 = u4_0
 clear e1 e2 hC hn E4 hL vs L nb
 go_upto_region 6 with (fail)
 refine rg [Fq.num (b * b - 4 * (a * c)), Fq.is (.int .i64 (cmpI (b * b - 4 * (a * c)) 0)), yF, yF, Fq.is (undef), Fq.is (undef), Fq.is (undef), Fq.is (undef), yF, yF] N2 [] E (fun hp => ⟨?_, ?_, ?_, ?_, ?_, ?_, ?_, ?_, ?_, ?_, tv⟩) ?_
 ·exact lI 0 hp (mq 0 rfl) (sqo 3) fun us w hl h => zAp hl h
 ·exact wXa (Fq.num (b * b - 4 * (a * c))) hp zCg (sqi 0) fun v w h => zCh h
 ·exact zAf (F := fun v _ => v = .int .i64 (cmpI (b * b - 4 * (a * c)) 0)) hp fo tv (sqi 1) (fun ρ w hc h => ⟨.bool false, by simp [execOp, go_sem, h, hc, T1.out], rfl⟩)
 ·exact zAa hp fo tv (sqi 2)
 ·exact zAi hp fo rfl gqi (fun _ => rfl)
 ·exact zAi hp fo rfl gqi (fun _ => rfl)
 ·exact zAi hp fo rfl gqi (fun _ => rfl)
 ·exact zAi hp fo rfl gqi (fun _ => rfl)
 ·exact zAg (F := fun v _ => v = .bool false) (G := fun v _ => v = .bool false) hp fo tv (sqi 3) (zAj (fun _ => rfl)) (fun ρ w hc h h' => ⟨_, by simp [execOp, go_sem, h, h'], rfl⟩)
 ·exact zAh hp fo tv (sqi 8)
 intro L vs w5 nb hL hC hn E5
 have e1 := wXi hC 1
 have e2 := wXi hC 2
 have e3 := wXi hC 3
 have e4 := wXi hC 4
 have e5 := wXi hC 5
 have e6 := wXi hC 6
 have e7 := wXi hC 7
 have e8 := wXi hC 8
 have e9 := wXi hC 9
 have E := E5; try simp only [LM, zAd] at E
 rw [zAe hL]
 simp only [SP, Nat.zero_add, Nat.reduceAdd]
 rw [e1, e2, e3, e4, e5, e6, e7, e8, e9]
 generalize vs 0 = u5_0
 clear e1 e2 e3 e4 e5 e6 e7 e8 e9 hC hn E5 hL vs L nb
 go_upto_region 8 with (fail)
 refine rg [Fq.is (.int .i64 0)] N2 [] E (fun hp => ⟨?_, tv⟩) ?_
 ·exact zAh hp fo tv (zAj (fun _ => rfl))
 intro L vs w6 nb hL hC hn E6
 have e0 := wXi hC 0
 have E := E6; try simp only [LM, zAd] at E
 rw [zAe hL]
 simp only [SP, Nat.zero_add, Nat.reduceAdd]
 rw [e0]
 clear e0 hC hn E6 hL vs L nb
 clear HQ T1
 clear ha hb hc HDB
 go_wp2
 refine bodyPost_ret (v := .int .i64 0) ?_ rfl ⟨_, rfl, E.below, rfl⟩
 simp [results, Tryz.results14, go_sem]

theorem zFp {w : World} {v : Value} {a b c : Int} (h : (Fq.st [.n a, .n b, .n c]).P v w) (ha : ab a < pw 15) (hb : ab b < pw 15) (hc : ab c < pw 15) {e0 : Int} (he : chkF a b c = e0) :
  Calls Tryz.prog 14 #[v] w fun e w' => ∃ v', e = .returned v' ∧ Below w.heap.size w w' ∧ v' = .int .i64 e0 := by
 subst he
 unfold chkF
 cases hq : sqB (b * b - 4 * (a * c)) with
 | true => rw [if_pos rfl]; exact zM8 h ha hb hc hq
 | false =>
  rw [if_neg (by decide)]
  by_cases hd : (b * b - 4 * (a * c)) < 0
  ·have hne := zKe hd
   by_cases hz : a < 0
   ·rw [if_pos ⟨hd, hz⟩]; exact zM7 h ha hb hc hq hd hz
   ·rw [if_neg fun x => hz x.2]; exact zM5 h ha hb hc hq hd (by omega)
  ·rw [if_neg fun x => hd x.1]; exact zM6 h ha hb hc hq hd

set_option maxRecDepth 100000 in
set_option maxHeartbeats 4000000 in
theorem exPValue0 {w : World} {v v' u : Value} {a b c x y : Int} (h : (Fq.st [.n a, .n b, .n c]).P v w) (h' : Num w v' x) (g : Num w u y) (ha : ab a < pw 60) (hb : ab b < pw 60) (hc : ab c < pw 60) (hx : ab x < pw 60) (hy : ab y < pw 60) :
  Calls Tryz.prog 24 #[v, v', u] w fun e w' => ∃ v', e = .returned v' ∧ Below w.heap.size w w' ∧ Num w' v' (((((a * x) + (b * y)) * x) + ((c * y) * y))) := by
 replace ha := hidd ha
 replace hb := hidd hb
 replace hc := hidd hc
 replace hx := hidd hx
 replace hy := hidd hy
 obtain ⟨_, rfl, hf0⟩ := h
 have hF0 := hf0
 obtain ⟨y0_p0, y0_q0, _, rfl, _y0_n0, y0_p1, y0_q1, _, rfl, _y0_n1, y0_p2, y0_q2, _, rfl, _y0_n2, rfl⟩ := hf0
 obtain ⟨n1, ao1, k1, c1, rfl⟩ := h'.parts
 obtain ⟨n2, ao2, k2, c2, rfl⟩ := g.parts
 obtain ⟨w1, b1, hw1, hb1, hs1, E⟩ := gS w 33 hF0
 obtain ⟨w2, b2, hw2, hb2, hs2, E⟩ := fN E hs1 31 h'
 obtain ⟨w3, b3, hw3, hb3, hs3, E⟩ := zDf E hs2 (F := Fq.num y) (us := [.bool n2, .slice ao2 k2 c2]) 31 rfl (by simp) (zB0 _ _ _ _) (g.mono E.below)
 obtain ⟨w4, b4, hw4, hb4, hs4, E⟩ := fZ E hs3 31
 go_enter Tryz.func24, Tryz.ntmps24
 go_upto_region 1 with (fail)
 rw [← hw1]
 rw [← hw2]
 rw [← hw3]
 rw [← hw4]
 rw [← hb4]
 rw [← hb3]
 rw [← hb2]
 rw [← hb1]
 clear hw1 hw2 hw3 hw4 hb1 hb2 hb3 hb4 hs4 hs1 hs2 hs3
 have B5 : Hid (ab ((a * x)) < pw 120) := zAt ha.out hx.out (by omega)
 have B6 : Hid (ab ((b * y)) < pw 120) := zAt hb.out hy.out (by omega)
 have B7 : Hid (ab (((a * x) + (b * y))) < pw 121) := zA5 B5.out B6.out (by omega) (by omega)
 refine rg [ip b1 0, Fq.num a, Fq.num x, Fq.num (a * x), ip b1 2, Fq.num b, Fq.num y, Fq.num (b * y), Fq.num ((a * x) + (b * y)), Fq.any, Fq.any] N4 [⟨9, 10, 2, Fq.num 0, Fq.num ((a * x) + (b * y)), none⟩] E (fun hp => ⟨?_, ?_, ?_, ?_, ?_, ?_, ?_, ?_, ?_, ?_, ?_, tv⟩) ?_
 ·exact qa b1 0 0 hp (sqo 3)
 ·exact lN 0 2 hp (mq 3 rfl) zAc (sqi 0)
 ·exact lI 0 hp (mq 2 rfl) (sqo 4) fun us w hl h => zAp hl h
 ·exact wXb (Fq.num a) (Fq.num x) hp zBj (sqi 1) (sqi 2) fun v v' w h h' => exK (MulV h h') B5.out (by omega)
 ·exact qa b1 0 2 hp (sqo 3)
 ·exact lN 2 2 hp (mq 3 rfl) zAc (sqi 4)
 ·exact lI 0 hp (mq 1 rfl) (sqo 5) fun us w hl h => zAp hl h
 ·exact wXb (Fq.num b) (Fq.num y) hp zBj (sqi 5) (sqi 6) fun v v' w h h' => exK (MulV h h') B6.out (by omega)
 ·exact wXb (Fq.num (a * x)) (Fq.num (b * y)) hp zDq (sqi 3) (sqi 7) fun v v' w h h' => exK (AddV h h') B7.out (by omega)
 ·exact aN hp (mq 0 rfl)
 ·exact sN 8 hp (mq 0 rfl)
 intro L vs w8 nb hL hC hn E8
 have e0 := wXi hC 0
 have e4 := wXi hC 4
 have e9 : vs 9 = .pointer (some ⟨nb 9, 0, none⟩) := hn _ (mq 0 rfl)
 have E := E8; try simp only [LM, zAd] at E
 rw [zAe hL]
 simp only [SP, Nat.zero_add, Nat.reduceAdd]
 rw [e0, e4, e9]
 generalize nb 9 = b8_9 at E ⊢
 generalize vs 1 = u8_1
 generalize vs 2 = u8_2
 generalize vs 3 = u8_3
 generalize vs 5 = u8_5
 generalize vs 6 = u8_6
 generalize vs 7 = u8_7
 generalize vs 8 = u8_8
 clear e0 e4 e9 hC hn E8 hL vs L nb
 go_upto_region 2 with (fail)
 have B9 : Hid (ab ((((a * x) + (b * y)) * x)) < pw 181) := zAt B7.out hx.out (by omega)
 have B10 : Hid (ab ((c * y)) < pw 120) := zAt hc.out hy.out (by omega)
 have B11 : Hid (ab (((c * y) * y)) < pw 180) := zAt B10.out hy.out (by omega)
 have B12 : Hid (ab (((((a * x) + (b * y)) * x) + ((c * y) * y))) < pw 182) := zA5 B9.out B11.out (by omega) (by omega)
 refine rg [Fq.num ((a * x) + (b * y)), Fq.num x, Fq.num (((a * x) + (b * y)) * x), ip b1 4, Fq.num c, Fq.num y, Fq.num (c * y), Fq.num y, Fq.num ((c * y) * y), Fq.num ((((a * x) + (b * y)) * x) + ((c * y) * y)), Fq.any] [none, some (10, Fq.num ((((a * x) + (b * y)) * x) + ((c * y) * y))), none, none, none] [] E (fun hp => ⟨?_, ?_, ?_, ?_, ?_, ?_, ?_, ?_, ?_, ?_, ?_, tv⟩) ?_
 ·exact lI 0 hp (mq 0 rfl) (sqo 7) fun us w hl h => zAp hl h
 ·exact lI 0 hp (mq 3 rfl) (sqo 4) fun us w hl h => zAp hl h
 ·exact wXb (Fq.num ((a * x) + (b * y))) (Fq.num x) hp zBj (sqi 0) (sqi 1) fun v v' w h h' => exK (MulV h h') B9.out (by omega)
 ·exact qa b1 0 4 hp (sqo 3)
 ·exact lN 4 2 hp (mq 4 rfl) zAc (sqi 3)
 ·exact lI 0 hp (mq 2 rfl) (sqo 5) fun us w hl h => zAp hl h
 ·exact wXb (Fq.num c) (Fq.num y) hp zBj (sqi 4) (sqi 5) fun v v' w h h' => exK (MulV h h') B10.out (by omega)
 ·exact lI 0 hp (mq 2 rfl) (sqo 5) fun us w hl h => zAp hl h
 ·exact wXb (Fq.num (c * y)) (Fq.num y) hp zBj (sqi 6) (sqi 7) fun v v' w h h' => exK (MulV h h') B11.out (by omega)
 ·exact wXb (Fq.num (((a * x) + (b * y)) * x)) (Fq.num ((c * y) * y)) hp zDq (sqi 2) (sqi 8) fun v v' w h h' => exK (AddV h h') B12.out (by omega)
 ·exact sP 9 hp (mq 1 rfl) (sqo 6)
 intro L vs w13 nb hL hC hn E13
 have e3 := wXi hC 3
 have E := E13; try simp only [LM, zAd] at E
 rw [zAe hL]
 simp only [SP, Nat.zero_add, Nat.reduceAdd]
 rw [e3]
 generalize vs 0 = u13_0
 generalize vs 1 = u13_1
 generalize vs 2 = u13_2
 generalize vs 4 = u13_4
 generalize vs 5 = u13_5
 generalize vs 6 = u13_6
 generalize vs 7 = u13_7
 generalize vs 8 = u13_8
 generalize vs 9 = u13_9
 clear e3 hC hn E13 hL vs L nb
 obtain ⟨p0_0, p0_1, c0_0, c0_1, hP0⟩ := zD0 (E.box 1 rfl)
 clear B5 B6 B7 B9 B10 B11 B12 ha hb hc hx hy
 go_wp2
 refine bodyPost_ret (v := .agg #[p0_0, p0_1]) ?_ rfl ⟨_, rfl, E.below, hP0⟩
 simp [results, Tryz.results24, go_sem, c0_0, c0_1]

theorem qv_eqP (a b c x y : Int) : qv a b c x y = ((((a * x) + (b * y)) * x) + ((c * y) * y)) := by
 unfold qv
 rw [Int.add_mul, Int.mul_assoc, Int.mul_assoc, Int.mul_assoc, Int.mul_comm y x]
theorem zGw {w : World} {v v' u : Value} {a b c x y : Int} (h : (Fq.st [.n a, .n b, .n c]).P v w) (h' : Num w v' x) (g : Num w u y) (ha : ab a < pw 60) (hb : ab b < pw 60) (hc : ab c < pw 60) (hx : ab x < pw 60) (hy : ab y < pw 60) :
  Calls Tryz.prog 24 #[v, v', u] w fun e w' => ∃ v', e = .returned v' ∧ Below w.heap.size w w' ∧ Num w' v' (qv a b c x y) := by
 rw [qv_eqP]
 exact exPValue0 h h' g ha hb hc hx hy

set_option maxRecDepth 100000 in
set_option maxHeartbeats 4000000 in
theorem exPTwice0 {w : World} {v : Value} {z : Int} (h : Num w v z) (hz : ab z < pw 600) :
  Calls Tryz.prog 70 #[v] w fun e w' => ∃ v', e = .returned v' ∧ Below w.heap.size w w' ∧ Num w' v' ((z + z)) := by
 replace hz := hidd hz
 obtain ⟨n0, ao0, k0, c0, rfl⟩ := h.parts
 obtain ⟨w1, b1, hw1, hb1, hs1, E⟩ := zCu w (F := Fq.num z) (us := [.bool n0, .slice ao0 k0 c0]) 31 rfl (by simp) (zB0 _ _ _ _) h
 obtain ⟨w2, b2, hw2, hb2, hs2, E⟩ := fZ E hs1 31
 go_enter Tryz.func70, Tryz.ntmps70
 go_upto_region 1 with (fail)
 rw [← hw1]
 rw [← hw2]
 rw [← hb2]
 rw [← hb1]
 clear hw1 hw2 hb1 hb2 hs2 hs1
 have B3 : Hid (ab ((z + z)) < pw 601) := zA5 hz.out hz.out (by omega) (by omega)
 refine rg [Fq.num z, Fq.num z, Fq.num (z + z), Fq.any] [some (3, Fq.num (z + z)), none] [] E (fun hp => ⟨?_, ?_, ?_, ?_, tv⟩) ?_
 ·exact lI 0 hp (mq 1 rfl) (sqo 1) fun us w hl h => zAp hl h
 ·exact lI 0 hp (mq 1 rfl) (sqo 1) fun us w hl h => zAp hl h
 ·exact wXb (Fq.num z) (Fq.num z) hp zDq (sqi 0) (sqi 1) fun v v' w h h' => exK (AddV h h') B3.out (by omega)
 ·exact sP 2 hp (mq 0 rfl) (sqo 2)
 intro L vs w4 nb hL hC hn E4
 have E := E4; try simp only [LM, zAd] at E
 rw [zAe hL]
 simp only [SP, Nat.zero_add, Nat.reduceAdd]
 generalize vs 0 = u4_0
 generalize vs 1 = u4_1
 generalize vs 2 = u4_2
 clear  hC hn E4 hL vs L nb
 obtain ⟨p0_0, p0_1, c0_0, c0_1, hP0⟩ := zD0 (E.box 0 rfl)
 clear B3 hz
 go_wp2
 refine bodyPost_ret (v := .agg #[p0_0, p0_1]) ?_ rfl ⟨_, rfl, E.below, hP0⟩
 simp [results, Tryz.results70, go_sem, c0_0, c0_1]

theorem zId {w : World} {v : Value} {z : Int} (h : Num w v z) (hz : ab z < pw 600) : Calls Tryz.prog 70 #[v] w fun e w' => ∃ v', e = .returned v' ∧ Below w.heap.size w w' ∧ Num w' v' (2 * z) := by
 have e : 2 * z = (z + z) := by omega
 rw [e]
 exact exPTwice0 h hz

set_option maxRecDepth 100000 in
set_option maxHeartbeats 4000000 in
theorem exPApply0 {w : World} {v v' : Value} {a b c x1 x2 x3 x4 : Int} (h : (Fq.st [.n a, .n b, .n c]).P v w) (h' : (Fq.st [.n x1, .n x2, .n x3, .n x4]).P v' w) (ha : ab a < pw 60) (hb : ab b < pw 60) (hc : ab c < pw 60) (hx1 : ab x1 < pw 60) (hx2 : ab x2 < pw 60) (hx3 : ab x3 < pw 60) (hx4 : ab x4 < pw 60) :
  Calls Tryz.prog 26 #[v, v'] w fun e w' => ∃ v', e = .returned v' ∧ Below w.heap.size w w' ∧ (Fq.st [.n (qv a b c x1 x3), .n (((((2 * (a * x1)) + (b * x3)) * x2) + (((b * x1) + (2 * (c * x3))) * x4))), .n (qv a b c x2 x4)]).P v' w' := by
 replace ha := hidd ha
 replace hb := hidd hb
 replace hc := hidd hc
 replace hx1 := hidd hx1
 replace hx2 := hidd hx2
 replace hx3 := hidd hx3
 replace hx4 := hidd hx4
 obtain ⟨_, rfl, hf0⟩ := h
 have hF0 := hf0
 obtain ⟨y0_p0, y0_q0, _, rfl, _y0_n0, y0_p1, y0_q1, _, rfl, _y0_n1, y0_p2, y0_q2, _, rfl, _y0_n2, rfl⟩ := hf0
 obtain ⟨_, rfl, hf1⟩ := h'
 have hF1 := hf1
 obtain ⟨y1_p0, y1_q0, _, rfl, _y1_n0, y1_p1, y1_q1, _, rfl, _y1_n1, y1_p2, y1_q2, _, rfl, _y1_n2, y1_p3, y1_q3, _, rfl, _y1_n3, rfl⟩ := hf1
 obtain ⟨w1, b1, hw1, hb1, hs1, E⟩ := gS w 33 hF0
 obtain ⟨w2, b2, hw2, hb2, hs2, E⟩ := fS E hs1 36 hF1
 obtain ⟨w3, b3, hw3, hb3, hs3, E⟩ := fO E hs2 33 zBb
 go_enter Tryz.func26, Tryz.ntmps26
 go_upto_region 1 with (fail)
 rw [← hw1]
 rw [← hw2]
 rw [← hw3]
 rw [← hb3]
 rw [← hb2]
 rw [← hb1]
 clear hw1 hw2 hw3 hb1 hb2 hb3 hs3 hs1 hs2
 have B4 : Hid (ab ((a * x1)) < pw 120) := zAt ha.out hx1.out (by omega)
 have B5 : Hid (ab ((2 * (a * x1))) < pw 123) := Int.lt_of_lt_of_le (zBi (zAs (x := 2) (by decide) (by decide)) B4.out) (zAb (by omega))
 have B6 : Hid (ab ((b * x3)) < pw 120) := zAt hb.out hx3.out (by omega)
 have B7 : Hid (ab (((2 * (a * x1)) + (b * x3))) < pw 124) := zA5 B5.out B6.out (by omega) (by omega)
 refine rg [ip b1 0, Fq.num a, ip b2 0, Fq.num x1, Fq.num (a * x1), Fq.num (2 * (a * x1)), ip b1 2, Fq.num b, ip b2 4, Fq.num x3, Fq.num (b * x3), Fq.num ((2 * (a * x1)) + (b * x3)), Fq.any, Fq.any] N3 [⟨12, 13, 2, Fq.num 0, Fq.num ((2 * (a * x1)) + (b * x3)), none⟩] E (fun hp => ⟨?_, ?_, ?_, ?_, ?_, ?_, ?_, ?_, ?_, ?_, ?_, ?_, ?_, ?_, tv⟩) ?_
 ·exact qa b1 0 0 hp (sqo 2)
 ·exact lN 0 2 hp (mq 2 rfl) zAc (sqi 0)
 ·exact qa b2 0 0 hp (sqo 3)
 ·exact lN 0 2 hp (mq 1 rfl) zAc (sqi 2)
 ·exact wXb (Fq.num a) (Fq.num x1) hp zBj (sqi 1) (sqi 3) fun v v' w h h' => exK (MulV h h') B4.out (by omega)
 ·exact wXa (Fq.num (a * x1)) hp zH7 (sqi 4) fun v w h => zId h (Int.lt_of_lt_of_le B4.out (zAb (by omega)))
 ·exact qa b1 0 2 hp (sqo 2)
 ·exact lN 2 2 hp (mq 2 rfl) zAc (sqi 6)
 ·exact qa b2 0 4 hp (sqo 3)
 ·exact lN 4 2 hp (mq 1 rfl) zAc (sqi 8)
 ·exact wXb (Fq.num b) (Fq.num x3) hp zBj (sqi 7) (sqi 9) fun v v' w h h' => exK (MulV h h') B6.out (by omega)
 ·exact wXb (Fq.num (2 * (a * x1))) (Fq.num (b * x3)) hp zDq (sqi 5) (sqi 10) fun v v' w h h' => exK (AddV h h') B7.out (by omega)
 ·exact aN hp (mq 0 rfl)
 ·exact sN 11 hp (mq 0 rfl)
 intro L vs w8 nb hL hC hn E8
 have e0 := wXi hC 0
 have e2 := wXi hC 2
 have e6 := wXi hC 6
 have e8 := wXi hC 8
 have e12 : vs 12 = .pointer (some ⟨nb 12, 0, none⟩) := hn _ (mq 0 rfl)
 have E := E8; try simp only [LM, zAd] at E
 rw [zAe hL]
 simp only [SP, Nat.zero_add, Nat.reduceAdd]
 rw [e0, e2, e6, e8, e12]
 generalize nb 12 = b8_12 at E ⊢
 generalize vs 1 = u8_1
 generalize vs 3 = u8_3
 generalize vs 4 = u8_4
 generalize vs 5 = u8_5
 generalize vs 7 = u8_7
 generalize vs 9 = u8_9
 generalize vs 10 = u8_10
 generalize vs 11 = u8_11
 clear e0 e2 e6 e8 e12 hC hn E8 hL vs L nb
 go_upto_region 2 with (fail)
 have B9 : Hid (ab ((b * x1)) < pw 120) := zAt hb.out hx1.out (by omega)
 have B10 : Hid (ab ((c * x3)) < pw 120) := zAt hc.out hx3.out (by omega)
 have B11 : Hid (ab ((2 * (c * x3))) < pw 123) := Int.lt_of_lt_of_le (zBi (zAs (x := 2) (by decide) (by decide)) B10.out) (zAb (by omega))
 have B12 : Hid (ab (((b * x1) + (2 * (c * x3)))) < pw 124) := zA5 B9.out B11.out (by omega) (by omega)
 refine rg [ip b1 2, Fq.num b, ip b2 0, Fq.num x1, Fq.num (b * x1), ip b1 4, Fq.num c, ip b2 4, Fq.num x3, Fq.num (c * x3), Fq.num (2 * (c * x3)), Fq.num ((b * x1) + (2 * (c * x3))), Fq.any, Fq.any] N4 [⟨12, 13, 2, Fq.num 0, Fq.num ((b * x1) + (2 * (c * x3))), none⟩] E (fun hp => ⟨?_, ?_, ?_, ?_, ?_, ?_, ?_, ?_, ?_, ?_, ?_, ?_, ?_, ?_, tv⟩) ?_
 ·exact qa b1 0 2 hp (sqo 2)
 ·exact lN 2 2 hp (mq 3 rfl) zAc (sqi 0)
 ·exact qa b2 0 0 hp (sqo 3)
 ·exact lN 0 2 hp (mq 2 rfl) zAc (sqi 2)
 ·exact wXb (Fq.num b) (Fq.num x1) hp zBj (sqi 1) (sqi 3) fun v v' w h h' => exK (MulV h h') B9.out (by omega)
 ·exact qa b1 0 4 hp (sqo 2)
 ·exact lN 4 2 hp (mq 3 rfl) zAc (sqi 5)
 ·exact qa b2 0 4 hp (sqo 3)
 ·exact lN 4 2 hp (mq 2 rfl) zAc (sqi 7)
 ·exact wXb (Fq.num c) (Fq.num x3) hp zBj (sqi 6) (sqi 8) fun v v' w h h' => exK (MulV h h') B10.out (by omega)
 ·exact wXa (Fq.num (c * x3)) hp zH7 (sqi 9) fun v w h => zId h (Int.lt_of_lt_of_le B10.out (zAb (by omega)))
 ·exact wXb (Fq.num (b * x1)) (Fq.num (2 * (c * x3))) hp zDq (sqi 4) (sqi 10) fun v v' w h h' => exK (AddV h h') B12.out (by omega)
 ·exact aN hp (mq 0 rfl)
 ·exact sN 11 hp (mq 0 rfl)
 intro L vs w13 nb hL hC hn E13
 have e0 := wXi hC 0
 have e2 := wXi hC 2
 have e5 := wXi hC 5
 have e7 := wXi hC 7
 have e12 : vs 12 = .pointer (some ⟨nb 12, 0, none⟩) := hn _ (mq 0 rfl)
 have E := E13; try simp only [LM, zAd] at E
 rw [zAe hL]
 simp only [SP, Nat.zero_add, Nat.reduceAdd]
 rw [e0, e2, e5, e7, e12]
 generalize nb 12 = b13_12 at E ⊢
 generalize vs 1 = u13_1
 generalize vs 3 = u13_3
 generalize vs 4 = u13_4
 generalize vs 6 = u13_6
 generalize vs 8 = u13_8
 generalize vs 9 = u13_9
 generalize vs 10 = u13_10
 generalize vs 11 = u13_11
 clear e0 e2 e5 e7 e12 hC hn E13 hL vs L nb
 go_upto_region 3 with (fail)
 have B14 : Hid (ab ((((2 * (a * x1)) + (b * x3)) * x2)) < pw 184) := zAt B7.out hx2.out (by omega)
 have B15 : Hid (ab ((((b * x1) + (2 * (c * x3))) * x4)) < pw 184) := zAt B12.out hx4.out (by omega)
 have B16 : Hid (ab (((((2 * (a * x1)) + (b * x3)) * x2) + (((b * x1) + (2 * (c * x3))) * x4))) < pw 185) := zA5 B14.out B15.out (by omega) (by omega)
 refine rg [Fq.st [.n a, .n b, .n c], ip b2 0, Fq.num x1, ip b2 4, Fq.num x3, Fq.num (qv a b c x1 x3), Fq.num ((2 * (a * x1)) + (b * x3)), ip b2 2, Fq.num x2, Fq.num (((2 * (a * x1)) + (b * x3)) * x2), Fq.num ((b * x1) + (2 * (c * x3))), ip b2 6, Fq.num x4, Fq.num (((b * x1) + (2 * (c * x3))) * x4), Fq.num ((((2 * (a * x1)) + (b * x3)) * x2) + (((b * x1) + (2 * (c * x3))) * x4)), Fq.st [.n a, .n b, .n c], ip b2 2, Fq.num x2, ip b2 6, Fq.num x4, Fq.num (qv a b c x2 x4), Fq.st [.n (qv a b c x1 x3), .n ((((2 * (a * x1)) + (b * x3)) * x2) + (((b * x1) + (2 * (c * x3))) * x4)), .n (qv a b c x2 x4)], Fq.any] [none, none, some (22, Fq.st [.n (qv a b c x1 x3), .n ((((2 * (a * x1)) + (b * x3)) * x2) + (((b * x1) + (2 * (c * x3))) * x4)), .n (qv a b c x2 x4)]), none, none] [] E (fun hp => ⟨?_, ?_, ?_, ?_, ?_, ?_, ?_, ?_, ?_, ?_, ?_, ?_, ?_, ?_, ?_, ?_, ?_, ?_, ?_, ?_, ?_, ?_, ?_, tv⟩) ?_
 ·exact lS 0 6 hp (mq 4 rfl) zAm (sqo 2)
 ·exact qa b2 0 0 hp (sqo 3)
 ·exact lN 0 2 hp (mq 3 rfl) zAc (sqi 1)
 ·exact qa b2 0 4 hp (sqo 3)
 ·exact lN 4 2 hp (mq 3 rfl) zAc (sqi 3)
 ·exact zCb (F := (Fq.st [.n a, .n b, .n c]).P) (G := (Fq.num x1).P) (F3 := (Fq.num x3).P) hp fo tv (zGt) (sqi 0) (sqi 2) (sqi 4) (fun v v' u w h h' g => zGw h h' g ha.out hb.out hc.out hx1.out hx3.out)
 ·exact lI 0 hp (mq 1 rfl) (sqo 5) fun us w hl h => zAp hl h
 ·exact qa b2 0 2 hp (sqo 3)
 ·exact lN 2 2 hp (mq 3 rfl) zAc (sqi 7)
 ·exact wXb (Fq.num ((2 * (a * x1)) + (b * x3))) (Fq.num x2) hp zBj (sqi 6) (sqi 8) fun v v' w h h' => exK (MulV h h') B14.out (by omega)
 ·exact lI 0 hp (mq 0 rfl) (sqo 6) fun us w hl h => zAp hl h
 ·exact qa b2 0 6 hp (sqo 3)
 ·exact lN 6 2 hp (mq 3 rfl) zAc (sqi 11)
 ·exact wXb (Fq.num ((b * x1) + (2 * (c * x3)))) (Fq.num x4) hp zBj (sqi 10) (sqi 12) fun v v' w h h' => exK (MulV h h') B15.out (by omega)
 ·exact wXb (Fq.num (((2 * (a * x1)) + (b * x3)) * x2)) (Fq.num (((b * x1) + (2 * (c * x3))) * x4)) hp zDq (sqi 9) (sqi 13) fun v v' w h h' => exK (AddV h h') B16.out (by omega)
 ·exact lS 0 6 hp (mq 4 rfl) zAm (sqo 2)
 ·exact qa b2 0 2 hp (sqo 3)
 ·exact lN 2 2 hp (mq 3 rfl) zAc (sqi 16)
 ·exact qa b2 0 6 hp (sqo 3)
 ·exact lN 6 2 hp (mq 3 rfl) zAc (sqi 18)
 ·exact zCb (F := (Fq.st [.n a, .n b, .n c]).P) (G := (Fq.num x2).P) (F3 := (Fq.num x4).P) hp fo tv (zGt) (sqi 15) (sqi 17) (sqi 19) (fun v v' u w h h' g => zGw h h' g ha.out hb.out hc.out hx2.out hx4.out)
 ·exact zF2 (z0 := (qv a b c x1 x3)) (z1 := ((((2 * (a * x1)) + (b * x3)) * x2) + (((b * x1) + (2 * (c * x3))) * x4))) (z2 := (qv a b c x2 x4)) hp fo tv (sqi 5) (sqi 14) (sqi 20) (fun v w h => h)
 ·exact sO 0 21 hp (mq 2 rfl) zA7 (sqo 4)
 intro L vs w17 nb hL hC hn E17
 have e1 := wXi hC 1
 have e3 := wXi hC 3
 have e7 := wXi hC 7
 have e11 := wXi hC 11
 have e16 := wXi hC 16
 have e18 := wXi hC 18
 have E := E17; try simp only [LM, zAd] at E
 rw [zAe hL]
 simp only [SP, Nat.zero_add, Nat.reduceAdd]
 rw [e1, e3, e7, e11, e16, e18]
 generalize vs 0 = u17_0
 generalize vs 2 = u17_2
 generalize vs 4 = u17_4
 generalize vs 5 = u17_5
 generalize vs 6 = u17_6
 generalize vs 8 = u17_8
 generalize vs 9 = u17_9
 generalize vs 10 = u17_10
 generalize vs 12 = u17_12
 generalize vs 13 = u17_13
 generalize vs 14 = u17_14
 generalize vs 15 = u17_15
 generalize vs 17 = u17_17
 generalize vs 19 = u17_19
 generalize vs 20 = u17_20
 generalize vs 21 = u17_21
 clear e1 e3 e7 e11 e16 e18 hC hn E17 hL vs L nb
 obtain ⟨_, _, hc0, hf0⟩ := zBm (E.box 2 rfl)
 have hP0 := hf0
 obtain ⟨r0_p0, r0_q0, _, rfl, _r0_n0, r0_p1, r0_q1, _, rfl, _r0_n1, r0_p2, r0_q2, _, rfl, _r0_n2, rfl⟩ := hf0
 have c0_0 := hc0 0 (by simp)
 have c0_1 := hc0 1 (by simp)
 have c0_2 := hc0 2 (by simp)
 have c0_3 := hc0 3 (by simp)
 have c0_4 := hc0 4 (by simp)
 have c0_5 := hc0 5 (by simp)
 simp only [List.getD_cons_zero, List.getD_cons_succ] at c0_0 c0_1 c0_2 c0_3 c0_4 c0_5
 clear hc0
 clear B4 B5 B6 B7 B9 B10 B11 B12 B14 B15 B16 ha hb hc hx1 hx2 hx3 hx4
 go_wp2
 refine bodyPost_ret (v := .agg #[r0_p0, r0_q0, r0_p1, r0_q1, r0_p2, r0_q2]) ?_ rfl ⟨_, rfl, E.below, ⟨_, rfl, hP0⟩⟩
 simp [results, Tryz.results26, go_sem, c0_0, c0_1, c0_2, c0_3, c0_4, c0_5]

theorem qm_eqP (a b c x1 x2 x3 x4 : Int) : qm a b c x1 x2 x3 x4 = ((((2 * (a * x1)) + (b * x3)) * x2) + (((b * x1) + (2 * (c * x3))) * x4)) := by
 have h := PE.same [a, b, c, x1, x2, x3, x4] (.a (.m (.c 2) (.a (.m (.v 0) (.m (.v 3) (.v 4))) (.m (.v 2) (.m (.v 5) (.v 6))))) (.m (.v 1) (.a (.m (.v 3) (.v 6)) (.m (.v 4) (.v 5))))) (.a (.m (.a (.m (.c 2) (.m (.v 0) (.v 3))) (.m (.v 1) (.v 5))) (.v 4)) (.m (.a (.m (.v 1) (.v 3)) (.m (.c 2) (.m (.v 2) (.v 5)))) (.v 6))) (by decide +kernel)
 simp only [PE.den, List.getD_cons_zero, List.getD_cons_succ] at h
 exact h
theorem zJ8 {w : World} {v v' : Value} {a b c x1 x2 x3 x4 : Int} (h : (Fq.st [.n a, .n b, .n c]).P v w) (h' : (Fq.st [.n x1, .n x2, .n x3, .n x4]).P v' w) (ha : ab a < pw 60) (hb : ab b < pw 60) (hc : ab c < pw 60) (hx1 : ab x1 < pw 60) (hx2 : ab x2 < pw 60) (hx3 : ab x3 < pw 60) (hx4 : ab x4 < pw 60) :
  Calls Tryz.prog 26 #[v, v'] w fun e w' => ∃ v', e = .returned v' ∧ Below w.heap.size w w' ∧ (Fq.st [.n (qv a b c x1 x3), .n (qm a b c x1 x2 x3 x4), .n (qv a b c x2 x4)]).P v' w' := by
 rw [qm_eqP]
 exact exPApply0 h h' ha hb hc hx1 hx2 hx3 hx4

set_option maxRecDepth 100000 in
set_option maxHeartbeats 4000000 in
theorem zM9 {w : World} {v : Value} {x1 x2 x3 x4 : Int} (h : (Fq.st [.n x1, .n x2, .n x3, .n x4]).P v w) (hx1 : ab x1 < pw 60) (hx2 : ab x2 < pw 60) (hx3 : ab x3 < pw 60) (hx4 : ab x4 < pw 60) :
  Calls Tryz.prog 77 #[v] w fun e w' => ∃ v', e = .returned v' ∧ Below w.heap.size w w' ∧ (Fq.st [.n x4, .n (-x2), .n (-x3), .n x1]).P v' w' := by
 replace hx1 := hidd hx1
 replace hx2 := hidd hx2
 replace hx3 := hidd hx3
 replace hx4 := hidd hx4
 obtain ⟨_, rfl, hf0⟩ := h
 have hF0 := hf0
 obtain ⟨y0_p0, y0_q0, _, rfl, _y0_n0, y0_p1, y0_q1, _, rfl, _y0_n1, y0_p2, y0_q2, _, rfl, _y0_n2, y0_p3, y0_q3, _, rfl, _y0_n3, rfl⟩ := hf0
 obtain ⟨w1, b1, hw1, hb1, hs1, E⟩ := gS w 36 hF0
 obtain ⟨w2, b2, hw2, hb2, hs2, E⟩ := fO E hs1 36 zB5
 go_enter Tryz.func77, Tryz.ntmps77
 go_upto_region 1 with (fail)
 rw [← hw1]
 rw [← hw2]
 rw [← hb2]
 rw [← hb1]
 clear hw1 hw2 hb1 hb2 hs2 hs1
 have B3 : Hid (ab ((-x2)) < pw 60) := zDo hx2.out
 have B4 : Hid (ab ((-x3)) < pw 60) := zDo hx3.out
 refine rg [ip b1 6, Fq.num x4, ip b1 2, Fq.num x2, Fq.num (-x2), ip b1 4, Fq.num x3, Fq.num (-x3), ip b1 0, Fq.num x1, Fq.st [.n x4, .n (-x2), .n (-x3), .n x1], Fq.any] [some (11, Fq.st [.n x4, .n (-x2), .n (-x3), .n x1]), none] [] E (fun hp => ⟨?_, ?_, ?_, ?_, ?_, ?_, ?_, ?_, ?_, ?_, ?_, ?_, tv⟩) ?_
 ·exact qa b1 0 6 hp (sqo 1)
 ·exact lN 6 2 hp (mq 1 rfl) zAc (sqi 0)
 ·exact qa b1 0 2 hp (sqo 1)
 ·exact lN 2 2 hp (mq 1 rfl) zAc (sqi 2)
 ·exact wXa (Fq.num x2) hp zGp (sqi 3) fun v w h => exK (NegV h) B3.out (by omega)
 ·exact qa b1 0 4 hp (sqo 1)
 ·exact lN 4 2 hp (mq 1 rfl) zAc (sqi 5)
 ·exact wXa (Fq.num x3) hp zGp (sqi 6) fun v w h => exK (NegV h) B4.out (by omega)
 ·exact qa b1 0 0 hp (sqo 1)
 ·exact lN 0 2 hp (mq 1 rfl) zAc (sqi 8)
 ·exact zHc (z0 := x4) (z1 := (-x2)) (z2 := (-x3)) (z3 := x1) hp fo tv (sqi 1) (sqi 4) (sqi 7) (sqi 9) (fun v w h => h)
 ·exact sO 0 10 hp (mq 0 rfl) zBz (sqo 2)
 intro L vs w5 nb hL hC hn E5
 have e0 := wXi hC 0
 have e2 := wXi hC 2
 have e5 := wXi hC 5
 have e8 := wXi hC 8
 have E := E5; try simp only [LM, zAd] at E
 rw [zAe hL]
 simp only [SP, Nat.zero_add, Nat.reduceAdd]
 rw [e0, e2, e5, e8]
 generalize vs 1 = u5_1
 generalize vs 3 = u5_3
 generalize vs 4 = u5_4
 generalize vs 6 = u5_6
 generalize vs 7 = u5_7
 generalize vs 9 = u5_9
 generalize vs 10 = u5_10
 clear e0 e2 e5 e8 hC hn E5 hL vs L nb
 obtain ⟨_, _, hc0, hf0⟩ := zBm (E.box 0 rfl)
 have hP0 := hf0
 obtain ⟨r0_p0, r0_q0, _, rfl, _r0_n0, r0_p1, r0_q1, _, rfl, _r0_n1, r0_p2, r0_q2, _, rfl, _r0_n2, r0_p3, r0_q3, _, rfl, _r0_n3, rfl⟩ := hf0
 have c0_0 := hc0 0 (by simp)
 have c0_1 := hc0 1 (by simp)
 have c0_2 := hc0 2 (by simp)
 have c0_3 := hc0 3 (by simp)
 have c0_4 := hc0 4 (by simp)
 have c0_5 := hc0 5 (by simp)
 have c0_6 := hc0 6 (by simp)
 have c0_7 := hc0 7 (by simp)
 simp only [List.getD_cons_zero, List.getD_cons_succ] at c0_0 c0_1 c0_2 c0_3 c0_4 c0_5 c0_6 c0_7
 clear hc0
 clear B3 B4 hx1 hx2 hx3 hx4
 go_wp2
 refine bodyPost_ret (v := .agg #[r0_p0, r0_q0, r0_p1, r0_q1, r0_p2, r0_q2, r0_p3, r0_q3]) ?_ rfl ⟨_, rfl, E.below, ⟨_, rfl, hP0⟩⟩
 simp [results, Tryz.results77, go_sem, c0_0, c0_1, c0_2, c0_3, c0_4, c0_5, c0_6, c0_7]

set_option maxRecDepth 100000 in
set_option maxHeartbeats 4000000 in
theorem zNo {w : World} {v : Value} {d : Int} (h : Num w v d) (hd : ab d < pw 40) (hr : ¬ 1 < d % 4) (hq : sqB d = true) :
  Calls Tryz.prog 10 #[v] w fun e w' => ∃ v', e = .returned v' ∧ Below w.heap.size w w' ∧ (Fq.tup2 (Fq.st [.n 0, .n 0, .n 0]) (Fq.is (.int .i64 5))).P v' w' := by
 replace hd := hidd hd
 have HR4 : Hid (0 ≤ d % 4 ∧ d % 4 < 4) := by show _ ∧ _; omega
 have BR : Hid (ab (d % 4) < pw 3) := zAs (by omega) (by omega)
 have H4 : Hid ((4 : Int) ≠ 0) := by show _ ≠ _; decide
 have T1 : Hid (¬ 0 < cmpI (d % 4) 1) := fun e => hr (cmpIqgt.1 e)
 clear hr
 have HQ := hidd hq
 clear hq
 obtain ⟨n0, ao0, k0, c0, rfl⟩ := h.parts
 obtain ⟨w1, b1, hw1, hb1, hs1, E⟩ := zCu w (F := Fq.num d) (us := [.bool n0, .slice ao0 k0 c0]) 31 rfl (by simp) (zB0 _ _ _ _) h
 obtain ⟨w2, b2, hw2, hb2, hs2, E⟩ := fO E hs1 33 zBb
 go_enter Tryz.func10, Tryz.ntmps10
 go_upto_region 1 with (fail)
 rw [← hw1]
 rw [← hw2]
 rw [← hb2]
 rw [← hb1]
 clear hw1 hw2 hb1 hb2 hs2 hs1
 have B3 : Hid (ab ((4)) < pw 3) := zBh (by decide)
 have B4 : Hid (ab ((d / 4)) < pw 41) := zEv hd.out (by omega)
 refine rg [Fq.num d, Fq.num (4), Fq.tup3 (Fq.num (d / 4)) (Fq.num (d % 4)) (Fq.is (.int .i64 0)), Fq.tup3 (Fq.num (d / 4)) (Fq.num (d % 4)) (Fq.is (.int .i64 0)), Fq.num (d / 4), Fq.num (d % 4), Fq.is (.int .i64 0), Fq.any, Fq.any, Fq.any, Fq.any, Fq.is (.int .i64 0)] N2 [⟨7, 9, 2, Fq.num 0, Fq.num (d / 4), none⟩, ⟨8, 10, 2, Fq.num 0, Fq.num (d % 4), none⟩] E (fun hp => ⟨?_, ?_, ?_, ?_, ?_, ?_, ?_, ?_, ?_, ?_, ?_, ?_, tv⟩) ?_
 ·exact lI 0 hp (mq 1 rfl) (sqo 1) fun us w hl h => zAp hl h
 ·exact zAn (F := (Fq.is (.int .i64 4)).P) hp fo tv (zC1) (zAj (fun _ => rfl)) (fun v w h => (by subst h; exact OfK w (4) (by omega) (by omega)))
 ·exact wXb (Fq.num d) (Fq.num (4)) hp zHz (sqi 0) (sqi 1) fun v v' w h h' => exDMq h h' H4.out B4.out BR.out (by omega) (by omega)
 ·exact zAa hp fo tv (sqi 2)
 ·exact zA1 hp fo tv (sqi 3) (fun v1 v2 v3 w h1 h2 h3 => ⟨_, rfl, h1⟩)
 ·exact zA1 hp fo tv (sqi 3) (fun v1 v2 v3 w h1 h2 h3 => ⟨_, rfl, h2⟩)
 ·exact zA1 hp fo tv (sqi 3) (fun v1 v2 v3 w h1 h2 h3 => ⟨_, rfl, h3⟩)
 ·exact aN hp (mq 0 rfl)
 ·exact aN hp (mq 1 rfl)
 ·exact sN 4 hp (mq 0 rfl)
 ·exact sN 5 hp (mq 1 rfl)
 ·exact zAh hp fo tv (sqi 6)
 intro L vs w5 nb hL hC hn E5
 have e6 := wXi hC 6
 have e11 := wXi hC 11
 have e7 : vs 7 = .pointer (some ⟨nb 7, 0, none⟩) := hn _ (mq 0 rfl)
 have e8 : vs 8 = .pointer (some ⟨nb 8, 0, none⟩) := hn _ (mq 1 rfl)
 have E := E5; try simp only [LM, zAd] at E
 rw [zAe hL]
 simp only [SP, Nat.zero_add, Nat.reduceAdd]
 rw [e6, e11, e7, e8]
 generalize nb 7 = b5_7 at E ⊢
 generalize nb 8 = b5_8 at E ⊢
 generalize vs 0 = u5_0
 generalize vs 1 = u5_1
 generalize vs 2 = u5_2
 generalize vs 3 = u5_3
 generalize vs 4 = u5_4
 generalize vs 5 = u5_5
 clear e6 e11 e7 e8 hC hn E5 hL vs L nb
 go_upto_region 2 with (fail)
 have B6 : Hid (ab ((1)) < pw 3) := zBh (by decide)
 refine rg [Fq.num (d % 4), Fq.num (1), Fq.is (.int .i64 (cmpI (d % 4) (1))), yF, yF, Fq.num d, yT, yT] N4 [] E (fun hp => ⟨?_, ?_, ?_, ?_, ?_, ?_, ?_, ?_, tv⟩) ?_
 ·exact lI 0 hp (mq 1 rfl) (sqo 5) fun us w hl h => zAp hl h
 ·exact zAn (F := (Fq.is (.int .i64 1)).P) hp fo tv (zC1) (zAj (fun _ => rfl)) (fun v w h => (by subst h; exact OfK w (1) (by omega) (by omega)))
 ·exact wXb (Fq.num (d % 4)) (Fq.num (1)) hp zA8 (sqi 0) (sqi 1) fun v v' w h h' => zA9 h h'
 ·exact zAf (F := fun v _ => v = .int .i64 (cmpI (d % 4) (1))) hp fo tv (sqi 2) (fun ρ w hc h => ⟨.bool false, by simp [execOp, go_sem, h, hc, T1.out], rfl⟩)
 ·exact zAa hp fo tv (sqi 3)
 ·exact zCd (off := 0) hp fo gqi (mq 3 rfl) (.inl rfl) (Nat.le_of_ble_eq_true rfl) (sqo 1) (fun us w hl h => zAp hl h)
 ·exact zAn (F := (Fq.num d).P) hp fo gqi (zE4) (sqi 5) (fun v w h => zE7 h hd.out HQ.out)
 ·exact zAg (F := fun v _ => v = .bool false) (G := fun v _ => v = .bool true) hp fo tv (sqi 4) (sqi 6) (fun ρ w hc h h' => ⟨_, by simp [execOp, go_sem, h, h'], rfl⟩)
 intro L vs w7 nb hL hC hn E7
 have e2 := wXi hC 2
 have e3 := wXi hC 3
 have e4 := wXi hC 4
 have e6 := wXi hC 6
 have e7 := wXi hC 7
 have E := E7; try simp only [LM, zAd] at E
 rw [zAe hL]
 simp only [SP, Nat.zero_add, Nat.reduceAdd]
 rw [e2, e3, e4, e6, e7]
 generalize vs 0 = u7_0
 generalize vs 1 = u7_1
 generalize vs 5 = u7_5
 clear e2 e3 e4 e6 e7 hC hn E7 hL vs L nb
 go_upto_region 3 with (fail)
 refine rg [Fq.st [.n 0, .n 0, .n 0], Fq.any, Fq.is (.int .i64 5)] [none, none, some (1, Fq.st [.n 0, .n 0, .n 0]), none] [] E (fun hp => ⟨?_, ?_, ?_, tv⟩) ?_
 ·exact zI0 hp fo tv (fun v w h => h)
 ·exact sO 0 0 hp (mq 2 rfl) zA7 (sqo 2)
 ·exact zAh hp fo tv (zAj (fun _ => rfl))
 intro L vs w8 nb hL hC hn E8
 have e2 := wXi hC 2
 have E := E8; try simp only [LM, zAd] at E
 rw [zAe hL]
 simp only [SP, Nat.zero_add, Nat.reduceAdd]
 rw [e2]
 generalize vs 0 = u8_0
 clear e2 hC hn E8 hL vs L nb
 clear HR4 H4 HQ T1
 obtain ⟨_, _, hcc, hff⟩ := zBm (E.box 2 rfl)
 have hR2 := hff
 obtain ⟨r_p0, r_q0, _, rfl, _r_n0, r_p1, r_q1, _, rfl, _r_n1, r_p2, r_q2, _, rfl, _r_n2, rfl⟩ := hff
 have c0 := hcc 0 (by simp)
 have c1 := hcc 1 (by simp)
 have c2 := hcc 2 (by simp)
 have c3 := hcc 3 (by simp)
 have c4 := hcc 4 (by simp)
 have c5 := hcc 5 (by simp)
 simp only [List.getD_cons_zero, List.getD_cons_succ] at c0 c1 c2 c3 c4 c5
 clear hcc
 clear B3 B4 B6 hd BR
 go_wp2
 refine bodyPost_ret (v := .tuple #[.agg #[r_p0, r_q0, r_p1, r_q1, r_p2, r_q2], .int .i64 5]) ?_ rfl ⟨_, rfl, E.below, _, _, rfl, ⟨_, rfl, hR2⟩, rfl⟩
 simp [results, Tryz.results10, go_sem, c0, c1, c2, c3, c4, c5]

set_option maxRecDepth 100000 in
set_option maxHeartbeats 4000000 in
theorem zKa {w : World} {v : Value} {d : Int} (h : Num w v d) (hd : ab d < pw 40) (hr : ¬ 1 < d % 4) (hq : sqB d = false) :
  Calls Tryz.prog 10 #[v] w fun e w' => ∃ v', e = .returned v' ∧ Below w.heap.size w w' ∧ (Fq.tup2 (Fq.st [.n 1, .n (d % 4), .n (-(d / 4))]) (Fq.is (.int .i64 0))).P v' w' := by
 replace hd := hidd hd
 have HR4 : Hid (0 ≤ d % 4 ∧ d % 4 < 4) := by show _ ∧ _; omega
 have BR : Hid (ab (d % 4) < pw 3) := zAs (by omega) (by omega)
 have H4 : Hid ((4 : Int) ≠ 0) := by show _ ≠ _; decide
 have T1 : Hid (¬ 0 < cmpI (d % 4) 1) := fun e => hr (cmpIqgt.1 e)
 clear hr
 have HQ := hidd hq
 clear hq
 obtain ⟨n0, ao0, k0, c0, rfl⟩ := h.parts
 obtain ⟨w1, b1, hw1, hb1, hs1, E⟩ := zCu w (F := Fq.num d) (us := [.bool n0, .slice ao0 k0 c0]) 31 rfl (by simp) (zB0 _ _ _ _) h
 obtain ⟨w2, b2, hw2, hb2, hs2, E⟩ := fO E hs1 33 zBb
 go_enter Tryz.func10, Tryz.ntmps10
 go_upto_region 1 with (fail)
 rw [← hw1]
 rw [← hw2]
 rw [← hb2]
 rw [← hb1]
 clear hw1 hw2 hb1 hb2 hs2 hs1
 have B3 : Hid (ab ((4)) < pw 3) := zBh (by decide)
 have B4 : Hid (ab ((d / 4)) < pw 41) := zEv hd.out (by omega)
 refine rg [Fq.num d, Fq.num (4), Fq.tup3 (Fq.num (d / 4)) (Fq.num (d % 4)) (Fq.is (.int .i64 0)), Fq.tup3 (Fq.num (d / 4)) (Fq.num (d % 4)) (Fq.is (.int .i64 0)), Fq.num (d / 4), Fq.num (d % 4), Fq.is (.int .i64 0), Fq.any, Fq.any, Fq.any, Fq.any, Fq.is (.int .i64 0)] N2 [⟨7, 9, 2, Fq.num 0, Fq.num (d / 4), none⟩, ⟨8, 10, 2, Fq.num 0, Fq.num (d % 4), none⟩] E (fun hp => ⟨?_, ?_, ?_, ?_, ?_, ?_, ?_, ?_, ?_, ?_, ?_, ?_, tv⟩) ?_
 ·exact lI 0 hp (mq 1 rfl) (sqo 1) fun us w hl h => zAp hl h
 ·exact zAn (F := (Fq.is (.int .i64 4)).P) hp fo tv (zC1) (zAj (fun _ => rfl)) (fun v w h => (by subst h; exact OfK w (4) (by omega) (by omega)))
 ·exact wXb (Fq.num d) (Fq.num (4)) hp zHz (sqi 0) (sqi 1) fun v v' w h h' => exDMq h h' H4.out B4.out BR.out (by omega) (by omega)
 ·exact zAa hp fo tv (sqi 2)
 ·exact zA1 hp fo tv (sqi 3) (fun v1 v2 v3 w h1 h2 h3 => ⟨_, rfl, h1⟩)
 ·exact zA1 hp fo tv (sqi 3) (fun v1 v2 v3 w h1 h2 h3 => ⟨_, rfl, h2⟩)
 ·exact zA1 hp fo tv (sqi 3) (fun v1 v2 v3 w h1 h2 h3 => ⟨_, rfl, h3⟩)
 ·exact aN hp (mq 0 rfl)
 ·exact aN hp (mq 1 rfl)
 ·exact sN 4 hp (mq 0 rfl)
 ·exact sN 5 hp (mq 1 rfl)
 ·exact zAh hp fo tv (sqi 6)
 intro L vs w5 nb hL hC hn E5
 have e6 := wXi hC 6
 have e11 := wXi hC 11
 have e7 : vs 7 = .pointer (some ⟨nb 7, 0, none⟩) := hn _ (mq 0 rfl)
 have e8 : vs 8 = .pointer (some ⟨nb 8, 0, none⟩) := hn _ (mq 1 rfl)
 have E := E5; try simp only [LM, zAd] at E
 rw [zAe hL]
 simp only [SP, Nat.zero_add, Nat.reduceAdd]
 rw [e6, e11, e7, e8]
 generalize nb 7 = b5_7 at E ⊢
 generalize nb 8 = b5_8 at E ⊢
 generalize vs 0 = u5_0
 generalize vs 1 = u5_1
 generalize vs 2 = u5_2
 generalize vs 3 = u5_3
 generalize vs 4 = u5_4
 generalize vs 5 = u5_5
 clear e6 e11 e7 e8 hC hn E5 hL vs L nb
 go_upto_region 2 with (fail)
 have B6 : Hid (ab ((1)) < pw 3) := zBh (by decide)
 refine rg [Fq.num (d % 4), Fq.num (1), Fq.is (.int .i64 (cmpI (d % 4) (1))), yF, yF, Fq.num d, yF, yF] N4 [] E (fun hp => ⟨?_, ?_, ?_, ?_, ?_, ?_, ?_, ?_, tv⟩) ?_
 ·exact lI 0 hp (mq 1 rfl) (sqo 5) fun us w hl h => zAp hl h
 ·exact zAn (F := (Fq.is (.int .i64 1)).P) hp fo tv (zC1) (zAj (fun _ => rfl)) (fun v w h => (by subst h; exact OfK w (1) (by omega) (by omega)))
 ·exact wXb (Fq.num (d % 4)) (Fq.num (1)) hp zA8 (sqi 0) (sqi 1) fun v v' w h h' => zA9 h h'
 ·exact zAf (F := fun v _ => v = .int .i64 (cmpI (d % 4) (1))) hp fo tv (sqi 2) (fun ρ w hc h => ⟨.bool false, by simp [execOp, go_sem, h, hc, T1.out], rfl⟩)
 ·exact zAa hp fo tv (sqi 3)
 ·exact zCd (off := 0) hp fo gqi (mq 3 rfl) (.inl rfl) (Nat.le_of_ble_eq_true rfl) (sqo 1) (fun us w hl h => zAp hl h)
 ·exact zAn (F := (Fq.num d).P) hp fo gqi (zE4) (sqi 5) (fun v w h => zE7 h hd.out HQ.out)
 ·exact zAg (F := fun v _ => v = .bool false) (G := fun v _ => v = .bool false) hp fo tv (sqi 4) (sqi 6) (fun ρ w hc h h' => ⟨_, by simp [execOp, go_sem, h, h'], rfl⟩)
 intro L vs w7 nb hL hC hn E7
 have e2 := wXi hC 2
 have e3 := wXi hC 3
 have e4 := wXi hC 4
 have e6 := wXi hC 6
 have e7 := wXi hC 7
 have E := E7; try simp only [LM, zAd] at E
 rw [zAe hL]
 simp only [SP, Nat.zero_add, Nat.reduceAdd]
 rw [e2, e3, e4, e6, e7]
 generalize vs 0 = u7_0
 generalize vs 1 = u7_1
 generalize vs 5 = u7_5
 clear e2 e3 e4 e6 e7 hC hn E7 hL vs L nb
 go_upto_region 4 with (fail)
 have B8 : Hid (ab ((-(d / 4))) < pw 41) := zDo B4.out
 refine rg [Fq.num (1), Fq.num (d % 4), Fq.num (d / 4), Fq.num (-(d / 4)), Fq.st [.n (1), .n (d % 4), .n (-(d / 4))], Fq.any, Fq.is (.int .i64 0)] [none, none, some (5, Fq.st [.n (1), .n (d % 4), .n (-(d / 4))]), none] [] E (fun hp => ⟨?_, ?_, ?_, ?_, ?_, ?_, ?_, tv⟩) ?_
 ·exact zAn (F := (Fq.is (.int .i64 1)).P) hp fo tv (zC1) (zAj (fun _ => rfl)) (fun v w h => (by subst h; exact OfK w (1) (by omega) (by omega)))
 ·exact lI 0 hp (mq 1 rfl) (sqo 5) fun us w hl h => zAp hl h
 ·exact lI 0 hp (mq 0 rfl) (sqo 4) fun us w hl h => zAp hl h
 ·exact wXa (Fq.num (d / 4)) hp zGp (sqi 2) fun v w h => exK (NegV h) B8.out (by omega)
 ·exact zF2 (z0 := (1)) (z1 := (d % 4)) (z2 := (-(d / 4))) hp fo tv (sqi 0) (sqi 1) (sqi 3) (fun v w h => h)
 ·exact sO 0 4 hp (mq 2 rfl) zA7 (sqo 2)
 ·exact zAh hp fo tv (zAj (fun _ => rfl))
 intro L vs w9 nb hL hC hn E9
 have e6 := wXi hC 6
 have E := E9; try simp only [LM, zAd] at E
 rw [zAe hL]
 simp only [SP, Nat.zero_add, Nat.reduceAdd]
 rw [e6]
 generalize vs 0 = u9_0
 generalize vs 1 = u9_1
 generalize vs 2 = u9_2
 generalize vs 3 = u9_3
 generalize vs 4 = u9_4
 clear e6 hC hn E9 hL vs L nb
 clear HR4 H4 HQ T1
 obtain ⟨_, _, hcc, hff⟩ := zBm (E.box 2 rfl)
 have hR2 := hff
 obtain ⟨r_p0, r_q0, _, rfl, _r_n0, r_p1, r_q1, _, rfl, _r_n1, r_p2, r_q2, _, rfl, _r_n2, rfl⟩ := hff
 have c0 := hcc 0 (by simp)
 have c1 := hcc 1 (by simp)
 have c2 := hcc 2 (by simp)
 have c3 := hcc 3 (by simp)
 have c4 := hcc 4 (by simp)
 have c5 := hcc 5 (by simp)
 simp only [List.getD_cons_zero, List.getD_cons_succ] at c0 c1 c2 c3 c4 c5
 clear hcc
 clear B3 B4 B6 B8 hd BR
 go_wp2
 refine bodyPost_ret (v := .tuple #[.agg #[r_p0, r_q0, r_p1, r_q1, r_p2, r_q2], .int .i64 0]) ?_ rfl ⟨_, rfl, E.below, _, _, rfl, ⟨_, rfl, hR2⟩, rfl⟩
 simp [results, Tryz.results10, go_sem, c0, c1, c2, c3, c4, c5]

set_option maxRecDepth 100000 in
set_option maxHeartbeats 4000000 in
theorem zNk {w : World} {v : Value} {a b c : Int} (h : (Fq.st [.n a, .n b, .n c]).P v w) (ha : ab a < pw 60) (hb : ab b < pw 60) (hc : ab c < pw 60) (hx : a < (Int.natAbs b : Int)) {t : Bool} (ht : redB a b c = t) :
  Calls Tryz.prog 66 #[v] w fun e w' => ∃ v', e = .returned v' ∧ Below w.heap.size w w' ∧ v' = .bool t := by
 replace ha := hidd ha
 replace hb := hidd hb
 replace hc := hidd hc
 have ht2 : t = false := ht.symm.trans (by unfold redB; exact decide_eq_false (by omega))
 subst ht2
 clear ht
 have T1 : Hid (0 < cmpI (Int.natAbs b : Int) a) := cmpIqgt.2 hx
 clear hx
 obtain ⟨_, rfl, hf0⟩ := h
 have hF0 := hf0
 obtain ⟨y0_p0, y0_q0, _, rfl, _y0_n0, y0_p1, y0_q1, _, rfl, _y0_n1, y0_p2, y0_q2, _, rfl, _y0_n2, rfl⟩ := hf0
 obtain ⟨w1, b1, hw1, hb1, hs1, E⟩ := gS w 33 hF0
 go_enter Tryz.func66, Tryz.ntmps66
 go_upto_region 1 with (fail)
 rw [← hw1]
 rw [← hb1]
 clear hw1 hb1 hs1
 have B2 : Hid (ab ((Int.natAbs b : Int)) < pw 60) := zBg hb.out
 refine rg [ip b1 2, Fq.num b, Fq.num (Int.natAbs b : Int), ip b1 0, Fq.num a, Fq.is (.int .i64 (cmpI (Int.natAbs b : Int) a)), ip b1 0, Fq.num a, ip b1 4, Fq.num c, Fq.is (.int .i64 (cmpI a c)), Fq.is (.int .i64 (cmpI (Int.natAbs b : Int) a)), Fq.is (.int .i64 (cmpI a c))] [none] [] E (fun hp => ⟨?_, ?_, ?_, ?_, ?_, ?_, ?_, ?_, ?_, ?_, ?_, ?_, ?_, tv⟩) ?_
 ·exact qa b1 0 2 hp (sqo 1)
 ·exact lN 2 2 hp (mq 0 rfl) zAc (sqi 0)
 ·exact wXa (Fq.num b) hp zD2 (sqi 1) fun v w h => exK (AbsV h) B2.out (by omega)
 ·exact qa b1 0 0 hp (sqo 1)
 ·exact lN 0 2 hp (mq 0 rfl) zAc (sqi 3)
 ·exact wXb (Fq.num (Int.natAbs b : Int)) (Fq.num a) hp zA8 (sqi 2) (sqi 4) fun v v' w h h' => zA9 h h'
 ·exact qa b1 0 0 hp (sqo 1)
 ·exact lN 0 2 hp (mq 0 rfl) zAc (sqi 6)
 ·exact qa b1 0 4 hp (sqo 1)
 ·exact lN 4 2 hp (mq 0 rfl) zAc (sqi 8)
 ·exact wXb (Fq.num a) (Fq.num c) hp zA8 (sqi 7) (sqi 9) fun v v' w h h' => zA9 h h'
 ·exact zAh hp fo tv (sqi 5)
 ·exact zAh hp fo tv (sqi 10)
 intro L vs w3 nb hL hC hn E3
 have e0 := wXi hC 0
 have e3 := wXi hC 3
 have e5 := wXi hC 5
 have e6 := wXi hC 6
 have e8 := wXi hC 8
 have e10 := wXi hC 10
 have e11 := wXi hC 11
 have e12 := wXi hC 12
 have E := E3; try simp only [LM, zAd] at E
 rw [zAe hL]
 simp only [SP, Nat.zero_add, Nat.reduceAdd]
 rw [e0, e3, e5, e6, e8, e10, e11, e12]
 generalize vs 1 = u3_1
 generalize vs 2 = u3_2
 generalize vs 4 = u3_4
 generalize vs 7 = u3_7
 generalize vs 9 = u3_9
 clear e0 e3 e5 e6 e8 e10 e11 e12 hC hn E3 hL vs L nb
 go_upto_region 2 with (fail)
 refine rg [Fq.is (.int .i64 (cmpI (Int.natAbs b : Int) a)), yT, yT, Fq.is (undef), Fq.is (undef), yT] [none] [] E (fun hp => ⟨?_, ?_, ?_, ?_, ?_, ?_, tv⟩) ?_
 ·exact zAa hp fo tv (sqo 3)
 ·exact zAf (F := fun v _ => v = .int .i64 (cmpI (Int.natAbs b : Int) a)) hp fo tv (sqi 0) (fun ρ w hc h => ⟨.bool true, by simp [execOp, go_sem, h, hc, T1.out], rfl⟩)
 ·exact zAa hp fo tv (sqi 1)
 ·exact zAi hp fo rfl gqi (fun _ => rfl)
 ·exact zAi hp fo rfl gqi (fun _ => rfl)
 ·exact zAg (F := fun v _ => v = .bool true) (G := fun v _ => v = .bool true) hp fo tv (sqi 2) (zAj (fun _ => rfl)) (fun ρ w hc h h' => ⟨_, by simp [execOp, go_sem, h, h'], rfl⟩)
 intro L vs w4 nb hL hC hn E4
 have e0 := wXi hC 0
 have e1 := wXi hC 1
 have e2 := wXi hC 2
 have e3 := wXi hC 3
 have e4 := wXi hC 4
 have e5 := wXi hC 5
 have E := E4; try simp only [LM, zAd] at E
 rw [zAe hL]
 simp only [SP, Nat.zero_add, Nat.reduceAdd]
 rw [e0, e1, e2, e3, e4, e5]
 clear e0 e1 e2 e3 e4 e5 hC hn E4 hL vs L nb
 go_upto_region 3 with (fail)
 refine rg [yF] [none] [] E (fun hp => ⟨?_, tv⟩) ?_
 ·exact zAh hp fo tv (zAj (fun _ => rfl))
 intro L vs w5 nb hL hC hn E5
 have e0 := wXi hC 0
 have E := E5; try simp only [LM, zAd] at E
 rw [zAe hL]
 simp only [SP, Nat.zero_add, Nat.reduceAdd]
 rw [e0]
 clear e0 hC hn E5 hL vs L nb
 clear  T1
 clear B2 ha hb hc
 go_wp2
 refine bodyPost_ret (v := .bool false) ?_ rfl ⟨_, rfl, E.below, rfl⟩
 simp [results, Tryz.results66, go_sem]

set_option maxRecDepth 100000 in
set_option maxHeartbeats 4000000 in
theorem zNl {w : World} {v : Value} {a b c : Int} (h : (Fq.st [.n a, .n b, .n c]).P v w) (ha : ab a < pw 60) (hb : ab b < pw 60) (hc : ab c < pw 60) (hx : ¬ a < (Int.natAbs b : Int)) (hy : ¬ a ≤ c) {t : Bool} (ht : redB a b c = t) :
  Calls Tryz.prog 66 #[v] w fun e w' => ∃ v', e = .returned v' ∧ Below w.heap.size w w' ∧ v' = .bool t := by
 replace ha := hidd ha
 replace hb := hidd hb
 replace hc := hidd hc
 have ht2 : t = false := ht.symm.trans (by unfold redB; exact decide_eq_false (by omega))
 subst ht2
 clear ht
 have T1 : Hid (¬ 0 < cmpI (Int.natAbs b : Int) a) := fun e => by have := cmpIqgt.1 e; omega
 have T2 : Hid (0 < cmpI a c) := cmpIqgt.2 (by omega)
 clear hx hy
 obtain ⟨_, rfl, hf0⟩ := h
 have hF0 := hf0
 obtain ⟨y0_p0, y0_q0, _, rfl, _y0_n0, y0_p1, y0_q1, _, rfl, _y0_n1, y0_p2, y0_q2, _, rfl, _y0_n2, rfl⟩ := hf0
 obtain ⟨w1, b1, hw1, hb1, hs1, E⟩ := gS w 33 hF0
 go_enter Tryz.func66, Tryz.ntmps66
 go_upto_region 1 with (fail)
 rw [← hw1]
 rw [← hb1]
 clear hw1 hb1 hs1
 have B2 : Hid (ab ((Int.natAbs b : Int)) < pw 60) := zBg hb.out
 refine rg [ip b1 2, Fq.num b, Fq.num (Int.natAbs b : Int), ip b1 0, Fq.num a, Fq.is (.int .i64 (cmpI (Int.natAbs b : Int) a)), ip b1 0, Fq.num a, ip b1 4, Fq.num c, Fq.is (.int .i64 (cmpI a c)), Fq.is (.int .i64 (cmpI (Int.natAbs b : Int) a)), Fq.is (.int .i64 (cmpI a c))] [none] [] E (fun hp => ⟨?_, ?_, ?_, ?_, ?_, ?_, ?_, ?_, ?_, ?_, ?_, ?_, ?_, tv⟩) ?_
 ·exact qa b1 0 2 hp (sqo 1)
 ·exact lN 2 2 hp (mq 0 rfl) zAc (sqi 0)
 ·exact wXa (Fq.num b) hp zD2 (sqi 1) fun v w h => exK (AbsV h) B2.out (by omega)
 ·exact qa b1 0 0 hp (sqo 1)
 ·exact lN 0 2 hp (mq 0 rfl) zAc (sqi 3)
 ·exact wXb (Fq.num (Int.natAbs b : Int)) (Fq.num a) hp zA8 (sqi 2) (sqi 4) fun v v' w h h' => zA9 h h'
 ·exact qa b1 0 0 hp (sqo 1)
 ·exact lN 0 2 hp (mq 0 rfl) zAc (sqi 6)
 ·exact qa b1 0 4 hp (sqo 1)
 ·exact lN 4 2 hp (mq 0 rfl) zAc (sqi 8)
 ·exact wXb (Fq.num a) (Fq.num c) hp zA8 (sqi 7) (sqi 9) fun v v' w h h' => zA9 h h'
 ·exact zAh hp fo tv (sqi 5)
 ·exact zAh hp fo tv (sqi 10)
 intro L vs w3 nb hL hC hn E3
 have e0 := wXi hC 0
 have e3 := wXi hC 3
 have e5 := wXi hC 5
 have e6 := wXi hC 6
 have e8 := wXi hC 8
 have e10 := wXi hC 10
 have e11 := wXi hC 11
 have e12 := wXi hC 12
 have E := E3; try simp only [LM, zAd] at E
 rw [zAe hL]
 simp only [SP, Nat.zero_add, Nat.reduceAdd]
 rw [e0, e3, e5, e6, e8, e10, e11, e12]
 generalize vs 1 = u3_1
 generalize vs 2 = u3_2
 generalize vs 4 = u3_4
 generalize vs 7 = u3_7
 generalize vs 9 = u3_9
 clear e0 e3 e5 e6 e8 e10 e11 e12 hC hn E3 hL vs L nb
 go_upto_region 2 with (fail)
 refine rg [Fq.is (.int .i64 (cmpI (Int.natAbs b : Int) a)), yF, yF, Fq.is (.int .i64 (cmpI a c)), yT, yT] [none] [] E (fun hp => ⟨?_, ?_, ?_, ?_, ?_, ?_, tv⟩) ?_
 ·exact zAa hp fo tv (sqo 3)
 ·exact zAf (F := fun v _ => v = .int .i64 (cmpI (Int.natAbs b : Int) a)) hp fo tv (sqi 0) (fun ρ w hc h => ⟨.bool false, by simp [execOp, go_sem, h, hc, T1.out], rfl⟩)
 ·exact zAa hp fo tv (sqi 1)
 ·exact zAa hp fo gqi (sqo 4)
 ·exact zAf (F := fun v _ => v = .int .i64 (cmpI a c)) hp fo gqi (sqi 3) (fun ρ w hc h => ⟨.bool true, by simp [execOp, go_sem, h, hc, T2.out], rfl⟩)
 ·exact zAg (F := fun v _ => v = .bool false) (G := fun v _ => v = .bool true) hp fo tv (sqi 2) (sqi 4) (fun ρ w hc h h' => ⟨_, by simp [execOp, go_sem, h, h'], rfl⟩)
 intro L vs w4 nb hL hC hn E4
 have e0 := wXi hC 0
 have e1 := wXi hC 1
 have e2 := wXi hC 2
 have e3 := wXi hC 3
 have e4 := wXi hC 4
 have e5 := wXi hC 5
 have E := E4; try simp only [LM, zAd] at E
 rw [zAe hL]
 simp only [SP, Nat.zero_add, Nat.reduceAdd]
 rw [e0, e1, e2, e3, e4, e5]
 clear e0 e1 e2 e3 e4 e5 hC hn E4 hL vs L nb
 go_upto_region 3 with (fail)
 refine rg [yF] [none] [] E (fun hp => ⟨?_, tv⟩) ?_
 ·exact zAh hp fo tv (zAj (fun _ => rfl))
 intro L vs w5 nb hL hC hn E5
 have e0 := wXi hC 0
 have E := E5; try simp only [LM, zAd] at E
 rw [zAe hL]
 simp only [SP, Nat.zero_add, Nat.reduceAdd]
 rw [e0]
 clear e0 hC hn E5 hL vs L nb
 clear  T1 T2
 clear B2 ha hb hc
 go_wp2
 refine bodyPost_ret (v := .bool false) ?_ rfl ⟨_, rfl, E.below, rfl⟩
 simp [results, Tryz.results66, go_sem]

set_option maxRecDepth 100000 in
set_option maxHeartbeats 4000000 in
theorem zNj {w : World} {v : Value} {a b c : Int} (h : (Fq.st [.n a, .n b, .n c]).P v w) (ha : ab a < pw 60) (hb : ab b < pw 60) (hc : ab c < pw 60) (hx : ¬ a < (Int.natAbs b : Int)) (hy : a ≤ c) (k0 : (Int.natAbs b : Int) < a) (k1 : a < c) {t : Bool} (ht : redB a b c = t) :
  Calls Tryz.prog 66 #[v] w fun e w' => ∃ v', e = .returned v' ∧ Below w.heap.size w w' ∧ v' = .bool t := by
 replace ha := hidd ha
 replace hb := hidd hb
 replace hc := hidd hc
 have ht2 : t = true := ht.symm.trans (by unfold redB; exact decide_eq_true (by omega))
 subst ht2
 clear ht
 have T1 : Hid (¬ 0 < cmpI (Int.natAbs b : Int) a) := fun e => by have := cmpIqgt.1 e; omega
 have T2 : Hid (¬ 0 < cmpI a c) := fun e => by have := cmpIqgt.1 e; omega
 have T3 : Hid (cmpI (Int.natAbs b : Int) a < 0) := cmpIqlt.2 k0
 have T4 : Hid (cmpI a c < 0) := cmpIqlt.2 k1
 clear hx hy k0 k1
 obtain ⟨_, rfl, hf0⟩ := h
 have hF0 := hf0
 obtain ⟨y0_p0, y0_q0, _, rfl, _y0_n0, y0_p1, y0_q1, _, rfl, _y0_n1, y0_p2, y0_q2, _, rfl, _y0_n2, rfl⟩ := hf0
 obtain ⟨w1, b1, hw1, hb1, hs1, E⟩ := gS w 33 hF0
 go_enter Tryz.func66, Tryz.ntmps66
 go_upto_region 1 with (fail)
 rw [← hw1]
 rw [← hb1]
 clear hw1 hb1 hs1
 have B2 : Hid (ab ((Int.natAbs b : Int)) < pw 60) := zBg hb.out
 refine rg [ip b1 2, Fq.num b, Fq.num (Int.natAbs b : Int), ip b1 0, Fq.num a, Fq.is (.int .i64 (cmpI (Int.natAbs b : Int) a)), ip b1 0, Fq.num a, ip b1 4, Fq.num c, Fq.is (.int .i64 (cmpI a c)), Fq.is (.int .i64 (cmpI (Int.natAbs b : Int) a)), Fq.is (.int .i64 (cmpI a c))] [none] [] E (fun hp => ⟨?_, ?_, ?_, ?_, ?_, ?_, ?_, ?_, ?_, ?_, ?_, ?_, ?_, tv⟩) ?_
 ·exact qa b1 0 2 hp (sqo 1)
 ·exact lN 2 2 hp (mq 0 rfl) zAc (sqi 0)
 ·exact wXa (Fq.num b) hp zD2 (sqi 1) fun v w h => exK (AbsV h) B2.out (by omega)
 ·exact qa b1 0 0 hp (sqo 1)
 ·exact lN 0 2 hp (mq 0 rfl) zAc (sqi 3)
 ·exact wXb (Fq.num (Int.natAbs b : Int)) (Fq.num a) hp zA8 (sqi 2) (sqi 4) fun v v' w h h' => zA9 h h'
 ·exact qa b1 0 0 hp (sqo 1)
 ·exact lN 0 2 hp (mq 0 rfl) zAc (sqi 6)
 ·exact qa b1 0 4 hp (sqo 1)
 ·exact lN 4 2 hp (mq 0 rfl) zAc (sqi 8)
 ·exact wXb (Fq.num a) (Fq.num c) hp zA8 (sqi 7) (sqi 9) fun v v' w h h' => zA9 h h'
 ·exact zAh hp fo tv (sqi 5)
 ·exact zAh hp fo tv (sqi 10)
 intro L vs w3 nb hL hC hn E3
 have e0 := wXi hC 0
 have e3 := wXi hC 3
 have e5 := wXi hC 5
 have e6 := wXi hC 6
 have e8 := wXi hC 8
 have e10 := wXi hC 10
 have e11 := wXi hC 11
 have e12 := wXi hC 12
 have E := E3; try simp only [LM, zAd] at E
 rw [zAe hL]
 simp only [SP, Nat.zero_add, Nat.reduceAdd]
 rw [e0, e3, e5, e6, e8, e10, e11, e12]
 generalize vs 1 = u3_1
 generalize vs 2 = u3_2
 generalize vs 4 = u3_4
 generalize vs 7 = u3_7
 generalize vs 9 = u3_9
 clear e0 e3 e5 e6 e8 e10 e11 e12 hC hn E3 hL vs L nb
 go_upto_region 2 with (fail)
 refine rg [Fq.is (.int .i64 (cmpI (Int.natAbs b : Int) a)), yF, yF, Fq.is (.int .i64 (cmpI a c)), yF, yF] [none] [] E (fun hp => ⟨?_, ?_, ?_, ?_, ?_, ?_, tv⟩) ?_
 ·exact zAa hp fo tv (sqo 3)
 ·exact zAf (F := fun v _ => v = .int .i64 (cmpI (Int.natAbs b : Int) a)) hp fo tv (sqi 0) (fun ρ w hc h => ⟨.bool false, by simp [execOp, go_sem, h, hc, T1.out], rfl⟩)
 ·exact zAa hp fo tv (sqi 1)
 ·exact zAa hp fo gqi (sqo 4)
 ·exact zAf (F := fun v _ => v = .int .i64 (cmpI a c)) hp fo gqi (sqi 3) (fun ρ w hc h => ⟨.bool false, by simp [execOp, go_sem, h, hc, T2.out], rfl⟩)
 ·exact zAg (F := fun v _ => v = .bool false) (G := fun v _ => v = .bool false) hp fo tv (sqi 2) (sqi 4) (fun ρ w hc h h' => ⟨_, by simp [execOp, go_sem, h, h'], rfl⟩)
 intro L vs w4 nb hL hC hn E4
 have e0 := wXi hC 0
 have e1 := wXi hC 1
 have e2 := wXi hC 2
 have e3 := wXi hC 3
 have e4 := wXi hC 4
 have e5 := wXi hC 5
 have E := E4; try simp only [LM, zAd] at E
 rw [zAe hL]
 simp only [SP, Nat.zero_add, Nat.reduceAdd]
 rw [e0, e1, e2, e3, e4, e5]
 clear e0 e1 e2 e3 e4 e5 hC hn E4 hL vs L nb
 go_upto_region 4 with (fail)
 refine rg [Fq.is (.int .i64 (cmpI (Int.natAbs b : Int) a)), yT, yT, Fq.is (.int .i64 (cmpI a c)), yT, yT, yT, Fq.is (undef), Fq.is (undef), Fq.is (undef), Fq.is (undef), yT, yT] [none] [] E (fun hp => ⟨?_, ?_, ?_, ?_, ?_, ?_, ?_, ?_, ?_, ?_, ?_, ?_, ?_, tv⟩) ?_
 ·exact zAa hp fo tv (sqo 3)
 ·exact zAf (F := fun v _ => v = .int .i64 (cmpI (Int.natAbs b : Int) a)) hp fo tv (sqi 0) (fun ρ w hc h => ⟨.bool true, by simp [execOp, go_sem, h, hc, T3.out], rfl⟩)
 ·exact zAa hp fo tv (sqi 1)
 ·exact zAa hp fo gqi (sqo 4)
 ·exact zAf (F := fun v _ => v = .int .i64 (cmpI a c)) hp fo gqi (sqi 3) (fun ρ w hc h => ⟨.bool true, by simp [execOp, go_sem, h, hc, T4.out], rfl⟩)
 ·exact zAg (F := fun v _ => v = .bool true) (G := fun v _ => v = .bool true) hp fo tv (sqi 2) (sqi 4) (fun ρ w hc h h' => ⟨_, by simp [execOp, go_sem, h, h'], rfl⟩)
 ·exact zAa hp fo tv (sqi 5)
 ·exact zAi hp fo rfl gqi (fun _ => rfl)
 ·exact zAi hp fo rfl gqi (fun _ => rfl)
 ·exact zAi hp fo rfl gqi (fun _ => rfl)
 ·exact zAi hp fo rfl gqi (fun _ => rfl)
 ·exact zAg (F := fun v _ => v = .bool true) (G := fun v _ => v = .bool true) hp fo tv (sqi 6) (zAj (fun _ => rfl)) (fun ρ w hc h h' => ⟨_, by simp [execOp, go_sem, h, h'], rfl⟩)
 ·exact zAh hp fo tv (sqi 11)
 intro L vs w5 nb hL hC hn E5
 have e0 := wXi hC 0
 have e1 := wXi hC 1
 have e2 := wXi hC 2
 have e3 := wXi hC 3
 have e4 := wXi hC 4
 have e5 := wXi hC 5
 have e6 := wXi hC 6
 have e7 := wXi hC 7
 have e8 := wXi hC 8
 have e9 := wXi hC 9
 have e10 := wXi hC 10
 have e11 := wXi hC 11
 have e12 := wXi hC 12
 have E := E5; try simp only [LM, zAd] at E
 rw [zAe hL]
 simp only [SP, Nat.zero_add, Nat.reduceAdd]
 rw [e0, e1, e2, e3, e4, e5, e6, e7, e8, e9, e10, e11, e12]
 clear e0 e1 e2 e3 e4 e5 e6 e7 e8 e9 e10 e11 e12 hC hn E5 hL vs L nb
 clear  T1 T2 T3 T4
 clear B2 ha hb hc
 go_wp2
 refine bodyPost_ret (v := .bool true) ?_ rfl ⟨_, rfl, E.below, rfl⟩
 simp [results, Tryz.results66, go_sem]

set_option maxRecDepth 100000 in
set_option maxHeartbeats 4000000 in
theorem zNh {w : World} {v : Value} {a b c : Int} (h : (Fq.st [.n a, .n b, .n c]).P v w) (ha : ab a < pw 60) (hb : ab b < pw 60) (hc : ab c < pw 60) (hx : ¬ a < (Int.natAbs b : Int)) (hy : a ≤ c) (k0 : (Int.natAbs b : Int) < a) (k1 : ¬ a < c) (k2 : ¬ 0 ≤ b) {t : Bool} (ht : redB a b c = t) :
  Calls Tryz.prog 66 #[v] w fun e w' => ∃ v', e = .returned v' ∧ Below w.heap.size w w' ∧ v' = .bool t := by
 replace ha := hidd ha
 replace hb := hidd hb
 replace hc := hidd hc
 have ht2 : t = false := ht.symm.trans (by unfold redB; exact decide_eq_false (by omega))
 subst ht2
 clear ht
 have T1 : Hid (¬ 0 < cmpI (Int.natAbs b : Int) a) := fun e => by have := cmpIqgt.1 e; omega
 have T2 : Hid (¬ 0 < cmpI a c) := fun e => by have := cmpIqgt.1 e; omega
 have T3 : Hid (cmpI (Int.natAbs b : Int) a < 0) := cmpIqlt.2 k0
 have T4 : Hid (¬ cmpI a c < 0) := fun e => k1 (cmpIqlt.1 e)
 have T5 : Hid (¬ 0 ≤ cmpI b 0) := by have := cmpIqlt.2 (show b < 0 by omega); show ¬ _ ≤ _; omega
 clear hx hy k0 k1 k2
 obtain ⟨_, rfl, hf0⟩ := h
 have hF0 := hf0
 obtain ⟨y0_p0, y0_q0, _, rfl, _y0_n0, y0_p1, y0_q1, _, rfl, _y0_n1, y0_p2, y0_q2, _, rfl, _y0_n2, rfl⟩ := hf0
 obtain ⟨w1, b1, hw1, hb1, hs1, E⟩ := gS w 33 hF0
 go_enter Tryz.func66, Tryz.ntmps66
 go_upto_region 1 with (fail)
 rw [← hw1]
 rw [← hb1]
 clear hw1 hb1 hs1
 have B2 : Hid (ab ((Int.natAbs b : Int)) < pw 60) := zBg hb.out
 refine rg [ip b1 2, Fq.num b, Fq.num (Int.natAbs b : Int), ip b1 0, Fq.num a, Fq.is (.int .i64 (cmpI (Int.natAbs b : Int) a)), ip b1 0, Fq.num a, ip b1 4, Fq.num c, Fq.is (.int .i64 (cmpI a c)), Fq.is (.int .i64 (cmpI (Int.natAbs b : Int) a)), Fq.is (.int .i64 (cmpI a c))] [none] [] E (fun hp => ⟨?_, ?_, ?_, ?_, ?_, ?_, ?_, ?_, ?_, ?_, ?_, ?_, ?_, tv⟩) ?_
 ·exact qa b1 0 2 hp (sqo 1)
 ·exact lN 2 2 hp (mq 0 rfl) zAc (sqi 0)
 ·exact wXa (Fq.num b) hp zD2 (sqi 1) fun v w h => exK (AbsV h) B2.out (by omega)
 ·exact qa b1 0 0 hp (sqo 1)
 ·exact lN 0 2 hp (mq 0 rfl) zAc (sqi 3)
 ·exact wXb (Fq.num (Int.natAbs b : Int)) (Fq.num a) hp zA8 (sqi 2) (sqi 4) fun v v' w h h' => zA9 h h'
 ·exact qa b1 0 0 hp (sqo 1)
 ·exact lN 0 2 hp (mq 0 rfl) zAc (sqi 6)
 ·exact qa b1 0 4 hp (sqo 1)
 ·exact lN 4 2 hp (mq 0 rfl) zAc (sqi 8)
 ·exact wXb (Fq.num a) (Fq.num c) hp zA8 (sqi 7) (sqi 9) fun v v' w h h' => zA9 h h'
 ·exact zAh hp fo tv (sqi 5)
 ·exact zAh hp fo tv (sqi 10)
 intro L vs w3 nb hL hC hn E3
 have e0 := wXi hC 0
 have e3 := wXi hC 3
 have e5 := wXi hC 5
 have e6 := wXi hC 6
 have e8 := wXi hC 8
 have e10 := wXi hC 10
 have e11 := wXi hC 11
 have e12 := wXi hC 12
 have E := E3; try simp only [LM, zAd] at E
 rw [zAe hL]
 simp only [SP, Nat.zero_add, Nat.reduceAdd]
 rw [e0, e3, e5, e6, e8, e10, e11, e12]
 generalize vs 1 = u3_1
 generalize vs 2 = u3_2
 generalize vs 4 = u3_4
 generalize vs 7 = u3_7
 generalize vs 9 = u3_9
 clear e0 e3 e5 e6 e8 e10 e11 e12 hC hn E3 hL vs L nb
 go_upto_region 2 with (fail)
 refine rg [Fq.is (.int .i64 (cmpI (Int.natAbs b : Int) a)), yF, yF, Fq.is (.int .i64 (cmpI a c)), yF, yF] [none] [] E (fun hp => ⟨?_, ?_, ?_, ?_, ?_, ?_, tv⟩) ?_
 ·exact zAa hp fo tv (sqo 3)
 ·exact zAf (F := fun v _ => v = .int .i64 (cmpI (Int.natAbs b : Int) a)) hp fo tv (sqi 0) (fun ρ w hc h => ⟨.bool false, by simp [execOp, go_sem, h, hc, T1.out], rfl⟩)
 ·exact zAa hp fo tv (sqi 1)
 ·exact zAa hp fo gqi (sqo 4)
 ·exact zAf (F := fun v _ => v = .int .i64 (cmpI a c)) hp fo gqi (sqi 3) (fun ρ w hc h => ⟨.bool false, by simp [execOp, go_sem, h, hc, T2.out], rfl⟩)
 ·exact zAg (F := fun v _ => v = .bool false) (G := fun v _ => v = .bool false) hp fo tv (sqi 2) (sqi 4) (fun ρ w hc h h' => ⟨_, by simp [execOp, go_sem, h, h'], rfl⟩)
 intro L vs w4 nb hL hC hn E4
 have e0 := wXi hC 0
 have e1 := wXi hC 1
 have e2 := wXi hC 2
 have e3 := wXi hC 3
 have e4 := wXi hC 4
 have e5 := wXi hC 5
 have E := E4; try simp only [LM, zAd] at E
 rw [zAe hL]
 simp only [SP, Nat.zero_add, Nat.reduceAdd]
 rw [e0, e1, e2, e3, e4, e5]
 clear e0 e1 e2 e3 e4 e5 hC hn E4 hL vs L nb
 go_upto_region 4 with (fail)
 refine rg [Fq.is (.int .i64 (cmpI (Int.natAbs b : Int) a)), yT, yT, Fq.is (.int .i64 (cmpI a c)), yF, yF, yF, ip b1 2, Fq.num b, Fq.is (.int .i64 (cmpI b 0)), yF, yF, yF] [none] [] E (fun hp => ⟨?_, ?_, ?_, ?_, ?_, ?_, ?_, ?_, ?_, ?_, ?_, ?_, ?_, tv⟩) ?_
 ·exact zAa hp fo tv (sqo 3)
 ·exact zAf (F := fun v _ => v = .int .i64 (cmpI (Int.natAbs b : Int) a)) hp fo tv (sqi 0) (fun ρ w hc h => ⟨.bool true, by simp [execOp, go_sem, h, hc, T3.out], rfl⟩)
 ·exact zAa hp fo tv (sqi 1)
 ·exact zAa hp fo gqi (sqo 4)
 ·exact zAf (F := fun v _ => v = .int .i64 (cmpI a c)) hp fo gqi (sqi 3) (fun ρ w hc h => ⟨.bool false, by simp [execOp, go_sem, h, hc, T4.out], rfl⟩)
 ·exact zAg (F := fun v _ => v = .bool true) (G := fun v _ => v = .bool false) hp fo tv (sqi 2) (sqi 4) (fun ρ w hc h h' => ⟨_, by simp [execOp, go_sem, h, h'], rfl⟩)
 ·exact zAa hp fo tv (sqi 5)
 ·exact zAl (b := b1) (off := 0) (off' := 2) hp fo gqi (sqo 1) (fun ρ w h => by simp [execOp, go_sem, h]) (fun _ => rfl)
 ·exact lG 2 2 hp gqi (mq 0 rfl) zAc (sqi 7) fun v w h => zAk h
 ·exact zAn (F := (Fq.num b).P) hp fo gqi (zCg) (sqi 8) (fun v w h => zCh h)
 ·exact zAf (F := fun v _ => v = .int .i64 (cmpI b 0)) hp fo gqi (sqi 9) (fun ρ w hc h => ⟨.bool false, by simp [execOp, go_sem, h, hc, T5.out], rfl⟩)
 ·exact zAg (F := fun v _ => v = .bool false) (G := fun v _ => v = .bool false) hp fo tv (sqi 6) (sqi 10) (fun ρ w hc h h' => ⟨_, by simp [execOp, go_sem, h, h'], rfl⟩)
 ·exact zAh hp fo tv (sqi 11)
 intro L vs w5 nb hL hC hn E5
 have e0 := wXi hC 0
 have e1 := wXi hC 1
 have e2 := wXi hC 2
 have e3 := wXi hC 3
 have e4 := wXi hC 4
 have e5 := wXi hC 5
 have e6 := wXi hC 6
 have e7 := wXi hC 7
 have e9 := wXi hC 9
 have e10 := wXi hC 10
 have e11 := wXi hC 11
 have e12 := wXi hC 12
 have E := E5; try simp only [LM, zAd] at E
 rw [zAe hL]
 simp only [SP, Nat.zero_add, Nat.reduceAdd]
 rw [e0, e1, e2, e3, e4, e5, e6, e7, e9, e10, e11, e12]
 generalize vs 8 = u5_8
 clear e0 e1 e2 e3 e4 e5 e6 e7 e9 e10 e11 e12 hC hn E5 hL vs L nb
 clear  T1 T2 T3 T4 T5
 clear B2 ha hb hc
 go_wp2
 refine bodyPost_ret (v := .bool false) ?_ rfl ⟨_, rfl, E.below, rfl⟩
 simp [results, Tryz.results66, go_sem]

set_option maxRecDepth 100000 in
set_option maxHeartbeats 4000000 in
theorem zNi {w : World} {v : Value} {a b c : Int} (h : (Fq.st [.n a, .n b, .n c]).P v w) (ha : ab a < pw 60) (hb : ab b < pw 60) (hc : ab c < pw 60) (hx : ¬ a < (Int.natAbs b : Int)) (hy : a ≤ c) (k0 : (Int.natAbs b : Int) < a) (k1 : ¬ a < c) (k2 : 0 ≤ b) {t : Bool} (ht : redB a b c = t) :
  Calls Tryz.prog 66 #[v] w fun e w' => ∃ v', e = .returned v' ∧ Below w.heap.size w w' ∧ v' = .bool t := by
 replace ha := hidd ha
 replace hb := hidd hb
 replace hc := hidd hc
 have ht2 : t = true := ht.symm.trans (by unfold redB; exact decide_eq_true (by omega))
 subst ht2
 clear ht
 have T1 : Hid (¬ 0 < cmpI (Int.natAbs b : Int) a) := fun e => by have := cmpIqgt.1 e; omega
 have T2 : Hid (¬ 0 < cmpI a c) := fun e => by have := cmpIqgt.1 e; omega
 have T3 : Hid (cmpI (Int.natAbs b : Int) a < 0) := cmpIqlt.2 k0
 have T4 : Hid (¬ cmpI a c < 0) := fun e => k1 (cmpIqlt.1 e)
 have T5 : Hid (0 ≤ cmpI b 0) := by have := mt cmpIqlt.1 (show ¬ b < 0 by omega); show _ ≤ _; omega
 clear hx hy k0 k1 k2
 obtain ⟨_, rfl, hf0⟩ := h
 have hF0 := hf0
 obtain ⟨y0_p0, y0_q0, _, rfl, _y0_n0, y0_p1, y0_q1, _, rfl, _y0_n1, y0_p2, y0_q2, _, rfl, _y0_n2, rfl⟩ := hf0
 obtain ⟨w1, b1, hw1, hb1, hs1, E⟩ := gS w 33 hF0
 go_enter Tryz.func66, Tryz.ntmps66
 go_upto_region 1 with (fail)
 rw [← hw1]
 rw [← hb1]
 clear hw1 hb1 hs1
 have B2 : Hid (ab ((Int.natAbs b : Int)) < pw 60) := zBg hb.out
 refine rg [ip b1 2, Fq.num b, Fq.num (Int.natAbs b : Int), ip b1 0, Fq.num a, Fq.is (.int .i64 (cmpI (Int.natAbs b : Int) a)), ip b1 0, Fq.num a, ip b1 4, Fq.num c, Fq.is (.int .i64 (cmpI a c)), Fq.is (.int .i64 (cmpI (Int.natAbs b : Int) a)), Fq.is (.int .i64 (cmpI a c))] [none] [] E (fun hp => ⟨?_, ?_, ?_, ?_, ?_, ?_, ?_, ?_, ?_, ?_, ?_, ?_, ?_, tv⟩) ?_
 ·exact qa b1 0 2 hp (sqo 1)
 ·exact lN 2 2 hp (mq 0 rfl) zAc (sqi 0)
 ·exact wXa (Fq.num b) hp zD2 (sqi 1) fun v w h => exK (AbsV h) B2.out (by omega)
 ·exact qa b1 0 0 hp (sqo 1)
 ·exact lN 0 2 hp (mq 0 rfl) zAc (sqi 3)
 ·exact wXb (Fq.num (Int.natAbs b : Int)) (Fq.num a) hp zA8 (sqi 2) (sqi 4) fun v v' w h h' => zA9 h h'
 ·exact qa b1 0 0 hp (sqo 1)
 ·exact lN 0 2 hp (mq 0 rfl) zAc (sqi 6)
 ·exact qa b1 0 4 hp (sqo 1)
 ·exact lN 4 2 hp (mq 0 rfl) zAc (sqi 8)
 ·exact wXb (Fq.num a) (Fq.num c) hp zA8 (sqi 7) (sqi 9) fun v v' w h h' => zA9 h h'
 ·exact zAh hp fo tv (sqi 5)
 ·exact zAh hp fo tv (sqi 10)
 intro L vs w3 nb hL hC hn E3
 have e0 := wXi hC 0
 have e3 := wXi hC 3
 have e5 := wXi hC 5
 have e6 := wXi hC 6
 have e8 := wXi hC 8
 have e10 := wXi hC 10
 have e11 := wXi hC 11
 have e12 := wXi hC 12
 have E := E3; try simp only [LM, zAd] at E
 rw [zAe hL]
 simp only [SP, Nat.zero_add, Nat.reduceAdd]
 rw [e0, e3, e5, e6, e8, e10, e11, e12]
 generalize vs 1 = u3_1
 generalize vs 2 = u3_2
 generalize vs 4 = u3_4
 generalize vs 7 = u3_7
 generalize vs 9 = u3_9
 clear e0 e3 e5 e6 e8 e10 e11 e12 hC hn E3 hL vs L nb
 go_upto_region 2 with (fail)
 refine rg [Fq.is (.int .i64 (cmpI (Int.natAbs b : Int) a)), yF, yF, Fq.is (.int .i64 (cmpI a c)), yF, yF] [none] [] E (fun hp => ⟨?_, ?_, ?_, ?_, ?_, ?_, tv⟩) ?_
 ·exact zAa hp fo tv (sqo 3)
 ·exact zAf (F := fun v _ => v = .int .i64 (cmpI (Int.natAbs b : Int) a)) hp fo tv (sqi 0) (fun ρ w hc h => ⟨.bool false, by simp [execOp, go_sem, h, hc, T1.out], rfl⟩)
 ·exact zAa hp fo tv (sqi 1)
 ·exact zAa hp fo gqi (sqo 4)
 ·exact zAf (F := fun v _ => v = .int .i64 (cmpI a c)) hp fo gqi (sqi 3) (fun ρ w hc h => ⟨.bool false, by simp [execOp, go_sem, h, hc, T2.out], rfl⟩)
 ·exact zAg (F := fun v _ => v = .bool false) (G := fun v _ => v = .bool false) hp fo tv (sqi 2) (sqi 4) (fun ρ w hc h h' => ⟨_, by simp [execOp, go_sem, h, h'], rfl⟩)
 intro L vs w4 nb hL hC hn E4
 have e0 := wXi hC 0
 have e1 := wXi hC 1
 have e2 := wXi hC 2
 have e3 := wXi hC 3
 have e4 := wXi hC 4
 have e5 := wXi hC 5
 have E := E4; try simp only [LM, zAd] at E
 rw [zAe hL]
 simp only [SP, Nat.zero_add, Nat.reduceAdd]
 rw [e0, e1, e2, e3, e4, e5]
 clear e0 e1 e2 e3 e4 e5 hC hn E4 hL vs L nb
 go_upto_region 4 with (fail)
 refine rg [Fq.is (.int .i64 (cmpI (Int.natAbs b : Int) a)), yT, yT, Fq.is (.int .i64 (cmpI a c)), yF, yF, yF, ip b1 2, Fq.num b, Fq.is (.int .i64 (cmpI b 0)), yT, yT, yT] [none] [] E (fun hp => ⟨?_, ?_, ?_, ?_, ?_, ?_, ?_, ?_, ?_, ?_, ?_, ?_, ?_, tv⟩) ?_
 ·exact zAa hp fo tv (sqo 3)
 ·exact zAf (F := fun v _ => v = .int .i64 (cmpI (Int.natAbs b : Int) a)) hp fo tv (sqi 0) (fun ρ w hc h => ⟨.bool true, by simp [execOp, go_sem, h, hc, T3.out], rfl⟩)
 ·exact zAa hp fo tv (sqi 1)
 ·exact zAa hp fo gqi (sqo 4)
 ·exact zAf (F := fun v _ => v = .int .i64 (cmpI a c)) hp fo gqi (sqi 3) (fun ρ w hc h => ⟨.bool false, by simp [execOp, go_sem, h, hc, T4.out], rfl⟩)
 ·exact zAg (F := fun v _ => v = .bool true) (G := fun v _ => v = .bool false) hp fo tv (sqi 2) (sqi 4) (fun ρ w hc h h' => ⟨_, by simp [execOp, go_sem, h, h'], rfl⟩)
 ·exact zAa hp fo tv (sqi 5)
 ·exact zAl (b := b1) (off := 0) (off' := 2) hp fo gqi (sqo 1) (fun ρ w h => by simp [execOp, go_sem, h]) (fun _ => rfl)
 ·exact lG 2 2 hp gqi (mq 0 rfl) zAc (sqi 7) fun v w h => zAk h
 ·exact zAn (F := (Fq.num b).P) hp fo gqi (zCg) (sqi 8) (fun v w h => zCh h)
 ·exact zAf (F := fun v _ => v = .int .i64 (cmpI b 0)) hp fo gqi (sqi 9) (fun ρ w hc h => ⟨.bool true, by simp [execOp, go_sem, h, hc, T5.out], rfl⟩)
 ·exact zAg (F := fun v _ => v = .bool false) (G := fun v _ => v = .bool true) hp fo tv (sqi 6) (sqi 10) (fun ρ w hc h h' => ⟨_, by simp [execOp, go_sem, h, h'], rfl⟩)
 ·exact zAh hp fo tv (sqi 11)
 intro L vs w5 nb hL hC hn E5
 have e0 := wXi hC 0
 have e1 := wXi hC 1
 have e2 := wXi hC 2
 have e3 := wXi hC 3
 have e4 := wXi hC 4
 have e5 := wXi hC 5
 have e6 := wXi hC 6
 have e7 := wXi hC 7
 have e9 := wXi hC 9
 have e10 := wXi hC 10
 have e11 := wXi hC 11
 have e12 := wXi hC 12
 have E := E5; try simp only [LM, zAd] at E
 rw [zAe hL]
 simp only [SP, Nat.zero_add, Nat.reduceAdd]
 rw [e0, e1, e2, e3, e4, e5, e6, e7, e9, e10, e11, e12]
 generalize vs 8 = u5_8
 clear e0 e1 e2 e3 e4 e5 e6 e7 e9 e10 e11 e12 hC hn E5 hL vs L nb
 clear  T1 T2 T3 T4 T5
 clear B2 ha hb hc
 go_wp2
 refine bodyPost_ret (v := .bool true) ?_ rfl ⟨_, rfl, E.below, rfl⟩
 simp [results, Tryz.results66, go_sem]

set_option maxRecDepth 100000 in
set_option maxHeartbeats 4000000 in
theorem zNf {w : World} {v : Value} {a b c : Int} (h : (Fq.st [.n a, .n b, .n c]).P v w) (ha : ab a < pw 60) (hb : ab b < pw 60) (hc : ab c < pw 60) (hx : ¬ a < (Int.natAbs b : Int)) (hy : a ≤ c) (k0 : ¬ (Int.natAbs b : Int) < a) (k1 : a < c) (k2 : ¬ 0 ≤ b) {t : Bool} (ht : redB a b c = t) :
  Calls Tryz.prog 66 #[v] w fun e w' => ∃ v', e = .returned v' ∧ Below w.heap.size w w' ∧ v' = .bool t := by
 replace ha := hidd ha
 replace hb := hidd hb
 replace hc := hidd hc
 have ht2 : t = false := ht.symm.trans (by unfold redB; exact decide_eq_false (by omega))
 subst ht2
 clear ht
 have T1 : Hid (¬ 0 < cmpI (Int.natAbs b : Int) a) := fun e => by have := cmpIqgt.1 e; omega
 have T2 : Hid (¬ 0 < cmpI a c) := fun e => by have := cmpIqgt.1 e; omega
 have T3 : Hid (¬ cmpI (Int.natAbs b : Int) a < 0) := fun e => k0 (cmpIqlt.1 e)
 have T5 : Hid (¬ 0 ≤ cmpI b 0) := by have := cmpIqlt.2 (show b < 0 by omega); show ¬ _ ≤ _; omega
 clear hx hy k0 k1 k2
 obtain ⟨_, rfl, hf0⟩ := h
 have hF0 := hf0
 obtain ⟨y0_p0, y0_q0, _, rfl, _y0_n0, y0_p1, y0_q1, _, rfl, _y0_n1, y0_p2, y0_q2, _, rfl, _y0_n2, rfl⟩ := hf0
 obtain ⟨w1, b1, hw1, hb1, hs1, E⟩ := gS w 33 hF0
 go_enter Tryz.func66, Tryz.ntmps66
 go_upto_region 1 with (fail)
 rw [← hw1]
 rw [← hb1]
 clear hw1 hb1 hs1
 have B2 : Hid (ab ((Int.natAbs b : Int)) < pw 60) := zBg hb.out
 refine rg [ip b1 2, Fq.num b, Fq.num (Int.natAbs b : Int), ip b1 0, Fq.num a, Fq.is (.int .i64 (cmpI (Int.natAbs b : Int) a)), ip b1 0, Fq.num a, ip b1 4, Fq.num c, Fq.is (.int .i64 (cmpI a c)), Fq.is (.int .i64 (cmpI (Int.natAbs b : Int) a)), Fq.is (.int .i64 (cmpI a c))] [none] [] E (fun hp => ⟨?_, ?_, ?_, ?_, ?_, ?_, ?_, ?_, ?_, ?_, ?_, ?_, ?_, tv⟩) ?_
 ·exact qa b1 0 2 hp (sqo 1)
 ·exact lN 2 2 hp (mq 0 rfl) zAc (sqi 0)
 ·exact wXa (Fq.num b) hp zD2 (sqi 1) fun v w h => exK (AbsV h) B2.out (by omega)
 ·exact qa b1 0 0 hp (sqo 1)
 ·exact lN 0 2 hp (mq 0 rfl) zAc (sqi 3)
 ·exact wXb (Fq.num (Int.natAbs b : Int)) (Fq.num a) hp zA8 (sqi 2) (sqi 4) fun v v' w h h' => zA9 h h'
 ·exact qa b1 0 0 hp (sqo 1)
 ·exact lN 0 2 hp (mq 0 rfl) zAc (sqi 6)
 ·exact qa b1 0 4 hp (sqo 1)
 ·exact lN 4 2 hp (mq 0 rfl) zAc (sqi 8)
 ·exact wXb (Fq.num a) (Fq.num c) hp zA8 (sqi 7) (sqi 9) fun v v' w h h' => zA9 h h'
 ·exact zAh hp fo tv (sqi 5)
 ·exact zAh hp fo tv (sqi 10)
 intro L vs w3 nb hL hC hn E3
 have e0 := wXi hC 0
 have e3 := wXi hC 3
 have e5 := wXi hC 5
 have e6 := wXi hC 6
 have e8 := wXi hC 8
 have e10 := wXi hC 10
 have e11 := wXi hC 11
 have e12 := wXi hC 12
 have E := E3; try simp only [LM, zAd] at E
 rw [zAe hL]
 simp only [SP, Nat.zero_add, Nat.reduceAdd]
 rw [e0, e3, e5, e6, e8, e10, e11, e12]
 generalize vs 1 = u3_1
 generalize vs 2 = u3_2
 generalize vs 4 = u3_4
 generalize vs 7 = u3_7
 generalize vs 9 = u3_9
 clear e0 e3 e5 e6 e8 e10 e11 e12 hC hn E3 hL vs L nb
 go_upto_region 2 with (fail)
 refine rg [Fq.is (.int .i64 (cmpI (Int.natAbs b : Int) a)), yF, yF, Fq.is (.int .i64 (cmpI a c)), yF, yF] [none] [] E (fun hp => ⟨?_, ?_, ?_, ?_, ?_, ?_, tv⟩) ?_
 ·exact zAa hp fo tv (sqo 3)
 ·exact zAf (F := fun v _ => v = .int .i64 (cmpI (Int.natAbs b : Int) a)) hp fo tv (sqi 0) (fun ρ w hc h => ⟨.bool false, by simp [execOp, go_sem, h, hc, T1.out], rfl⟩)
 ·exact zAa hp fo tv (sqi 1)
 ·exact zAa hp fo gqi (sqo 4)
 ·exact zAf (F := fun v _ => v = .int .i64 (cmpI a c)) hp fo gqi (sqi 3) (fun ρ w hc h => ⟨.bool false, by simp [execOp, go_sem, h, hc, T2.out], rfl⟩)
 ·exact zAg (F := fun v _ => v = .bool false) (G := fun v _ => v = .bool false) hp fo tv (sqi 2) (sqi 4) (fun ρ w hc h h' => ⟨_, by simp [execOp, go_sem, h, h'], rfl⟩)
 intro L vs w4 nb hL hC hn E4
 have e0 := wXi hC 0
 have e1 := wXi hC 1
 have e2 := wXi hC 2
 have e3 := wXi hC 3
 have e4 := wXi hC 4
 have e5 := wXi hC 5
 have E := E4; try simp only [LM, zAd] at E
 rw [zAe hL]
 simp only [SP, Nat.zero_add, Nat.reduceAdd]
 rw [e0, e1, e2, e3, e4, e5]
 clear e0 e1 e2 e3 e4 e5 hC hn E4 hL vs L nb
 go_upto_region 4 with (fail)
 refine rg [Fq.is (.int .i64 (cmpI (Int.natAbs b : Int) a)), yF, yF, Fq.is (undef), Fq.is (undef), yF, yF, ip b1 2, Fq.num b, Fq.is (.int .i64 (cmpI b 0)), yF, yF, yF] [none] [] E (fun hp => ⟨?_, ?_, ?_, ?_, ?_, ?_, ?_, ?_, ?_, ?_, ?_, ?_, ?_, tv⟩) ?_
 ·exact zAa hp fo tv (sqo 3)
 ·exact zAf (F := fun v _ => v = .int .i64 (cmpI (Int.natAbs b : Int) a)) hp fo tv (sqi 0) (fun ρ w hc h => ⟨.bool false, by simp [execOp, go_sem, h, hc, T3.out], rfl⟩)
 ·exact zAa hp fo tv (sqi 1)
 ·exact zAi hp fo rfl gqi (fun _ => rfl)
 ·exact zAi hp fo rfl gqi (fun _ => rfl)
 ·exact zAg (F := fun v _ => v = .bool false) (G := fun v _ => v = .bool false) hp fo tv (sqi 2) (zAj (fun _ => rfl)) (fun ρ w hc h h' => ⟨_, by simp [execOp, go_sem, h, h'], rfl⟩)
 ·exact zAa hp fo tv (sqi 5)
 ·exact zAl (b := b1) (off := 0) (off' := 2) hp fo gqi (sqo 1) (fun ρ w h => by simp [execOp, go_sem, h]) (fun _ => rfl)
 ·exact lG 2 2 hp gqi (mq 0 rfl) zAc (sqi 7) fun v w h => zAk h
 ·exact zAn (F := (Fq.num b).P) hp fo gqi (zCg) (sqi 8) (fun v w h => zCh h)
 ·exact zAf (F := fun v _ => v = .int .i64 (cmpI b 0)) hp fo gqi (sqi 9) (fun ρ w hc h => ⟨.bool false, by simp [execOp, go_sem, h, hc, T5.out], rfl⟩)
 ·exact zAg (F := fun v _ => v = .bool false) (G := fun v _ => v = .bool false) hp fo tv (sqi 6) (sqi 10) (fun ρ w hc h h' => ⟨_, by simp [execOp, go_sem, h, h'], rfl⟩)
 ·exact zAh hp fo tv (sqi 11)
 intro L vs w5 nb hL hC hn E5
 have e0 := wXi hC 0
 have e1 := wXi hC 1
 have e2 := wXi hC 2
 have e3 := wXi hC 3
 have e4 := wXi hC 4
 have e5 := wXi hC 5
 have e6 := wXi hC 6
 have e7 := wXi hC 7
 have e9 := wXi hC 9
 have e10 := wXi hC 10
 have e11 := wXi hC 11
 have e12 := wXi hC 12
 have E := E5; try simp only [LM, zAd] at E
 rw [zAe hL]
 simp only [SP, Nat.zero_add, Nat.reduceAdd]
 rw [e0, e1, e2, e3, e4, e5, e6, e7, e9, e10, e11, e12]
 generalize vs 8 = u5_8
 clear e0 e1 e2 e3 e4 e5 e6 e7 e9 e10 e11 e12 hC hn E5 hL vs L nb
 clear  T1 T2 T3 T5
 clear B2 ha hb hc
 go_wp2
 refine bodyPost_ret (v := .bool false) ?_ rfl ⟨_, rfl, E.below, rfl⟩
 simp [results, Tryz.results66, go_sem]

set_option maxRecDepth 100000 in
set_option maxHeartbeats 4000000 in
theorem zNg {w : World} {v : Value} {a b c : Int} (h : (Fq.st [.n a, .n b, .n c]).P v w) (ha : ab a < pw 60) (hb : ab b < pw 60) (hc : ab c < pw 60) (hx : ¬ a < (Int.natAbs b : Int)) (hy : a ≤ c) (k0 : ¬ (Int.natAbs b : Int) < a) (k1 : a < c) (k2 : 0 ≤ b) {t : Bool} (ht : redB a b c = t) :
  Calls Tryz.prog 66 #[v] w fun e w' => ∃ v', e = .returned v' ∧ Below w.heap.size w w' ∧ v' = .bool t := by
 replace ha := hidd ha
 replace hb := hidd hb
 replace hc := hidd hc
 have ht2 : t = true := ht.symm.trans (by unfold redB; exact decide_eq_true (by omega))
 subst ht2
 clear ht
 have T1 : Hid (¬ 0 < cmpI (Int.natAbs b : Int) a) := fun e => by have := cmpIqgt.1 e; omega
 have T2 : Hid (¬ 0 < cmpI a c) := fun e => by have := cmpIqgt.1 e; omega
 have T3 : Hid (¬ cmpI (Int.natAbs b : Int) a < 0) := fun e => k0 (cmpIqlt.1 e)
 have T5 : Hid (0 ≤ cmpI b 0) := by have := mt cmpIqlt.1 (show ¬ b < 0 by omega); show _ ≤ _; omega
 clear hx hy k0 k1 k2
 obtain ⟨_, rfl, hf0⟩ := h
 have hF0 := hf0
 obtain ⟨y0_p0, y0_q0, _, rfl, _y0_n0, y0_p1, y0_q1, _, rfl, _y0_n1, y0_p2, y0_q2, _, rfl, _y0_n2, rfl⟩ := hf0
 obtain ⟨w1, b1, hw1, hb1, hs1, E⟩ := gS w 33 hF0
 go_enter Tryz.func66, Tryz.ntmps66
 go_upto_region 1 with (fail)
 rw [← hw1]
 rw [← hb1]
 clear hw1 hb1 hs1
 have B2 : Hid (ab ((Int.natAbs b : Int)) < pw 60) := zBg hb.out
 refine rg [ip b1 2, Fq.num b, Fq.num (Int.natAbs b : Int), ip b1 0, Fq.num a, Fq.is (.int .i64 (cmpI (Int.natAbs b : Int) a)), ip b1 0, Fq.num a, ip b1 4, Fq.num c, Fq.is (.int .i64 (cmpI a c)), Fq.is (.int .i64 (cmpI (Int.natAbs b : Int) a)), Fq.is (.int .i64 (cmpI a c))] [none] [] E (fun hp => ⟨?_, ?_, ?_, ?_, ?_, ?_, ?_, ?_, ?_, ?_, ?_, ?_, ?_, tv⟩) ?_
 ·exact qa b1 0 2 hp (sqo 1)
 ·exact lN 2 2 hp (mq 0 rfl) zAc (sqi 0)
 ·exact wXa (Fq.num b) hp zD2 (sqi 1) fun v w h => exK (AbsV h) B2.out (by omega)
 ·exact qa b1 0 0 hp (sqo 1)
 ·exact lN 0 2 hp (mq 0 rfl) zAc (sqi 3)
 ·exact wXb (Fq.num (Int.natAbs b : Int)) (Fq.num a) hp zA8 (sqi 2) (sqi 4) fun v v' w h h' => zA9 h h'
 ·exact qa b1 0 0 hp (sqo 1)
 ·exact lN 0 2 hp (mq 0 rfl) zAc (sqi 6)
 ·exact qa b1 0 4 hp (sqo 1)
 ·exact lN 4 2 hp (mq 0 rfl) zAc (sqi 8)
 ·exact wXb (Fq.num a) (Fq.num c) hp zA8 (sqi 7) (sqi 9) fun v v' w h h' => zA9 h h'
 ·exact zAh hp fo tv (sqi 5)
 ·exact zAh hp fo tv (sqi 10)
 intro L vs w3 nb hL hC hn E3
 have e0 := wXi hC 0
 have e3 := wXi hC 3
 have e5 := wXi hC 5
 have e6 := wXi hC 6
 have e8 := wXi hC 8
 have e10 := wXi hC 10
 have e11 := wXi hC 11
 have e12 := wXi hC 12
 have E := E3; try simp only [LM, zAd] at E
 rw [zAe hL]
 simp only [SP, Nat.zero_add, Nat.reduceAdd]
 rw [e0, e3, e5, e6, e8, e10, e11, e12]
 generalize vs 1 = u3_1
 generalize vs 2 = u3_2
 generalize vs 4 = u3_4
 generalize vs 7 = u3_7
 generalize vs 9 = u3_9
 clear e0 e3 e5 e6 e8 e10 e11 e12 hC hn E3 hL vs L nb
 go_upto_region 2 with (fail)
 refine rg [Fq.is (.int .i64 (cmpI (Int.natAbs b : Int) a)), yF, yF, Fq.is (.int .i64 (cmpI a c)), yF, yF] [none] [] E (fun hp => ⟨?_, ?_, ?_, ?_, ?_, ?_, tv⟩) ?_
 ·exact zAa hp fo tv (sqo 3)
 ·exact zAf (F := fun v _ => v = .int .i64 (cmpI (Int.natAbs b : Int) a)) hp fo tv (sqi 0) (fun ρ w hc h => ⟨.bool false, by simp [execOp, go_sem, h, hc, T1.out], rfl⟩)
 ·exact zAa hp fo tv (sqi 1)
 ·exact zAa hp fo gqi (sqo 4)
 ·exact zAf (F := fun v _ => v = .int .i64 (cmpI a c)) hp fo gqi (sqi 3) (fun ρ w hc h => ⟨.bool false, by simp [execOp, go_sem, h, hc, T2.out], rfl⟩)
 ·exact zAg (F := fun v _ => v = .bool false) (G := fun v _ => v = .bool false) hp fo tv (sqi 2) (sqi 4) (fun ρ w hc h h' => ⟨_, by simp [execOp, go_sem, h, h'], rfl⟩)
 intro L vs w4 nb hL hC hn E4
 have e0 := wXi hC 0
 have e1 := wXi hC 1
 have e2 := wXi hC 2
 have e3 := wXi hC 3
 have e4 := wXi hC 4
 have e5 := wXi hC 5
 have E := E4; try simp only [LM, zAd] at E
 rw [zAe hL]
 simp only [SP, Nat.zero_add, Nat.reduceAdd]
 rw [e0, e1, e2, e3, e4, e5]
 clear e0 e1 e2 e3 e4 e5 hC hn E4 hL vs L nb
 go_upto_region 4 with (fail)
 refine rg [Fq.is (.int .i64 (cmpI (Int.natAbs b : Int) a)), yF, yF, Fq.is (undef), Fq.is (undef), yF, yF, ip b1 2, Fq.num b, Fq.is (.int .i64 (cmpI b 0)), yT, yT, yT] [none] [] E (fun hp => ⟨?_, ?_, ?_, ?_, ?_, ?_, ?_, ?_, ?_, ?_, ?_, ?_, ?_, tv⟩) ?_
 ·exact zAa hp fo tv (sqo 3)
 ·exact zAf (F := fun v _ => v = .int .i64 (cmpI (Int.natAbs b : Int) a)) hp fo tv (sqi 0) (fun ρ w hc h => ⟨.bool false, by simp [execOp, go_sem, h, hc, T3.out], rfl⟩)
 ·exact zAa hp fo tv (sqi 1)
 ·exact zAi hp fo rfl gqi (fun _ => rfl)
 ·exact zAi hp fo rfl gqi (fun _ => rfl)
 ·exact zAg (F := fun v _ => v = .bool false) (G := fun v _ => v = .bool false) hp fo tv (sqi 2) (zAj (fun _ => rfl)) (fun ρ w hc h h' => ⟨_, by simp [execOp, go_sem, h, h'], rfl⟩)
 ·exact zAa hp fo tv (sqi 5)
 ·exact zAl (b := b1) (off := 0) (off' := 2) hp fo gqi (sqo 1) (fun ρ w h => by simp [execOp, go_sem, h]) (fun _ => rfl)
 ·exact lG 2 2 hp gqi (mq 0 rfl) zAc (sqi 7) fun v w h => zAk h
 ·exact zAn (F := (Fq.num b).P) hp fo gqi (zCg) (sqi 8) (fun v w h => zCh h)
 ·exact zAf (F := fun v _ => v = .int .i64 (cmpI b 0)) hp fo gqi (sqi 9) (fun ρ w hc h => ⟨.bool true, by simp [execOp, go_sem, h, hc, T5.out], rfl⟩)
 ·exact zAg (F := fun v _ => v = .bool false) (G := fun v _ => v = .bool true) hp fo tv (sqi 6) (sqi 10) (fun ρ w hc h h' => ⟨_, by simp [execOp, go_sem, h, h'], rfl⟩)
 ·exact zAh hp fo tv (sqi 11)
 intro L vs w5 nb hL hC hn E5
 have e0 := wXi hC 0
 have e1 := wXi hC 1
 have e2 := wXi hC 2
 have e3 := wXi hC 3
 have e4 := wXi hC 4
 have e5 := wXi hC 5
 have e6 := wXi hC 6
 have e7 := wXi hC 7
 have e9 := wXi hC 9
 have e10 := wXi hC 10
 have e11 := wXi hC 11
 have e12 := wXi hC 12
 have E := E5; try simp only [LM, zAd] at E
 rw [zAe hL]
 simp only [SP, Nat.zero_add, Nat.reduceAdd]
 rw [e0, e1, e2, e3, e4, e5, e6, e7, e9, e10, e11, e12]
 generalize vs 8 = u5_8
 clear e0 e1 e2 e3 e4 e5 e6 e7 e9 e10 e11 e12 hC hn E5 hL vs L nb
 clear  T1 T2 T3 T5
 clear B2 ha hb hc
 go_wp2
 refine bodyPost_ret (v := .bool true) ?_ rfl ⟨_, rfl, E.below, rfl⟩
 simp [results, Tryz.results66, go_sem]

set_option maxRecDepth 100000 in
set_option maxHeartbeats 4000000 in
theorem zNd {w : World} {v : Value} {a b c : Int} (h : (Fq.st [.n a, .n b, .n c]).P v w) (ha : ab a < pw 60) (hb : ab b < pw 60) (hc : ab c < pw 60) (hx : ¬ a < (Int.natAbs b : Int)) (hy : a ≤ c) (k0 : ¬ (Int.natAbs b : Int) < a) (k1 : ¬ a < c) (k2 : ¬ 0 ≤ b) {t : Bool} (ht : redB a b c = t) :
  Calls Tryz.prog 66 #[v] w fun e w' => ∃ v', e = .returned v' ∧ Below w.heap.size w w' ∧ v' = .bool t := by
 replace ha := hidd ha
 replace hb := hidd hb
 replace hc := hidd hc
 have ht2 : t = false := ht.symm.trans (by unfold redB; exact decide_eq_false (by omega))
 subst ht2
 clear ht
 have T1 : Hid (¬ 0 < cmpI (Int.natAbs b : Int) a) := fun e => by have := cmpIqgt.1 e; omega
 have T2 : Hid (¬ 0 < cmpI a c) := fun e => by have := cmpIqgt.1 e; omega
 have T3 : Hid (¬ cmpI (Int.natAbs b : Int) a < 0) := fun e => k0 (cmpIqlt.1 e)
 have T5 : Hid (¬ 0 ≤ cmpI b 0) := by have := cmpIqlt.2 (show b < 0 by omega); show ¬ _ ≤ _; omega
 clear hx hy k0 k1 k2
 obtain ⟨_, rfl, hf0⟩ := h
 have hF0 := hf0
 obtain ⟨y0_p0, y0_q0, _, rfl, _y0_n0, y0_p1, y0_q1, _, rfl, _y0_n1, y0_p2, y0_q2, _, rfl, _y0_n2, rfl⟩ := hf0
 obtain ⟨w1, b1, hw1, hb1, hs1, E⟩ := gS w 33 hF0
 go_enter Tryz.func66, Tryz.ntmps66
 go_upto_region 1 with (fail)
 rw [← hw1]
 rw [← hb1]
 clear hw1 hb1 hs1
 have B2 : Hid (ab ((Int.natAbs b : Int)) < pw 60) := zBg hb.out
 refine rg [ip b1 2, Fq.num b, Fq.num (Int.natAbs b : Int), ip b1 0, Fq.num a, Fq.is (.int .i64 (cmpI (Int.natAbs b : Int) a)), ip b1 0, Fq.num a, ip b1 4, Fq.num c, Fq.is (.int .i64 (cmpI a c)), Fq.is (.int .i64 (cmpI (Int.natAbs b : Int) a)), Fq.is (.int .i64 (cmpI a c))] [none] [] E (fun hp => ⟨?_, ?_, ?_, ?_, ?_, ?_, ?_, ?_, ?_, ?_, ?_, ?_, ?_, tv⟩) ?_
 ·exact qa b1 0 2 hp (sqo 1)
 ·exact lN 2 2 hp (mq 0 rfl) zAc (sqi 0)
 ·exact wXa (Fq.num b) hp zD2 (sqi 1) fun v w h => exK (AbsV h) B2.out (by omega)
 ·exact qa b1 0 0 hp (sqo 1)
 ·exact lN 0 2 hp (mq 0 rfl) zAc (sqi 3)
 ·exact wXb (Fq.num (Int.natAbs b : Int)) (Fq.num a) hp zA8 (sqi 2) (sqi 4) fun v v' w h h' => zA9 h h'
 ·exact qa b1 0 0 hp (sqo 1)
 ·exact lN 0 2 hp (mq 0 rfl) zAc (sqi 6)
 ·exact qa b1 0 4 hp (sqo 1)
 ·exact lN 4 2 hp (mq 0 rfl) zAc (sqi 8)
 ·exact wXb (Fq.num a) (Fq.num c) hp zA8 (sqi 7) (sqi 9) fun v v' w h h' => zA9 h h'
 ·exact zAh hp fo tv (sqi 5)
 ·exact zAh hp fo tv (sqi 10)
 intro L vs w3 nb hL hC hn E3
 have e0 := wXi hC 0
 have e3 := wXi hC 3
 have e5 := wXi hC 5
 have e6 := wXi hC 6
 have e8 := wXi hC 8
 have e10 := wXi hC 10
 have e11 := wXi hC 11
 have e12 := wXi hC 12
 have E := E3; try simp only [LM, zAd] at E
 rw [zAe hL]
 simp only [SP, Nat.zero_add, Nat.reduceAdd]
 rw [e0, e3, e5, e6, e8, e10, e11, e12]
 generalize vs 1 = u3_1
 generalize vs 2 = u3_2
 generalize vs 4 = u3_4
 generalize vs 7 = u3_7
 generalize vs 9 = u3_9
 clear e0 e3 e5 e6 e8 e10 e11 e12 hC hn E3 hL vs L nb
 go_upto_region 2 with (fail)
 refine rg [Fq.is (.int .i64 (cmpI (Int.natAbs b : Int) a)), yF, yF, Fq.is (.int .i64 (cmpI a c)), yF, yF] [none] [] E (fun hp => ⟨?_, ?_, ?_, ?_, ?_, ?_, tv⟩) ?_
 ·exact zAa hp fo tv (sqo 3)
 ·exact zAf (F := fun v _ => v = .int .i64 (cmpI (Int.natAbs b : Int) a)) hp fo tv (sqi 0) (fun ρ w hc h => ⟨.bool false, by simp [execOp, go_sem, h, hc, T1.out], rfl⟩)
 ·exact zAa hp fo tv (sqi 1)
 ·exact zAa hp fo gqi (sqo 4)
 ·exact zAf (F := fun v _ => v = .int .i64 (cmpI a c)) hp fo gqi (sqi 3) (fun ρ w hc h => ⟨.bool false, by simp [execOp, go_sem, h, hc, T2.out], rfl⟩)
 ·exact zAg (F := fun v _ => v = .bool false) (G := fun v _ => v = .bool false) hp fo tv (sqi 2) (sqi 4) (fun ρ w hc h h' => ⟨_, by simp [execOp, go_sem, h, h'], rfl⟩)
 intro L vs w4 nb hL hC hn E4
 have e0 := wXi hC 0
 have e1 := wXi hC 1
 have e2 := wXi hC 2
 have e3 := wXi hC 3
 have e4 := wXi hC 4
 have e5 := wXi hC 5
 have E := E4; try simp only [LM, zAd] at E
 rw [zAe hL]
 simp only [SP, Nat.zero_add, Nat.reduceAdd]
 rw [e0, e1, e2, e3, e4, e5]
 clear e0 e1 e2 e3 e4 e5 hC hn E4 hL vs L nb
 go_upto_region 4 with (fail)
 refine rg [Fq.is (.int .i64 (cmpI (Int.natAbs b : Int) a)), yF, yF, Fq.is (undef), Fq.is (undef), yF, yF, ip b1 2, Fq.num b, Fq.is (.int .i64 (cmpI b 0)), yF, yF, yF] [none] [] E (fun hp => ⟨?_, ?_, ?_, ?_, ?_, ?_, ?_, ?_, ?_, ?_, ?_, ?_, ?_, tv⟩) ?_
 ·exact zAa hp fo tv (sqo 3)
 ·exact zAf (F := fun v _ => v = .int .i64 (cmpI (Int.natAbs b : Int) a)) hp fo tv (sqi 0) (fun ρ w hc h => ⟨.bool false, by simp [execOp, go_sem, h, hc, T3.out], rfl⟩)
 ·exact zAa hp fo tv (sqi 1)
 ·exact zAi hp fo rfl gqi (fun _ => rfl)
 ·exact zAi hp fo rfl gqi (fun _ => rfl)
 ·exact zAg (F := fun v _ => v = .bool false) (G := fun v _ => v = .bool false) hp fo tv (sqi 2) (zAj (fun _ => rfl)) (fun ρ w hc h h' => ⟨_, by simp [execOp, go_sem, h, h'], rfl⟩)
 ·exact zAa hp fo tv (sqi 5)
 ·exact zAl (b := b1) (off := 0) (off' := 2) hp fo gqi (sqo 1) (fun ρ w h => by simp [execOp, go_sem, h]) (fun _ => rfl)
 ·exact lG 2 2 hp gqi (mq 0 rfl) zAc (sqi 7) fun v w h => zAk h
 ·exact zAn (F := (Fq.num b).P) hp fo gqi (zCg) (sqi 8) (fun v w h => zCh h)
 ·exact zAf (F := fun v _ => v = .int .i64 (cmpI b 0)) hp fo gqi (sqi 9) (fun ρ w hc h => ⟨.bool false, by simp [execOp, go_sem, h, hc, T5.out], rfl⟩)
 ·exact zAg (F := fun v _ => v = .bool false) (G := fun v _ => v = .bool false) hp fo tv (sqi 6) (sqi 10) (fun ρ w hc h h' => ⟨_, by simp [execOp, go_sem, h, h'], rfl⟩)
 ·exact zAh hp fo tv (sqi 11)
 intro L vs w5 nb hL hC hn E5
 have e0 := wXi hC 0
 have e1 := wXi hC 1
 have e2 := wXi hC 2
 have e3 := wXi hC 3
 have e4 := wXi hC 4
 have e5 := wXi hC 5
 have e6 := wXi hC 6
 have e7 := wXi hC 7
 have e9 := wXi hC 9
 have e10 := wXi hC 10
 have e11 := wXi hC 11
 have e12 := wXi hC 12
 have E := E5; try simp only [LM, zAd] at E
 rw [zAe hL]
 simp only [SP, Nat.zero_add, Nat.reduceAdd]
 rw [e0, e1, e2, e3, e4, e5, e6, e7, e9, e10, e11, e12]
 generalize vs 8 = u5_8
 clear e0 e1 e2 e3 e4 e5 e6 e7 e9 e10 e11 e12 hC hn E5 hL vs L nb
 clear  T1 T2 T3 T5
 clear B2 ha hb hc
 go_wp2
 refine bodyPost_ret (v := .bool false) ?_ rfl ⟨_, rfl, E.below, rfl⟩
 simp [results, Tryz.results66, go_sem]

set_option maxRecDepth 100000 in
set_option maxHeartbeats 4000000 in
theorem zNe {w : World} {v : Value} {a b c : Int} (h : (Fq.st [.n a, .n b, .n c]).P v w) (ha : ab a < pw 60) (hb : ab b < pw 60) (hc : ab c < pw 60) (hx : ¬ a < (Int.natAbs b : Int)) (hy : a ≤ c) (k0 : ¬ (Int.natAbs b : Int) < a) (k1 : ¬ a < c) (k2 : 0 ≤ b) {t : Bool} (ht : redB a b c = t) :
  Calls Tryz.prog 66 #[v] w fun e w' => ∃ v', e = .returned v' ∧ Below w.heap.size w w' ∧ v' = .bool t := by
 replace ha := hidd ha
 replace hb := hidd hb
 replace hc := hidd hc
 have ht2 : t = true := ht.symm.trans (by unfold redB; exact decide_eq_true (by omega))
 subst ht2
 clear ht
 have T1 : Hid (¬ 0 < cmpI (Int.natAbs b : Int) a) := fun e => by have := cmpIqgt.1 e; omega
 have T2 : Hid (¬ 0 < cmpI a c) := fun e => by have := cmpIqgt.1 e; omega
 have T3 : Hid (¬ cmpI (Int.natAbs b : Int) a < 0) := fun e => k0 (cmpIqlt.1 e)
 have T5 : Hid (0 ≤ cmpI b 0) := by have := mt cmpIqlt.1 (show ¬ b < 0 by omega); show _ ≤ _; omega
 clear hx hy k0 k1 k2
 obtain ⟨_, rfl, hf0⟩ := h
 have hF0 := hf0
 obtain ⟨y0_p0, y0_q0, _, rfl, _y0_n0, y0_p1, y0_q1, _, rfl, _y0_n1, y0_p2, y0_q2, _, rfl, _y0_n2, rfl⟩ := hf0
 obtain ⟨w1, b1, hw1, hb1, hs1, E⟩ := gS w 33 hF0
 go_enter Tryz.func66, Tryz.ntmps66
 go_upto_region 1 with (fail)
 rw [← hw1]
 rw [← hb1]
 clear hw1 hb1 hs1
 have B2 : Hid (ab ((Int.natAbs b : Int)) < pw 60) := zBg hb.out
 refine rg [ip b1 2, Fq.num b, Fq.num (Int.natAbs b : Int), ip b1 0, Fq.num a, Fq.is (.int .i64 (cmpI (Int.natAbs b : Int) a)), ip b1 0, Fq.num a, ip b1 4, Fq.num c, Fq.is (.int .i64 (cmpI a c)), Fq.is (.int .i64 (cmpI (Int.natAbs b : Int) a)), Fq.is (.int .i64 (cmpI a c))] [none] [] E (fun hp => ⟨?_, ?_, ?_, ?_, ?_, ?_, ?_, ?_, ?_, ?_, ?_, ?_, ?_, tv⟩) ?_
 ·exact qa b1 0 2 hp (sqo 1)
 ·exact lN 2 2 hp (mq 0 rfl) zAc (sqi 0)
 ·exact wXa (Fq.num b) hp zD2 (sqi 1) fun v w h => exK (AbsV h) B2.out (by omega)
 ·exact qa b1 0 0 hp (sqo 1)
 ·exact lN 0 2 hp (mq 0 rfl) zAc (sqi 3)
 ·exact wXb (Fq.num (Int.natAbs b : Int)) (Fq.num a) hp zA8 (sqi 2) (sqi 4) fun v v' w h h' => zA9 h h'
 ·exact qa b1 0 0 hp (sqo 1)
 ·exact lN 0 2 hp (mq 0 rfl) zAc (sqi 6)
 ·exact qa b1 0 4 hp (sqo 1)
 ·exact lN 4 2 hp (mq 0 rfl) zAc (sqi 8)
 ·exact wXb (Fq.num a) (Fq.num c) hp zA8 (sqi 7) (sqi 9) fun v v' w h h' => zA9 h h'
 ·exact zAh hp fo tv (sqi 5)
 ·exact zAh hp fo tv (sqi 10)
 intro L vs w3 nb hL hC hn E3
 have e0 := wXi hC 0
 have e3 := wXi hC 3
 have e5 := wXi hC 5
 have e6 := wXi hC 6
 have e8 := wXi hC 8
 have e10 := wXi hC 10
 have e11 := wXi hC 11
 have e12 := wXi hC 12
 have E := E3; try simp only [LM, zAd] at E
 rw [zAe hL]
 simp only [SP, Nat.zero_add, Nat.reduceAdd]
 rw [e0, e3, e5, e6, e8, e10, e11, e12]
 generalize vs 1 = u3_1
 generalize vs 2 = u3_2
 generalize vs 4 = u3_4
 generalize vs 7 = u3_7
 generalize vs 9 = u3_9
 clear e0 e3 e5 e6 e8 e10 e11 e12 hC hn E3 hL vs L nb
 go_upto_region 2 with (fail)
 refine rg [Fq.is (.int .i64 (cmpI (Int.natAbs b : Int) a)), yF, yF, Fq.is (.int .i64 (cmpI a c)), yF, yF] [none] [] E (fun hp => ⟨?_, ?_, ?_, ?_, ?_, ?_, tv⟩) ?_
 ·exact zAa hp fo tv (sqo 3)
 ·exact zAf (F := fun v _ => v = .int .i64 (cmpI (Int.natAbs b : Int) a)) hp fo tv (sqi 0) (fun ρ w hc h => ⟨.bool false, by simp [execOp, go_sem, h, hc, T1.out], rfl⟩)
 ·exact zAa hp fo tv (sqi 1)
 ·exact zAa hp fo gqi (sqo 4)
 ·exact zAf (F := fun v _ => v = .int .i64 (cmpI a c)) hp fo gqi (sqi 3) (fun ρ w hc h => ⟨.bool false, by simp [execOp, go_sem, h, hc, T2.out], rfl⟩)
 ·exact zAg (F := fun v _ => v = .bool false) (G := fun v _ => v = .bool false) hp fo tv (sqi 2) (sqi 4) (fun ρ w hc h h' => ⟨_, by simp [execOp, go_sem, h, h'], rfl⟩)
 intro L vs w4 nb hL hC hn E4
 have e0 := wXi hC 0
 have e1 := wXi hC 1
 have e2 := wXi hC 2
 have e3 := wXi hC 3
 have e4 := wXi hC 4
 have e5 := wXi hC 5
 have E := E4; try simp only [LM, zAd] at E
 rw [zAe hL]
 simp only [SP, Nat.zero_add, Nat.reduceAdd]
 rw [e0, e1, e2, e3, e4, e5]
 clear e0 e1 e2 e3 e4 e5 hC hn E4 hL vs L nb
 go_upto_region 4 with (fail)
 refine rg [Fq.is (.int .i64 (cmpI (Int.natAbs b : Int) a)), yF, yF, Fq.is (undef), Fq.is (undef), yF, yF, ip b1 2, Fq.num b, Fq.is (.int .i64 (cmpI b 0)), yT, yT, yT] [none] [] E (fun hp => ⟨?_, ?_, ?_, ?_, ?_, ?_, ?_, ?_, ?_, ?_, ?_, ?_, ?_, tv⟩) ?_
 ·exact zAa hp fo tv (sqo 3)
 ·exact zAf (F := fun v _ => v = .int .i64 (cmpI (Int.natAbs b : Int) a)) hp fo tv (sqi 0) (fun ρ w hc h => ⟨.bool false, by simp [execOp, go_sem, h, hc, T3.out], rfl⟩)
 ·exact zAa hp fo tv (sqi 1)
 ·exact zAi hp fo rfl gqi (fun _ => rfl)
 ·exact zAi hp fo rfl gqi (fun _ => rfl)
 ·exact zAg (F := fun v _ => v = .bool false) (G := fun v _ => v = .bool false) hp fo tv (sqi 2) (zAj (fun _ => rfl)) (fun ρ w hc h h' => ⟨_, by simp [execOp, go_sem, h, h'], rfl⟩)
 ·exact zAa hp fo tv (sqi 5)
 ·exact zAl (b := b1) (off := 0) (off' := 2) hp fo gqi (sqo 1) (fun ρ w h => by simp [execOp, go_sem, h]) (fun _ => rfl)
 ·exact lG 2 2 hp gqi (mq 0 rfl) zAc (sqi 7) fun v w h => zAk h
 ·exact zAn (F := (Fq.num b).P) hp fo gqi (zCg) (sqi 8) (fun v w h => zCh h)
 ·exact zAf (F := fun v _ => v = .int .i64 (cmpI b 0)) hp fo gqi (sqi 9) (fun ρ w hc h => ⟨.bool true, by simp [execOp, go_sem, h, hc, T5.out], rfl⟩)
 ·exact zAg (F := fun v _ => v = .bool false) (G := fun v _ => v = .bool true) hp fo tv (sqi 6) (sqi 10) (fun ρ w hc h h' => ⟨_, by simp [execOp, go_sem, h, h'], rfl⟩)
 ·exact zAh hp fo tv (sqi 11)
 intro L vs w5 nb hL hC hn E5
 have e0 := wXi hC 0
 have e1 := wXi hC 1
 have e2 := wXi hC 2
 have e3 := wXi hC 3
 have e4 := wXi hC 4
 have e5 := wXi hC 5
 have e6 := wXi hC 6
 have e7 := wXi hC 7
 have e9 := wXi hC 9
 have e10 := wXi hC 10
 have e11 := wXi hC 11
 have e12 := wXi hC 12
 have E := E5; try simp only [LM, zAd] at E
 rw [zAe hL]
 simp only [SP, Nat.zero_add, Nat.reduceAdd]
 rw [e0, e1, e2, e3, e4, e5, e6, e7, e9, e10, e11, e12]
 generalize vs 8 = u5_8
 clear e0 e1 e2 e3 e4 e5 e6 e7 e9 e10 e11 e12 hC hn E5 hL vs L nb
 clear  T1 T2 T3 T5
 clear B2 ha hb hc
 go_wp2
 refine bodyPost_ret (v := .bool true) ?_ rfl ⟨_, rfl, E.below, rfl⟩
 simp [results, Tryz.results66, go_sem]

theorem zIa {w : World} {v : Value} {a b c : Int} (h : (Fq.st [.n a, .n b, .n c]).P v w) (ha : ab a < pw 60) (hb : ab b < pw 60) (hc : ab c < pw 60) {t : Bool} (ht : redB a b c = t) :
  Calls Tryz.prog 66 #[v] w fun e w' => ∃ v', e = .returned v' ∧ Below w.heap.size w w' ∧ v' = .bool t := by
 by_cases hx : a < (Int.natAbs b : Int)
 ·exact zNk h ha hb hc hx ht
 by_cases hy : a ≤ c
 ·by_cases k0 : (Int.natAbs b : Int) < a
  ·by_cases k1 : a < c
   ·exact zNj h ha hb hc hx hy k0 k1 ht
   ·by_cases k2 : 0 ≤ b
    ·exact zNi h ha hb hc hx hy k0 k1 k2 ht
    ·exact zNh h ha hb hc hx hy k0 k1 k2 ht
  ·by_cases k1 : a < c
   ·by_cases k2 : 0 ≤ b
    ·exact zNg h ha hb hc hx hy k0 k1 k2 ht
    ·exact zNf h ha hb hc hx hy k0 k1 k2 ht
   ·by_cases k2 : 0 ≤ b
    ·exact zNe h ha hb hc hx hy k0 k1 k2 ht
    ·exact zNd h ha hb hc hx hy k0 k1 k2 ht
 ·exact zNl h ha hb hc hx hy ht

set_option maxRecDepth 100000 in
set_option maxHeartbeats 4000000 in
theorem exPIsEq0 {w : World} {v v' : Value} {a b c x y z : Int} (h : (Fq.st [.n a, .n b, .n c]).P v w) (h' : (Fq.st [.n x, .n y, .n z]).P v' w) (e0 : ¬ a = x) {t : Bool} (ht : eqF a b c x y z = t) :
  Calls Tryz.prog 76 #[v, v'] w fun e w' => ∃ v', e = .returned v' ∧ Below w.heap.size w w' ∧ v' = .bool t := by
 have ht2 : t = false := ht.symm.trans (by unfold eqF; simp [e0])
 subst ht2
 clear ht
 have T0 : Hid (¬ cmpI a x = 0) := fun e => e0 (cmpI_eq0.1 e)
 clear e0
 obtain ⟨_, rfl, hf0⟩ := h
 have hF0 := hf0
 obtain ⟨y0_p0, y0_q0, _, rfl, _y0_n0, y0_p1, y0_q1, _, rfl, _y0_n1, y0_p2, y0_q2, _, rfl, _y0_n2, rfl⟩ := hf0
 obtain ⟨_, rfl, hf1⟩ := h'
 have hF1 := hf1
 obtain ⟨y1_p0, y1_q0, _, rfl, _y1_n0, y1_p1, y1_q1, _, rfl, _y1_n1, y1_p2, y1_q2, _, rfl, _y1_n2, rfl⟩ := hf1
 obtain ⟨w1, b1, hw1, hb1, hs1, E⟩ := gS w 33 hF0
 obtain ⟨w2, b2, hw2, hb2, hs2, E⟩ := fS E hs1 33 hF1
 go_enter Tryz.func76, Tryz.ntmps76
 go_upto_region 1 with (fail)
 rw [← hw1]
 rw [← hw2]
 rw [← hb2]
 rw [← hb1]
 clear hw1 hw2 hb1 hb2 hs2 hs1
 refine rg [ip b1 0, Fq.num a, ip b2 0, Fq.num x, Fq.is (.int .i64 (cmpI a x)), yF, yF, Fq.is (undef), Fq.is (undef), Fq.is (undef), Fq.is (undef), Fq.is (undef), Fq.is (undef), yF, yF, Fq.is (undef), Fq.is (undef), Fq.is (undef), Fq.is (undef), Fq.is (undef), Fq.is (undef), yF, yF] N2 [] E (fun hp => ⟨?_, ?_, ?_, ?_, ?_, ?_, ?_, ?_, ?_, ?_, ?_, ?_, ?_, ?_, ?_, ?_, ?_, ?_, ?_, ?_, ?_, ?_, ?_, tv⟩) ?_
 ·exact qa b1 0 0 hp (sqo 2)
 ·exact lN 0 2 hp (mq 1 rfl) zAc (sqi 0)
 ·exact qa b2 0 0 hp (sqo 3)
 ·exact lN 0 2 hp (mq 0 rfl) zAc (sqi 2)
 ·exact wXb (Fq.num a) (Fq.num x) hp zA8 (sqi 1) (sqi 3) fun v v' w h h' => zA9 h h'
 ·exact zAf (F := fun v _ => v = .int .i64 (cmpI a x)) hp fo tv (sqi 4) (fun ρ w hc h => ⟨.bool false, by simp [execOp, go_sem, h, hc, T0.out], rfl⟩)
 ·exact zAa hp fo tv (sqi 5)
 ·exact zAi hp fo rfl gqi (fun _ => rfl)
 ·exact zAi hp fo rfl gqi (fun _ => rfl)
 ·exact zAi hp fo rfl gqi (fun _ => rfl)
 ·exact zAi hp fo rfl gqi (fun _ => rfl)
 ·exact zAi hp fo rfl gqi (fun _ => rfl)
 ·exact zAi hp fo rfl gqi (fun _ => rfl)
 ·exact zAg (F := fun v _ => v = .bool false) (G := fun v _ => v = .bool false) hp fo tv (sqi 6) (zAj (fun _ => rfl)) (fun ρ w hc h h' => ⟨_, by simp [execOp, go_sem, h, h'], rfl⟩)
 ·exact zAa hp fo tv (sqi 13)
 ·exact zAi hp fo rfl gqi (fun _ => rfl)
 ·exact zAi hp fo rfl gqi (fun _ => rfl)
 ·exact zAi hp fo rfl gqi (fun _ => rfl)
 ·exact zAi hp fo rfl gqi (fun _ => rfl)
 ·exact zAi hp fo rfl gqi (fun _ => rfl)
 ·exact zAi hp fo rfl gqi (fun _ => rfl)
 ·exact zAg (F := fun v _ => v = .bool false) (G := fun v _ => v = .bool false) hp fo tv (sqi 14) (zAj (fun _ => rfl)) (fun ρ w hc h h' => ⟨_, by simp [execOp, go_sem, h, h'], rfl⟩)
 ·exact zAh hp fo tv (sqi 21)
 intro L vs w3 nb hL hC hn E3
 have e0 := wXi hC 0
 have e2 := wXi hC 2
 have e4 := wXi hC 4
 have e5 := wXi hC 5
 have e6 := wXi hC 6
 have e7 := wXi hC 7
 have e8 := wXi hC 8
 have e9 := wXi hC 9
 have e10 := wXi hC 10
 have e11 := wXi hC 11
 have e12 := wXi hC 12
 have e13 := wXi hC 13
 have e14 := wXi hC 14
 have e15 := wXi hC 15
 have e16 := wXi hC 16
 have e17 := wXi hC 17
 have e18 := wXi hC 18
 have e19 := wXi hC 19
 have e20 := wXi hC 20
 have e21 := wXi hC 21
 have e22 := wXi hC 22
 have E := E3; try simp only [LM, zAd] at E
 rw [zAe hL]
 simp only [SP, Nat.zero_add, Nat.reduceAdd]
 rw [e0, e2, e4, e5, e6, e7, e8, e9, e10, e11, e12, e13, e14, e15, e16, e17, e18, e19, e20, e21, e22]
 generalize vs 1 = u3_1
 generalize vs 3 = u3_3
 clear e0 e2 e4 e5 e6 e7 e8 e9 e10 e11 e12 e13 e14 e15 e16 e17 e18 e19 e20 e21 e22 hC hn E3 hL vs L nb
 clear T0
 go_wp2
 refine bodyPost_ret (v := .bool false) ?_ rfl ⟨_, rfl, E.below, rfl⟩
 simp [results, Tryz.results76, go_sem]

set_option maxRecDepth 100000 in
set_option maxHeartbeats 4000000 in
theorem exPIsEq1 {w : World} {v v' : Value} {a b c x y z : Int} (h : (Fq.st [.n a, .n b, .n c]).P v w) (h' : (Fq.st [.n x, .n y, .n z]).P v' w) (e0 : a = x) (e1 : ¬ b = y) {t : Bool} (ht : eqF a b c x y z = t) :
  Calls Tryz.prog 76 #[v, v'] w fun e w' => ∃ v', e = .returned v' ∧ Below w.heap.size w w' ∧ v' = .bool t := by
 have ht2 : t = false := ht.symm.trans (by unfold eqF; simp [e0, e1])
 subst ht2
 clear ht
 have T0 : Hid (cmpI a x = 0) := cmpI_eq0.2 e0
 have T1 : Hid (¬ cmpI b y = 0) := fun e => e1 (cmpI_eq0.1 e)
 clear e0 e1
 obtain ⟨_, rfl, hf0⟩ := h
 have hF0 := hf0
 obtain ⟨y0_p0, y0_q0, _, rfl, _y0_n0, y0_p1, y0_q1, _, rfl, _y0_n1, y0_p2, y0_q2, _, rfl, _y0_n2, rfl⟩ := hf0
 obtain ⟨_, rfl, hf1⟩ := h'
 have hF1 := hf1
 obtain ⟨y1_p0, y1_q0, _, rfl, _y1_n0, y1_p1, y1_q1, _, rfl, _y1_n1, y1_p2, y1_q2, _, rfl, _y1_n2, rfl⟩ := hf1
 obtain ⟨w1, b1, hw1, hb1, hs1, E⟩ := gS w 33 hF0
 obtain ⟨w2, b2, hw2, hb2, hs2, E⟩ := fS E hs1 33 hF1
 go_enter Tryz.func76, Tryz.ntmps76
 go_upto_region 1 with (fail)
 rw [← hw1]
 rw [← hw2]
 rw [← hb2]
 rw [← hb1]
 clear hw1 hw2 hb1 hb2 hs2 hs1
 refine rg [ip b1 0, Fq.num a, ip b2 0, Fq.num x, Fq.is (.int .i64 (cmpI a x)), yT, yT, ip b1 2, Fq.num b, ip b2 2, Fq.num y, Fq.is (.int .i64 (cmpI b y)), yF, yF, yF, Fq.is (undef), Fq.is (undef), Fq.is (undef), Fq.is (undef), Fq.is (undef), Fq.is (undef), yF, yF] N2 [] E (fun hp => ⟨?_, ?_, ?_, ?_, ?_, ?_, ?_, ?_, ?_, ?_, ?_, ?_, ?_, ?_, ?_, ?_, ?_, ?_, ?_, ?_, ?_, ?_, ?_, tv⟩) ?_
 ·exact qa b1 0 0 hp (sqo 2)
 ·exact lN 0 2 hp (mq 1 rfl) zAc (sqi 0)
 ·exact qa b2 0 0 hp (sqo 3)
 ·exact lN 0 2 hp (mq 0 rfl) zAc (sqi 2)
 ·exact wXb (Fq.num a) (Fq.num x) hp zA8 (sqi 1) (sqi 3) fun v v' w h h' => zA9 h h'
 ·exact zAf (F := fun v _ => v = .int .i64 (cmpI a x)) hp fo tv (sqi 4) (fun ρ w hc h => ⟨.bool true, by simp [execOp, go_sem, h, hc, T0.out], rfl⟩)
 ·exact zAa hp fo tv (sqi 5)
 ·exact zAl (b := b1) (off := 0) (off' := 2) hp fo gqi (sqo 2) (fun ρ w h => by simp [execOp, go_sem, h]) (fun _ => rfl)
 ·exact lG 2 2 hp gqi (mq 1 rfl) zAc (sqi 7) fun v w h => zAk h
 ·exact zAl (b := b2) (off := 0) (off' := 2) hp fo gqi (sqo 3) (fun ρ w h => by simp [execOp, go_sem, h]) (fun _ => rfl)
 ·exact lG 2 2 hp gqi (mq 0 rfl) zAc (sqi 9) fun v w h => zAk h
 ·exact zAx (F := (Fq.num b).P) (G := (Fq.num y).P) hp fo gqi (zA8) (sqi 8) (sqi 10) (fun v v' w h h' => zA9 h h')
 ·exact zAf (F := fun v _ => v = .int .i64 (cmpI b y)) hp fo gqi (sqi 11) (fun ρ w hc h => ⟨.bool false, by simp [execOp, go_sem, h, hc, T1.out], rfl⟩)
 ·exact zAg (F := fun v _ => v = .bool true) (G := fun v _ => v = .bool false) hp fo tv (sqi 6) (sqi 12) (fun ρ w hc h h' => ⟨_, by simp [execOp, go_sem, h, h'], rfl⟩)
 ·exact zAa hp fo tv (sqi 13)
 ·exact zAi hp fo rfl gqi (fun _ => rfl)
 ·exact zAi hp fo rfl gqi (fun _ => rfl)
 ·exact zAi hp fo rfl gqi (fun _ => rfl)
 ·exact zAi hp fo rfl gqi (fun _ => rfl)
 ·exact zAi hp fo rfl gqi (fun _ => rfl)
 ·exact zAi hp fo rfl gqi (fun _ => rfl)
 ·exact zAg (F := fun v _ => v = .bool false) (G := fun v _ => v = .bool false) hp fo tv (sqi 14) (zAj (fun _ => rfl)) (fun ρ w hc h h' => ⟨_, by simp [execOp, go_sem, h, h'], rfl⟩)
 ·exact zAh hp fo tv (sqi 21)
 intro L vs w3 nb hL hC hn E3
 have e0 := wXi hC 0
 have e2 := wXi hC 2
 have e4 := wXi hC 4
 have e5 := wXi hC 5
 have e6 := wXi hC 6
 have e7 := wXi hC 7
 have e9 := wXi hC 9
 have e11 := wXi hC 11
 have e12 := wXi hC 12
 have e13 := wXi hC 13
 have e14 := wXi hC 14
 have e15 := wXi hC 15
 have e16 := wXi hC 16
 have e17 := wXi hC 17
 have e18 := wXi hC 18
 have e19 := wXi hC 19
 have e20 := wXi hC 20
 have e21 := wXi hC 21
 have e22 := wXi hC 22
 have E := E3; try simp only [LM, zAd] at E
 rw [zAe hL]
 simp only [SP, Nat.zero_add, Nat.reduceAdd]
 rw [e0, e2, e4, e5, e6, e7, e9, e11, e12, e13, e14, e15, e16, e17, e18, e19, e20, e21, e22]
 generalize vs 1 = u3_1
 generalize vs 3 = u3_3
 generalize vs 8 = u3_8
 generalize vs 10 = u3_10
 clear e0 e2 e4 e5 e6 e7 e9 e11 e12 e13 e14 e15 e16 e17 e18 e19 e20 e21 e22 hC hn E3 hL vs L nb
 clear T0 T1
 go_wp2
 refine bodyPost_ret (v := .bool false) ?_ rfl ⟨_, rfl, E.below, rfl⟩
 simp [results, Tryz.results76, go_sem]

set_option maxRecDepth 100000 in
set_option maxHeartbeats 4000000 in
theorem exPIsEq2 {w : World} {v v' : Value} {a b c x y z : Int} (h : (Fq.st [.n a, .n b, .n c]).P v w) (h' : (Fq.st [.n x, .n y, .n z]).P v' w) (e0 : a = x) (e1 : b = y) (e2 : ¬ c = z) {t : Bool} (ht : eqF a b c x y z = t) :
  Calls Tryz.prog 76 #[v, v'] w fun e w' => ∃ v', e = .returned v' ∧ Below w.heap.size w w' ∧ v' = .bool t := by
 have ht2 : t = false := ht.symm.trans (by unfold eqF; simp [e0, e1, e2])
 subst ht2
 clear ht
 have T0 : Hid (cmpI a x = 0) := cmpI_eq0.2 e0
 have T1 : Hid (cmpI b y = 0) := cmpI_eq0.2 e1
 have T2 : Hid (¬ cmpI c z = 0) := fun e => e2 (cmpI_eq0.1 e)
 clear e0 e1 e2
 obtain ⟨_, rfl, hf0⟩ := h
 have hF0 := hf0
 obtain ⟨y0_p0, y0_q0, _, rfl, _y0_n0, y0_p1, y0_q1, _, rfl, _y0_n1, y0_p2, y0_q2, _, rfl, _y0_n2, rfl⟩ := hf0
 obtain ⟨_, rfl, hf1⟩ := h'
 have hF1 := hf1
 obtain ⟨y1_p0, y1_q0, _, rfl, _y1_n0, y1_p1, y1_q1, _, rfl, _y1_n1, y1_p2, y1_q2, _, rfl, _y1_n2, rfl⟩ := hf1
 obtain ⟨w1, b1, hw1, hb1, hs1, E⟩ := gS w 33 hF0
 obtain ⟨w2, b2, hw2, hb2, hs2, E⟩ := fS E hs1 33 hF1
 go_enter Tryz.func76, Tryz.ntmps76
 go_upto_region 1 with (fail)
 rw [← hw1]
 rw [← hw2]
 rw [← hb2]
 rw [← hb1]
 clear hw1 hw2 hb1 hb2 hs2 hs1
 refine rg [ip b1 0, Fq.num a, ip b2 0, Fq.num x, Fq.is (.int .i64 (cmpI a x)), yT, yT, ip b1 2, Fq.num b, ip b2 2, Fq.num y, Fq.is (.int .i64 (cmpI b y)), yT, yT, yT, ip b1 4, Fq.num c, ip b2 4, Fq.num z, Fq.is (.int .i64 (cmpI c z)), yF, yF, yF] N2 [] E (fun hp => ⟨?_, ?_, ?_, ?_, ?_, ?_, ?_, ?_, ?_, ?_, ?_, ?_, ?_, ?_, ?_, ?_, ?_, ?_, ?_, ?_, ?_, ?_, ?_, tv⟩) ?_
 ·exact qa b1 0 0 hp (sqo 2)
 ·exact lN 0 2 hp (mq 1 rfl) zAc (sqi 0)
 ·exact qa b2 0 0 hp (sqo 3)
 ·exact lN 0 2 hp (mq 0 rfl) zAc (sqi 2)
 ·exact wXb (Fq.num a) (Fq.num x) hp zA8 (sqi 1) (sqi 3) fun v v' w h h' => zA9 h h'
 ·exact zAf (F := fun v _ => v = .int .i64 (cmpI a x)) hp fo tv (sqi 4) (fun ρ w hc h => ⟨.bool true, by simp [execOp, go_sem, h, hc, T0.out], rfl⟩)
 ·exact zAa hp fo tv (sqi 5)
 ·exact zAl (b := b1) (off := 0) (off' := 2) hp fo gqi (sqo 2) (fun ρ w h => by simp [execOp, go_sem, h]) (fun _ => rfl)
 ·exact lG 2 2 hp gqi (mq 1 rfl) zAc (sqi 7) fun v w h => zAk h
 ·exact zAl (b := b2) (off := 0) (off' := 2) hp fo gqi (sqo 3) (fun ρ w h => by simp [execOp, go_sem, h]) (fun _ => rfl)
 ·exact lG 2 2 hp gqi (mq 0 rfl) zAc (sqi 9) fun v w h => zAk h
 ·exact zAx (F := (Fq.num b).P) (G := (Fq.num y).P) hp fo gqi (zA8) (sqi 8) (sqi 10) (fun v v' w h h' => zA9 h h')
 ·exact zAf (F := fun v _ => v = .int .i64 (cmpI b y)) hp fo gqi (sqi 11) (fun ρ w hc h => ⟨.bool true, by simp [execOp, go_sem, h, hc, T1.out], rfl⟩)
 ·exact zAg (F := fun v _ => v = .bool true) (G := fun v _ => v = .bool true) hp fo tv (sqi 6) (sqi 12) (fun ρ w hc h h' => ⟨_, by simp [execOp, go_sem, h, h'], rfl⟩)
 ·exact zAa hp fo tv (sqi 13)
 ·exact zAl (b := b1) (off := 0) (off' := 4) hp fo gqi (sqo 2) (fun ρ w h => by simp [execOp, go_sem, h]) (fun _ => rfl)
 ·exact lG 4 2 hp gqi (mq 1 rfl) zAc (sqi 15) fun v w h => zAk h
 ·exact zAl (b := b2) (off := 0) (off' := 4) hp fo gqi (sqo 3) (fun ρ w h => by simp [execOp, go_sem, h]) (fun _ => rfl)
 ·exact lG 4 2 hp gqi (mq 0 rfl) zAc (sqi 17) fun v w h => zAk h
 ·exact zAx (F := (Fq.num c).P) (G := (Fq.num z).P) hp fo gqi (zA8) (sqi 16) (sqi 18) (fun v v' w h h' => zA9 h h')
 ·exact zAf (F := fun v _ => v = .int .i64 (cmpI c z)) hp fo gqi (sqi 19) (fun ρ w hc h => ⟨.bool false, by simp [execOp, go_sem, h, hc, T2.out], rfl⟩)
 ·exact zAg (F := fun v _ => v = .bool true) (G := fun v _ => v = .bool false) hp fo tv (sqi 14) (sqi 20) (fun ρ w hc h h' => ⟨_, by simp [execOp, go_sem, h, h'], rfl⟩)
 ·exact zAh hp fo tv (sqi 21)
 intro L vs w3 nb hL hC hn E3
 have e0 := wXi hC 0
 have e2 := wXi hC 2
 have e4 := wXi hC 4
 have e5 := wXi hC 5
 have e6 := wXi hC 6
 have e7 := wXi hC 7
 have e9 := wXi hC 9
 have e11 := wXi hC 11
 have e12 := wXi hC 12
 have e13 := wXi hC 13
 have e14 := wXi hC 14
 have e15 := wXi hC 15
 have e17 := wXi hC 17
 have e19 := wXi hC 19
 have e20 := wXi hC 20
 have e21 := wXi hC 21
 have e22 := wXi hC 22
 have E := E3; try simp only [LM, zAd] at E
 rw [zAe hL]
 simp only [SP, Nat.zero_add, Nat.reduceAdd]
 rw [e0, e2, e4, e5, e6, e7, e9, e11, e12, e13, e14, e15, e17, e19, e20, e21, e22]
 generalize vs 1 = u3_1
 generalize vs 3 = u3_3
 generalize vs 8 = u3_8
 generalize vs 10 = u3_10
 generalize vs 16 = u3_16
 generalize vs 18 = u3_18
 clear e0 e2 e4 e5 e6 e7 e9 e11 e12 e13 e14 e15 e17 e19 e20 e21 e22 hC hn E3 hL vs L nb
 clear T0 T1 T2
 go_wp2
 refine bodyPost_ret (v := .bool false) ?_ rfl ⟨_, rfl, E.below, rfl⟩
 simp [results, Tryz.results76, go_sem]

set_option maxRecDepth 100000 in
set_option maxHeartbeats 4000000 in
theorem exPIsEq3 {w : World} {v v' : Value} {a b c x y z : Int} (h : (Fq.st [.n a, .n b, .n c]).P v w) (h' : (Fq.st [.n x, .n y, .n z]).P v' w) (e0 : a = x) (e1 : b = y) (e2 : c = z) {t : Bool} (ht : eqF a b c x y z = t) :
  Calls Tryz.prog 76 #[v, v'] w fun e w' => ∃ v', e = .returned v' ∧ Below w.heap.size w w' ∧ v' = .bool t := by
 have ht2 : t = true := ht.symm.trans (by unfold eqF; simp [e0, e1, e2])
 subst ht2
 clear ht
 have T0 : Hid (cmpI a x = 0) := cmpI_eq0.2 e0
 have T1 : Hid (cmpI b y = 0) := cmpI_eq0.2 e1
 have T2 : Hid (cmpI c z = 0) := cmpI_eq0.2 e2
 clear e0 e1 e2
 obtain ⟨_, rfl, hf0⟩ := h
 have hF0 := hf0
 obtain ⟨y0_p0, y0_q0, _, rfl, _y0_n0, y0_p1, y0_q1, _, rfl, _y0_n1, y0_p2, y0_q2, _, rfl, _y0_n2, rfl⟩ := hf0
 obtain ⟨_, rfl, hf1⟩ := h'
 have hF1 := hf1
 obtain ⟨y1_p0, y1_q0, _, rfl, _y1_n0, y1_p1, y1_q1, _, rfl, _y1_n1, y1_p2, y1_q2, _, rfl, _y1_n2, rfl⟩ := hf1
 obtain ⟨w1, b1, hw1, hb1, hs1, E⟩ := gS w 33 hF0
 obtain ⟨w2, b2, hw2, hb2, hs2, E⟩ := fS E hs1 33 hF1
 go_enter Tryz.func76, Tryz.ntmps76
 go_upto_region 1 with (fail)
 rw [← hw1]
 rw [← hw2]
 rw [← hb2]
 rw [← hb1]
 clear hw1 hw2 hb1 hb2 hs2 hs1
 refine rg [ip b1 0, Fq.num a, ip b2 0, Fq.num x, Fq.is (.int .i64 (cmpI a x)), yT, yT, ip b1 2, Fq.num b, ip b2 2, Fq.num y, Fq.is (.int .i64 (cmpI b y)), yT, yT, yT, ip b1 4, Fq.num c, ip b2 4, Fq.num z, Fq.is (.int .i64 (cmpI c z)), yT, yT, yT] N2 [] E (fun hp => ⟨?_, ?_, ?_, ?_, ?_, ?_, ?_, ?_, ?_, ?_, ?_, ?_, ?_, ?_, ?_, ?_, ?_, ?_, ?_, ?_, ?_, ?_, ?_, tv⟩) ?_
 ·exact qa b1 0 0 hp (sqo 2)
 ·exact lN 0 2 hp (mq 1 rfl) zAc (sqi 0)
 ·exact qa b2 0 0 hp (sqo 3)
 ·exact lN 0 2 hp (mq 0 rfl) zAc (sqi 2)
 ·exact wXb (Fq.num a) (Fq.num x) hp zA8 (sqi 1) (sqi 3) fun v v' w h h' => zA9 h h'
 ·exact zAf (F := fun v _ => v = .int .i64 (cmpI a x)) hp fo tv (sqi 4) (fun ρ w hc h => ⟨.bool true, by simp [execOp, go_sem, h, hc, T0.out], rfl⟩)
 ·exact zAa hp fo tv (sqi 5)
 ·exact zAl (b := b1) (off := 0) (off' := 2) hp fo gqi (sqo 2) (fun ρ w h => by simp [execOp, go_sem, h]) (fun _ => rfl)
 ·exact lG 2 2 hp gqi (mq 1 rfl) zAc (sqi 7) fun v w h => zAk h
 ·exact zAl (b := b2) (off := 0) (off' := 2) hp fo gqi (sqo 3) (fun ρ w h => by simp [execOp, go_sem, h]) (fun _ => rfl)
 ·exact lG 2 2 hp gqi (mq 0 rfl) zAc (sqi 9) fun v w h => zAk h
 ·exact zAx (F := (Fq.num b).P) (G := (Fq.num y).P) hp fo gqi (zA8) (sqi 8) (sqi 10) (fun v v' w h h' => zA9 h h')
 ·exact zAf (F := fun v _ => v = .int .i64 (cmpI b y)) hp fo gqi (sqi 11) (fun ρ w hc h => ⟨.bool true, by simp [execOp, go_sem, h, hc, T1.out], rfl⟩)
 ·exact zAg (F := fun v _ => v = .bool true) (G := fun v _ => v = .bool true) hp fo tv (sqi 6) (sqi 12) (fun ρ w hc h h' => ⟨_, by simp [execOp, go_sem, h, h'], rfl⟩)
 ·exact zAa hp fo tv (sqi 13)
 ·exact zAl (b := b1) (off := 0) (off' := 4) hp fo gqi (sqo 2) (fun ρ w h => by simp [execOp, go_sem, h]) (fun _ => rfl)
 ·exact lG 4 2 hp gqi (mq 1 rfl) zAc (sqi 15) fun v w h => zAk h
 ·exact zAl (b := b2) (off := 0) (off' := 4) hp fo gqi (sqo 3) (fun ρ w h => by simp [execOp, go_sem, h]) (fun _ => rfl)
 ·exact lG 4 2 hp gqi (mq 0 rfl) zAc (sqi 17) fun v w h => zAk h
 ·exact zAx (F := (Fq.num c).P) (G := (Fq.num z).P) hp fo gqi (zA8) (sqi 16) (sqi 18) (fun v v' w h h' => zA9 h h')
 ·exact zAf (F := fun v _ => v = .int .i64 (cmpI c z)) hp fo gqi (sqi 19) (fun ρ w hc h => ⟨.bool true, by simp [execOp, go_sem, h, hc, T2.out], rfl⟩)
 ·exact zAg (F := fun v _ => v = .bool true) (G := fun v _ => v = .bool true) hp fo tv (sqi 14) (sqi 20) (fun ρ w hc h h' => ⟨_, by simp [execOp, go_sem, h, h'], rfl⟩)
 ·exact zAh hp fo tv (sqi 21)
 intro L vs w3 nb hL hC hn E3
 have e0 := wXi hC 0
 have e2 := wXi hC 2
 have e4 := wXi hC 4
 have e5 := wXi hC 5
 have e6 := wXi hC 6
 have e7 := wXi hC 7
 have e9 := wXi hC 9
 have e11 := wXi hC 11
 have e12 := wXi hC 12
 have e13 := wXi hC 13
 have e14 := wXi hC 14
 have e15 := wXi hC 15
 have e17 := wXi hC 17
 have e19 := wXi hC 19
 have e20 := wXi hC 20
 have e21 := wXi hC 21
 have e22 := wXi hC 22
 have E := E3; try simp only [LM, zAd] at E
 rw [zAe hL]
 simp only [SP, Nat.zero_add, Nat.reduceAdd]
 rw [e0, e2, e4, e5, e6, e7, e9, e11, e12, e13, e14, e15, e17, e19, e20, e21, e22]
 generalize vs 1 = u3_1
 generalize vs 3 = u3_3
 generalize vs 8 = u3_8
 generalize vs 10 = u3_10
 generalize vs 16 = u3_16
 generalize vs 18 = u3_18
 clear e0 e2 e4 e5 e6 e7 e9 e11 e12 e13 e14 e15 e17 e19 e20 e21 e22 hC hn E3 hL vs L nb
 clear T0 T1 T2
 go_wp2
 refine bodyPost_ret (v := .bool true) ?_ rfl ⟨_, rfl, E.below, rfl⟩
 simp [results, Tryz.results76, go_sem]

theorem zNc {w : World} {v v' : Value} {a b c x y z : Int} (h : (Fq.st [.n a, .n b, .n c]).P v w) (h' : (Fq.st [.n x, .n y, .n z]).P v' w) {t : Bool} (ht : eqF a b c x y z = t) :
  Calls Tryz.prog 76 #[v, v'] w fun e w' => ∃ v', e = .returned v' ∧ Below w.heap.size w w' ∧ v' = .bool t := by
 by_cases e0 : a = x
 ·by_cases e1 : b = y
  ·by_cases e2 : c = z
   ·exact exPIsEq3 h h' e0 e1 e2 ht
   ·exact exPIsEq2 h h' e0 e1 e2 ht
  ·exact exPIsEq1 h h' e0 e1 ht
 ·exact exPIsEq0 h h' e0 ht

set_option maxRecDepth 100000 in
set_option maxHeartbeats 4000000 in
theorem zM2 {w : World} {v : Value} {a b c : Int} (h : (Fq.st [.n a, .n b, .n c]).P v w) (ha : ab a < pw 15) (hb : ab b < pw 15) (hc : ab c < pw 15) {er : Int} (he : chkF a b c = er) (hn : ¬ er = 0) :
  Calls Tryz.prog 54 #[v] w fun e w' => ∃ v', e = .returned v' ∧ Below w.heap.size w w' ∧ v' = .int .i64 er := by
 replace ha := hidd ha
 replace hb := hidd hb
 replace hc := hidd hc
 have HC := hidd he
 have HDB := hidd (zCf ha.out hb.out hc.out)
 clear he
 have HN := hidd hn
 clear hn
 obtain ⟨_, rfl, hf0⟩ := h
 have hF0 := hf0
 obtain ⟨y0_p0, y0_q0, _, rfl, _y0_n0, y0_p1, y0_q1, _, rfl, _y0_n1, y0_p2, y0_q2, _, rfl, _y0_n2, rfl⟩ := hf0
 obtain ⟨w1, b1, hw1, hb1, hs1, E⟩ := gS w 33 hF0
 go_enter Tryz.func54, Tryz.ntmps54
 go_upto_region 1 with (fail)
 rw [← hw1]
 rw [← hb1]
 clear hw1 hb1 hs1
 refine rg [Fq.st [.n a, .n b, .n c], Fq.is (.int .i64 er), Fq.is (.int .i64 er)] [none] [] E (fun hp => ⟨?_, ?_, ?_, tv⟩) ?_
 ·exact lS 0 6 hp (mq 0 rfl) zAm (sqo 1)
 ·exact wXa (Fq.st [.n a, .n b, .n c]) hp zFo (sqi 0) fun v w h => zFp h ha.out hb.out hc.out HC.out
 ·exact zAh hp fo tv (sqi 1)
 intro L vs w2 nb hL hC hn E2
 have e1 := wXi hC 1
 have e2 := wXi hC 2
 have E := E2; try simp only [LM, zAd] at E
 rw [zAe hL]
 simp only [SP, Nat.zero_add, Nat.reduceAdd]
 rw [e1, e2]
 generalize vs 0 = u2_0
 clear e1 e2 hC hn E2 hL vs L nb
 go_upto_region 2 with (fail)
 refine rg [Fq.is (.int .i64 er), yT] [none] [] E (fun hp => ⟨?_, ?_, tv⟩) ?_
 ·exact zAa hp fo tv (sqo 3)
 ·exact zAf (F := fun v _ => v = .int .i64 er) hp fo tv (sqi 0) (fun ρ w hc h => ⟨.bool true, by simp [execOp, go_sem, h, hc, HN.out], rfl⟩)
 intro L vs w3 nb hL hC hn E3
 have e0 := wXi hC 0
 have e1 := wXi hC 1
 have E := E3; try simp only [LM, zAd] at E
 rw [zAe hL]
 simp only [SP, Nat.zero_add, Nat.reduceAdd]
 rw [e0, e1]
 clear e0 e1 hC hn E3 hL vs L nb
 go_upto_region 3 with (fail)
 refine rg [Fq.is (.int .i64 er), Fq.is (.int .i64 er)] [none] [] E (fun hp => ⟨?_, ?_, tv⟩) ?_
 ·exact zAa hp fo tv (sqo 3)
 ·exact zAh hp fo tv (sqi 0)
 intro L vs w4 nb hL hC hn E4
 have e0 := wXi hC 0
 have e1 := wXi hC 1
 have E := E4; try simp only [LM, zAd] at E
 rw [zAe hL]
 simp only [SP, Nat.zero_add, Nat.reduceAdd]
 rw [e0, e1]
 clear e0 e1 hC hn E4 hL vs L nb
 clear HC HN
 clear ha hb hc HDB
 go_wp2
 refine bodyPost_ret (v := .int .i64 er) ?_ rfl ⟨_, rfl, E.below, rfl⟩
 simp [results, Tryz.results54, go_sem]

set_option maxRecDepth 100000 in
set_option maxHeartbeats 4000000 in
theorem zM4 {w : World} {v : Value} {a b c : Int} (h : (Fq.st [.n a, .n b, .n c]).P v w) (ha : ab a < pw 15) (hb : ab b < pw 15) (hc : ab c < pw 15) (he : chkF a b c = 0) (hd : 0 < (b * b - 4 * (a * c))) :
  Calls Tryz.prog 54 #[v] w fun e w' => ∃ v', e = .returned v' ∧ Below w.heap.size w w' ∧ v' = .int .i64 5 := by
 replace ha := hidd ha
 replace hb := hidd hb
 replace hc := hidd hc
 have HC := hidd he
 have HDB := hidd (zCf ha.out hb.out hc.out)
 clear he
 have T1 : Hid (0 < cmpI (b * b - 4 * (a * c)) 0) := cmpIqgt.2 hd
 clear hd
 obtain ⟨_, rfl, hf0⟩ := h
 have hF0 := hf0
 obtain ⟨y0_p0, y0_q0, _, rfl, _y0_n0, y0_p1, y0_q1, _, rfl, _y0_n1, y0_p2, y0_q2, _, rfl, _y0_n2, rfl⟩ := hf0
 obtain ⟨w1, b1, hw1, hb1, hs1, E⟩ := gS w 33 hF0
 go_enter Tryz.func54, Tryz.ntmps54
 go_upto_region 1 with (fail)
 rw [← hw1]
 rw [← hb1]
 clear hw1 hb1 hs1
 refine rg [Fq.st [.n a, .n b, .n c], Fq.is (.int .i64 0), Fq.is (.int .i64 0)] [none] [] E (fun hp => ⟨?_, ?_, ?_, tv⟩) ?_
 ·exact lS 0 6 hp (mq 0 rfl) zAm (sqo 1)
 ·exact wXa (Fq.st [.n a, .n b, .n c]) hp zFo (sqi 0) fun v w h => zFp h ha.out hb.out hc.out HC.out
 ·exact zAh hp fo tv (sqi 1)
 intro L vs w2 nb hL hC hn E2
 have e1 := wXi hC 1
 have e2 := wXi hC 2
 have E := E2; try simp only [LM, zAd] at E
 rw [zAe hL]
 simp only [SP, Nat.zero_add, Nat.reduceAdd]
 rw [e1, e2]
 generalize vs 0 = u2_0
 clear e1 e2 hC hn E2 hL vs L nb
 go_upto_region 2 with (fail)
 refine rg [Fq.is (.int .i64 0), yF] [none] [] E (fun hp => ⟨?_, ?_, tv⟩) ?_
 ·exact zAa hp fo tv (sqo 3)
 ·exact zAf (F := fun v _ => v = .int .i64 0) hp fo tv (sqi 0) (fun ρ w hc h => ⟨.bool false, by simp [execOp, go_sem, h, hc], rfl⟩)
 intro L vs w3 nb hL hC hn E3
 have e0 := wXi hC 0
 have e1 := wXi hC 1
 have E := E3; try simp only [LM, zAd] at E
 rw [zAe hL]
 simp only [SP, Nat.zero_add, Nat.reduceAdd]
 rw [e0, e1]
 clear e0 e1 hC hn E3 hL vs L nb
 go_upto_region 4 with (fail)
 refine rg [Fq.st [.n a, .n b, .n c], Fq.num (b * b - 4 * (a * c)), Fq.is (.int .i64 (cmpI (b * b - 4 * (a * c)) 0)), yT] [none] [] E (fun hp => ⟨?_, ?_, ?_, ?_, tv⟩) ?_
 ·exact lS 0 6 hp (mq 0 rfl) zAm (sqo 1)
 ·exact wXa (Fq.st [.n a, .n b, .n c]) hp zEm (sqi 0) fun v w h => zEn h (Int.lt_of_lt_of_le ha.out (zAb (by omega))) (Int.lt_of_lt_of_le hb.out (zAb (by omega))) (Int.lt_of_lt_of_le hc.out (zAb (by omega)))
 ·exact wXa (Fq.num (b * b - 4 * (a * c))) hp zCg (sqi 1) fun v w h => zCh h
 ·exact zAf (F := fun v _ => v = .int .i64 (cmpI (b * b - 4 * (a * c)) 0)) hp fo tv (sqi 2) (fun ρ w hc h => ⟨.bool true, by simp [execOp, go_sem, h, hc, T1.out], rfl⟩)
 intro L vs w4 nb hL hC hn E4
 have e2 := wXi hC 2
 have e3 := wXi hC 3
 have E := E4; try simp only [LM, zAd] at E
 rw [zAe hL]
 simp only [SP, Nat.zero_add, Nat.reduceAdd]
 rw [e2, e3]
 generalize vs 0 = u4_0
 generalize vs 1 = u4_1
 clear e2 e3 hC hn E4 hL vs L nb
 go_upto_region 5 with (fail)
 refine rg [Fq.is (.int .i64 5)] [none] [] E (fun hp => ⟨?_, tv⟩) ?_
 ·exact zAh hp fo tv (zAj (fun _ => rfl))
 intro L vs w5 nb hL hC hn E5
 have e0 := wXi hC 0
 have E := E5; try simp only [LM, zAd] at E
 rw [zAe hL]
 simp only [SP, Nat.zero_add, Nat.reduceAdd]
 rw [e0]
 clear e0 hC hn E5 hL vs L nb
 clear HC T1
 clear ha hb hc HDB
 go_wp2
 refine bodyPost_ret (v := .int .i64 5) ?_ rfl ⟨_, rfl, E.below, rfl⟩
 simp [results, Tryz.results54, go_sem]

set_option maxRecDepth 100000 in
set_option maxHeartbeats 4000000 in
theorem zM3 {w : World} {v : Value} {a b c : Int} (h : (Fq.st [.n a, .n b, .n c]).P v w) (ha : ab a < pw 15) (hb : ab b < pw 15) (hc : ab c < pw 15) (he : chkF a b c = 0) (hd : ¬ 0 < (b * b - 4 * (a * c))) :
  Calls Tryz.prog 54 #[v] w fun e w' => ∃ v', e = .returned v' ∧ Below w.heap.size w w' ∧ v' = .int .i64 0 := by
 replace ha := hidd ha
 replace hb := hidd hb
 replace hc := hidd hc
 have HC := hidd he
 have HDB := hidd (zCf ha.out hb.out hc.out)
 clear he
 have T1 : Hid (¬ 0 < cmpI (b * b - 4 * (a * c)) 0) := fun e => hd (cmpIqgt.1 e)
 clear hd
 obtain ⟨_, rfl, hf0⟩ := h
 have hF0 := hf0
 obtain ⟨y0_p0, y0_q0, _, rfl, _y0_n0, y0_p1, y0_q1, _, rfl, _y0_n1, y0_p2, y0_q2, _, rfl, _y0_n2, rfl⟩ := hf0
 obtain ⟨w1, b1, hw1, hb1, hs1, E⟩ := gS w 33 hF0
 go_enter Tryz.func54, Tryz.ntmps54
 go_upto_region 1 with (fail)
 rw [← hw1]
 rw [← hb1]
 clear hw1 hb1 hs1
 refine rg [Fq.st [.n a, .n b, .n c], Fq.is (.int .i64 0), Fq.is (.int .i64 0)] [none] [] E (fun hp => ⟨?_, ?_, ?_, tv⟩) ?_
 ·exact lS 0 6 hp (mq 0 rfl) zAm (sqo 1)
 ·exact wXa (Fq.st [.n a, .n b, .n c]) hp zFo (sqi 0) fun v w h => zFp h ha.out hb.out hc.out HC.out
 ·exact zAh hp fo tv (sqi 1)
 intro L vs w2 nb hL hC hn E2
 have e1 := wXi hC 1
 have e2 := wXi hC 2
 have E := E2; try simp only [LM, zAd] at E
 rw [zAe hL]
 simp only [SP, Nat.zero_add, Nat.reduceAdd]
 rw [e1, e2]
 generalize vs 0 = u2_0
 clear e1 e2 hC hn E2 hL vs L nb
 go_upto_region 2 with (fail)
 refine rg [Fq.is (.int .i64 0), yF] [none] [] E (fun hp => ⟨?_, ?_, tv⟩) ?_
 ·exact zAa hp fo tv (sqo 3)
 ·exact zAf (F := fun v _ => v = .int .i64 0) hp fo tv (sqi 0) (fun ρ w hc h => ⟨.bool false, by simp [execOp, go_sem, h, hc], rfl⟩)
 intro L vs w3 nb hL hC hn E3
 have e0 := wXi hC 0
 have e1 := wXi hC 1
 have E := E3; try simp only [LM, zAd] at E
 rw [zAe hL]
 simp only [SP, Nat.zero_add, Nat.reduceAdd]
 rw [e0, e1]
 clear e0 e1 hC hn E3 hL vs L nb
 go_upto_region 4 with (fail)
 refine rg [Fq.st [.n a, .n b, .n c], Fq.num (b * b - 4 * (a * c)), Fq.is (.int .i64 (cmpI (b * b - 4 * (a * c)) 0)), yF] [none] [] E (fun hp => ⟨?_, ?_, ?_, ?_, tv⟩) ?_
 ·exact lS 0 6 hp (mq 0 rfl) zAm (sqo 1)
 ·exact wXa (Fq.st [.n a, .n b, .n c]) hp zEm (sqi 0) fun v w h => zEn h (Int.lt_of_lt_of_le ha.out (zAb (by omega))) (Int.lt_of_lt_of_le hb.out (zAb (by omega))) (Int.lt_of_lt_of_le hc.out (zAb (by omega)))
 ·exact wXa (Fq.num (b * b - 4 * (a * c))) hp zCg (sqi 1) fun v w h => zCh h
 ·exact zAf (F := fun v _ => v = .int .i64 (cmpI (b * b - 4 * (a * c)) 0)) hp fo tv (sqi 2) (fun ρ w hc h => ⟨.bool false, by simp [execOp, go_sem, h, hc, T1.out], rfl⟩)
 intro L vs w4 nb hL hC hn E4
 have e2 := wXi hC 2
 have e3 := wXi hC 3
 have E := E4; try simp only [LM, zAd] at E
 rw [zAe hL]
 simp only [SP, Nat.zero_add, Nat.reduceAdd]
 rw [e2, e3]
 generalize vs 0 = u4_0
 generalize vs 1 = u4_1
 clear e2 e3 hC hn E4 hL vs L nb
 go_upto_region 6 with (fail)
 refine rg [Fq.is (.int .i64 0)] [none] [] E (fun hp => ⟨?_, tv⟩) ?_
 ·exact zAh hp fo tv (zAj (fun _ => rfl))
 intro L vs w5 nb hL hC hn E5
 have e0 := wXi hC 0
 have E := E5; try simp only [LM, zAd] at E
 rw [zAe hL]
 simp only [SP, Nat.zero_add, Nat.reduceAdd]
 rw [e0]
 clear e0 hC hn E5 hL vs L nb
 clear HC T1
 clear ha hb hc HDB
 go_wp2
 refine bodyPost_ret (v := .int .i64 0) ?_ rfl ⟨_, rfl, E.below, rfl⟩
 simp [results, Tryz.results54, go_sem]

theorem zE6 {w : World} {v : Value} {a b c : Int} (h : (Fq.st [.n a, .n b, .n c]).P v w) (ha : ab a < pw 15) (hb : ab b < pw 15) (hc : ab c < pw 15) {er : Int} (he : redE a b c = er) :
  Calls Tryz.prog 54 #[v] w fun e w' => ∃ v', e = .returned v' ∧ Below w.heap.size w w' ∧ v' = .int .i64 er := by
 subst he
 unfold redE
 by_cases h1 : chkF a b c = 0 ∧ 0 < b * b - 4 * (a * c)
 ·rw [if_pos h1]; exact zM4 h ha hb hc h1.1 h1.2
 ·rw [if_neg h1]
  by_cases h2 : chkF a b c = 0
  ·have hh := zM3 h ha hb hc h2 (fun x => h1 ⟨h2, x⟩)
   rw [← h2] at hh
   exact hh
  ·exact zM2 h ha hb hc rfl h2

set_option maxRecDepth 100000 in
set_option maxHeartbeats 4000000 in
theorem zNr {w : World} {v : Value} {a b c : Int} (h : (Fq.st [.n a, .n b, .n c]).P v w) (ha : ab a < pw 15) (hb : ab b < pw 15) (hc : ab c < pw 15) (hdf : dfB a b c = false) {t : Bool} (ht : (dfB a b c && redB a b c) = t) :
  Calls Tryz.prog 22 #[v] w fun e w' => ∃ v', e = .returned v' ∧ Below w.heap.size w w' ∧ v' = .bool t := by
 replace ha := hidd ha
 replace hb := hidd hb
 replace hc := hidd hc
 have ht2 : t = false := ht.symm.trans (by rw [hdf]; rfl)
 subst ht2
 clear ht
 obtain ⟨er, he⟩ : ∃ er, er = redE a b c := ⟨_, rfl⟩
 have hn : ¬ er = 0 := fun e => by rw [zHe, ← he, e] at hdf; exact absurd hdf (by decide)
 have HN := hidd hn
 have HE := hidd he.symm
 clear hdf he hn
 obtain ⟨_, rfl, hf0⟩ := h
 have hF0 := hf0
 obtain ⟨y0_p0, y0_q0, _, rfl, _y0_n0, y0_p1, y0_q1, _, rfl, _y0_n1, y0_p2, y0_q2, _, rfl, _y0_n2, rfl⟩ := hf0
 obtain ⟨w1, b1, hw1, hb1, hs1, E⟩ := gS w 33 hF0
 go_enter Tryz.func22, Tryz.ntmps22
 go_upto_region 1 with (fail)
 rw [← hw1]
 rw [← hb1]
 clear hw1 hb1 hs1
 refine rg [Fq.st [.n a, .n b, .n c], Fq.is (.int .i64 er), yF, yF, Fq.is (undef), Fq.is (undef), yF, yF] [none] [] E (fun hp => ⟨?_, ?_, ?_, ?_, ?_, ?_, ?_, ?_, tv⟩) ?_
 ·exact lS 0 6 hp (mq 0 rfl) zAm (sqo 1)
 ·exact wXa (Fq.st [.n a, .n b, .n c]) hp zE3 (sqi 0) fun v w h => zE6 h ha.out hb.out hc.out HE.out
 ·exact zAf (F := fun v _ => v = .int .i64 er) hp fo tv (sqi 1) (fun ρ w hc h => ⟨.bool false, by simp [execOp, go_sem, h, hc, HN.out], rfl⟩)
 ·exact zAa hp fo tv (sqi 2)
 ·exact zAi hp fo rfl gqi (fun _ => rfl)
 ·exact zAi hp fo rfl gqi (fun _ => rfl)
 ·exact zAg (F := fun v _ => v = .bool false) (G := fun v _ => v = .bool false) hp fo tv (sqi 3) (zAj (fun _ => rfl)) (fun ρ w hc h h' => ⟨_, by simp [execOp, go_sem, h, h'], rfl⟩)
 ·exact zAh hp fo tv (sqi 6)
 intro L vs w2 nb hL hC hn E2
 have e1 := wXi hC 1
 have e2 := wXi hC 2
 have e3 := wXi hC 3
 have e4 := wXi hC 4
 have e5 := wXi hC 5
 have e6 := wXi hC 6
 have e7 := wXi hC 7
 have E := E2; try simp only [LM, zAd] at E
 rw [zAe hL]
 simp only [SP, Nat.zero_add, Nat.reduceAdd]
 rw [e1, e2, e3, e4, e5, e6, e7]
 generalize vs 0 = u2_0
 clear e1 e2 e3 e4 e5 e6 e7 hC hn E2 hL vs L nb
 clear HN HE
 clear ha hb hc
 go_wp2
 refine bodyPost_ret (v := .bool false) ?_ rfl ⟨_, rfl, E.below, rfl⟩
 simp [results, Tryz.results22, go_sem]

set_option maxRecDepth 100000 in
set_option maxHeartbeats 4000000 in
theorem zNs {w : World} {v : Value} {a b c : Int} (h : (Fq.st [.n a, .n b, .n c]).P v w) (ha : ab a < pw 15) (hb : ab b < pw 15) (hc : ab c < pw 15) (hdf : dfB a b c = true) {t : Bool} (ht : (dfB a b c && redB a b c) = t) :
  Calls Tryz.prog 22 #[v] w fun e w' => ∃ v', e = .returned v' ∧ Below w.heap.size w w' ∧ v' = .bool t := by
 replace ha := hidd ha
 replace hb := hidd hb
 replace hc := hidd hc
 have he : redE a b c = 0 := by rw [zHe] at hdf; exact of_decide_eq_true hdf
 have HE := hidd he
 have HT := hidd (show redB a b c = t by rw [hdf, Bool.true_and] at ht; exact ht)
 clear hdf he ht
 obtain ⟨_, rfl, hf0⟩ := h
 have hF0 := hf0
 obtain ⟨y0_p0, y0_q0, _, rfl, _y0_n0, y0_p1, y0_q1, _, rfl, _y0_n1, y0_p2, y0_q2, _, rfl, _y0_n2, rfl⟩ := hf0
 obtain ⟨w1, b1, hw1, hb1, hs1, E⟩ := gS w 33 hF0
 go_enter Tryz.func22, Tryz.ntmps22
 go_upto_region 1 with (fail)
 rw [← hw1]
 rw [← hb1]
 clear hw1 hb1 hs1
 refine rg [Fq.st [.n a, .n b, .n c], Fq.is (.int .i64 0), yT, yT, Fq.st [.n a, .n b, .n c], Fq.is (.bool t), Fq.is (.bool t), Fq.is (.bool t)] [none] [] E (fun hp => ⟨?_, ?_, ?_, ?_, ?_, ?_, ?_, ?_, tv⟩) ?_
 ·exact lS 0 6 hp (mq 0 rfl) zAm (sqo 1)
 ·exact wXa (Fq.st [.n a, .n b, .n c]) hp zE3 (sqi 0) fun v w h => zE6 h ha.out hb.out hc.out HE.out
 ·exact zAf (F := fun v _ => v = .int .i64 0) hp fo tv (sqi 1) (fun ρ w hc h => ⟨.bool true, by simp [execOp, go_sem, h, hc], rfl⟩)
 ·exact zAa hp fo tv (sqi 2)
 ·exact lG 0 6 hp gqi (mq 0 rfl) zAm (sqo 1) fun v w h => h
 ·exact zAn (F := (Fq.st [.n a, .n b, .n c]).P) hp fo gqi (zH6) (sqi 4) (fun v w h => zIa h (Int.lt_of_lt_of_le ha.out (zAb (by omega))) (Int.lt_of_lt_of_le hb.out (zAb (by omega))) (Int.lt_of_lt_of_le hc.out (zAb (by omega))) HT.out)
 ·exact zAg (F := fun v _ => v = .bool true) (G := fun v _ => v = .bool t) hp fo tv (sqi 3) (sqi 5) (fun ρ w hc h h' => ⟨_, by simp [execOp, go_sem, h, h'], rfl⟩)
 ·exact zAh hp fo tv (sqi 6)
 intro L vs w2 nb hL hC hn E2
 have e1 := wXi hC 1
 have e2 := wXi hC 2
 have e3 := wXi hC 3
 have e5 := wXi hC 5
 have e6 := wXi hC 6
 have e7 := wXi hC 7
 have E := E2; try simp only [LM, zAd] at E
 rw [zAe hL]
 simp only [SP, Nat.zero_add, Nat.reduceAdd]
 rw [e1, e2, e3, e5, e6, e7]
 generalize vs 0 = u2_0
 generalize vs 4 = u2_4
 clear e1 e2 e3 e5 e6 e7 hC hn E2 hL vs L nb
 clear HE HT
 clear ha hb hc
 go_wp2
 refine bodyPost_ret (v := .bool t) ?_ rfl ⟨_, rfl, E.below, rfl⟩
 simp [results, Tryz.results22, go_sem]

theorem zIb {w : World} {v : Value} {a b c : Int} (h : (Fq.st [.n a, .n b, .n c]).P v w) (ha : ab a < pw 15) (hb : ab b < pw 15) (hc : ab c < pw 15) {t : Bool} (ht : (dfB a b c && redB a b c) = t) :
  Calls Tryz.prog 22 #[v] w fun e w' => ∃ v', e = .returned v' ∧ Below w.heap.size w w' ∧ v' = .bool t := by
 cases hdf : dfB a b c with
 | false => exact zNr h ha hb hc hdf ht
 | true => exact zNs h ha hb hc hdf ht

def nbits (z : Int) : Nat := if z = 0 then 0 else z.natAbs.log2 + 1
structure Pt where
 x : Int
 y : Int
 i : Bool
def Pt.Ok (M : Int) (P : Pt) : Prop := 0 ≤ P.x ∧ P.x < M ∧ 0 ≤ P.y ∧ P.y < M
theorem Pt.Ok.ab {M : Int} {P : Pt} (h : P.Ok M) (hM : ab M < pw 5) : Go.Proofs.YtdhkhedhnolcjaaGreat.ab P.x < pw 5 ∧ Go.Proofs.YtdhkhedhnolcjaaGreat.ab P.y < pw 5 := by
 obtain ⟨h1, h2, h3, h4⟩ := h
 unfold Go.Proofs.YtdhkhedhnolcjaaGreat.ab at hM ⊢
 generalize pw 5 = k at hM
 constructor <;> omega
section
variable {os : List Oper} {Q : Exit → Act → World → Prop} {a : Act} {p : Pq} {B B0 : Nat} {w0 : World}
variable {i s : Nat} {d : Option Tmp} {ty : TypeId} {ps : String} {af : Array Edge} {gd : Option (Nat × Bool)}
end
def v2 (z : Int) : Nat := Lib.ctzFrom (nbits z) z.natAbs
section
variable {os : List Oper} {Q : Exit → Act → World → Prop} {a : Act} {p : Pq} {B B0 : Nat} {w0 : World}
variable {i s : Nat} {d : Option Tmp} {ty : TypeId} {ps : String} {af : Array Edge} {gd : Option (Nat × Bool)}
end
section
variable {os : List Oper} {Q : Exit → Act → World → Prop} {a : Act} {p : Pq} {B B0 : Nat} {w0 : World}
variable {i s : Nat} {d : Option Tmp} {ty : TypeId} {ps : String} {af : Array Edge} {gd : Option (Nat × Bool)}
theorem q_moveB (m f : Nat) {v : Value} (hp : p.Ok B B0) (hF : p.Free i) (hg : GdQ os a p B B0 w0 af gd) (ha : zBd (os.map (·.dst)) = true) (hj : (os.map (·.dst))[m]? = some (some s)) (hl : zBk os f m i = true) (hx : a.eval (.tmp s) = v) (hv : ∀ w, (p.c i).P v w) :
  zAr os Q a p B B0 w0 i { dst := d, op := .move (.tmp s), type := ty, pos := ps, after := af, guard := gd } := by
 refine zBs hp hF hg fun L vs w hG hL hc hd => ⟨v, ?_, hv _⟩
 have hm := zEr hc hl hL
 have e : (lay os.toArray L vs os.toArray.size a).eval (.tmp s) = a.eval (.tmp s) := by
  refine zG4 _ _ fun j _ hj2 hd2 => ?_
  have hjm : j = m := Classical.byContradiction fun hne => zEl ha j m s hne hd2 (by
   unfold zBu
   simp at hj ⊢
   cases ho : os[m]? with
   | none => simp [ho] at hj
   | some o => simp [ho] at hj ⊢; exact hj)
  rw [hjm, hm] at hj2
  cases hj2
 rw [hx] at e
 have e2 : (lay os.toArray L vs os.toArray.size a).tmps.getD s undef = v := e
 simp only [execOp, go_sem]
 rw [e2]
 rfl
end
section
variable {U Y y1 y0 B u q r : Nat}
end
def ad (x y : Int × Int) : Int × Int := (x.1 + y.1, x.2 + y.2)
def Eqp (p : Int) (x y : Int × Int) : Prop := x.1 % p = y.1 % p ∧ x.2 % p = y.2 % p
theorem Eqp.refl (p : Int) (x : Int × Int) : Eqp p x x := ⟨rfl, rfl⟩
theorem Eqp.symm {p : Int} {x y : Int × Int} (h : Eqp p x y) : Eqp p y x := ⟨h.1.symm, h.2.symm⟩
theorem Eqp.trans {p : Int} {x y z : Int × Int} (h : Eqp p x y) (h' : Eqp p y z) : Eqp p x z := ⟨h.1.trans h'.1, h.2.trans h'.2⟩
theorem zJp {p a b c d : Int} (h : a % p = c % p) (h' : b % p = d % p) : (a + b) % p = (c + d) % p := by rw [Int.add_emod, h, h', ← Int.add_emod]
theorem Eqp.ad {p : Int} {x y x' y' : Int × Int} (h : Eqp p x x') (h' : Eqp p y y') : Eqp p (ad x y) (ad x' y') := ⟨zJp h.1 h'.1, zJp h.2 h'.2⟩
end Go.Proofs.YtdhkhedhnolcjaaGreat
namespace Go.Proofs.YtdhkhedhnolcjaaGreat
open Go Go.RowKit Go.Shelf

attribute [local go_sem] Oper.semAt_some

abbrev MulP (p n : Nat) := { x : Nat // p * p ≤ x ∧ x ≤ n ∧ x % p = 0 }
def KpM (Bp Bn : Nat) (A B : World) : Prop := B.heap[Bp]? = A.heap[Bp]? ∧ B.heap[Bn]? = A.heap[Bn]?
theorem cell_same {A B : World} {b j : Nat} (h : B.heap[b]? = A.heap[b]?) : B.cell? ⟨b, j, none⟩ = A.cell? ⟨b, j, none⟩ := by
 unfold World.cell?
 simp only [h]
theorem zOf {A B : World} {b j : Nat} (h : B.heap[b]? = A.heap[b]?) : B.frozen? ⟨b, j, none⟩ = A.frozen? ⟨b, j, none⟩ := by
 unfold World.frozen?
 simp only [h]
theorem KpM.trans {Bp Bn : Nat} {A B C : World} (h : KpM Bp Bn A B) (k : KpM Bp Bn B C) : KpM Bp Bn A C := ⟨k.1.trans h.1, k.2.trans h.2⟩
attribute [local go_sem] Oper.semAt_some

def isP (q : Nat) : Bool := decide (2 ≤ q) && (List.range q).all (fun d => decide (d < 2) || decide (q % d ≠ 0))
def mkB (p m : Nat) : Bool := (List.range p).any (fun q => isP q && decide (q * q ≤ m) && (m % q == 0))
def below (p : Nat) : List Nat := (List.range p).filter isP
def Ni (W : World) (B : Nat) (v : Value) (xs : List Nat) : Prop := W.ownsRow B 3 1 v xs.length (xs.map fun x : Nat => Value.int .i64 (x : Int))
theorem Ni.shape {W : World} {B : Nat} {v : Value} {xs : List Nat} (h : Ni W B v xs) : ∃ ao cap, v = .slice ao xs.length cap := by
 rcases h.2 with ⟨rfl, h0⟩ | ⟨g, cap, cur, rfl, _⟩
 ·exact ⟨none, 0, by rw [h0]⟩
 ·exact ⟨_, _, rfl⟩
theorem Ni.nil (w : World) (B : Nat) : Ni w B (.slice none 0 0) [] := World.ownsRow_nil w B _ _
theorem Ni.mono {w w' : World} {B : Nat} {v : Value} {xs : List Nat} (h : Ni w B v xs) (hb : ∀ g, (∃ cur t r, w.heap[g]? = some (.cells cur t r)) → B ≤ g → v.ownBlock = some g → w'.heap[g]? = w.heap[g]?) : Ni w' B v xs := by
 refine ⟨h.1, ?_⟩
 rcases h.2 with h2 | ⟨g, cap, cur, h1, h2, h3, h4⟩
 ·exact .inl h2
 ·exact .inr ⟨g, cap, cur, h1, h2, by rw [hb g ⟨_, _, _, h3⟩ h2 (by rw [h1]; rfl)]; exact h3, h4⟩
theorem Ni.below {w w' : World} {B : Nat} {v : Value} {xs : List Nat} (h : Ni w B v xs) (hb : Below w.heap.size w w') : Ni w' B v xs :=
 h.mono fun g ⟨_, _, _, hg⟩ _ _ => hb.block g (Array.getElem?_eq_some_iff.1 hg).1
theorem Ni.cell {w : World} {B : Nat} {ao : Option Addr} {n c : Nat} {xs : List Nat} (h : Ni w B (.slice ao n c) xs) {i : Nat} (hi : i < xs.length) : ∃ g, ao = some ⟨g, 0, none⟩ ∧ w.cell? ⟨g, i, none⟩ = some (.int .i64 ((xs.getD i 0 : Nat) : Int)) := by
 rcases h.2 with ⟨_, h0⟩ | ⟨g, cap, cur, e, _⟩
 ·omega
 ·injection e with e1 e2 e3
  subst e1
  have := World.ownsRow.cells h (g := g) rfl i (.int .i64 ((xs.getD i 0 : Nat) : Int)) (by simp [hi])
  rw [zHp] at this
  exact ⟨g, rfl, this⟩
def Bo (W : World) (C N : Nat) (f : Nat → Bool) : Prop := ∀ m, m ≤ N → W.cell? ⟨C, m, none⟩ = some (.bool (f m)) ∧ W.frozen? ⟨C, m, none⟩ = false
def Marks (B : Nat) (W : World) (ds : List Deferred) : Prop := ∃ Ds : List Nat, ds = Ds.map (fun D => { target := .collected D, args := #[] }) ∧ Ds.Nodup ∧ ∀ D ∈ Ds, B ≤ D ∧ W.heap[D]? = some (Obj.deferred (some []))
theorem Marks.mono {B : Nat} {W W' : World} {ds : List Deferred} (h : Marks B W ds) (hk : ∀ D : Nat, W.heap[D]? = some (Obj.deferred (some [])) → W'.heap[D]? = some (Obj.deferred (some []))) : Marks B W' ds := by
 obtain ⟨Ds, h1, h2, h3⟩ := h
 exact ⟨Ds, h1, h2, fun D hD => ⟨(h3 D hD).1, hk D (h3 D hD).2⟩⟩
theorem Marks.nil (B : Nat) (W : World) : Marks B W [] := ⟨[], rfl, List.nodup_nil, fun _ h => by simp at h⟩
theorem Marks.cons {B : Nat} {W W1 : World} {ds : List Deferred} (h : Marks B W1 ds) (hk : ∀ E, E < W1.heap.size → W.heap[E]? = W1.heap[E]? ∨ W1.heap[E]? ≠ some (Obj.deferred (some []))) {D : Nat} (hB : B ≤ D) (hD1 : W1.heap.size ≤ D) (hD : W.heap[D]? = some (Obj.deferred (some []))) : Marks B W ({ target := .collected D, args := #[] } :: ds) := by
 obtain ⟨Ds, rfl, h2, h3⟩ := h
 have hlt : ∀ E ∈ Ds, E < W1.heap.size := fun E hE => (Array.getElem?_eq_some_iff.1 (h3 E hE).2).1
 refine ⟨D :: Ds, rfl, List.nodup_cons.2 ⟨fun hm => ?_, h2⟩, fun E hE => ?_⟩
 ·have := hlt D hm; omega
 ·rcases List.mem_cons.1 hE with rfl | hE
  ·exact ⟨hB, hD⟩
  ·refine ⟨(h3 E hE).1, ?_⟩
   rcases hk E (hlt E hE) with e | e
   ·exact e.trans (h3 E hE).2
   ·exact absurd (h3 E hE).2 e
attribute [local go_sem] Oper.semAt_some

def SvI (C N p : Nat) (S : World) (pre : List (MulP p N)) (W : World) : Prop :=
 S.heap.size ≤ W.heap.size ∧ (∀ k, k < S.heap.size → k ≠ C → W.heap[k]? = S.heap[k]?) ∧ Bo W C N (fun m => mkB p m || pre.any (fun x => x.1 == m)) ∧ Below C S W
theorem SvI.own {C N p : Nat} {S : World} (hC : C < S.heap.size) : OwnFrom S.heap.size (SvI C N p S) :=
 fun s A B row hs hg hr => ⟨Nat.le_trans hs.1 hg.size, fun k hk hkC => (hg.block k (by have := hs.1; omega) (fun e => by have := (hr k e.symm).1; omega)).trans (hs.2.1 k hk hkC), fun m hm => by
  have hc : B.heap[C]? = A.heap[C]? := hg.block C (by have := hs.1; omega) (fun e => by have := (hr C e.symm).1; omega)
  rw [cell_same hc, zOf hc]
  exact hs.2.2.1 m hm, hs.2.2.2.grown hg (by have := hs.1; omega) (fun k e => by have := (hr k e).1; omega)⟩
theorem SvI.step {C N p : Nat} {S W : World} {pre : List (MulP p N)} {x : MulP p N} {y : Nat} (h : SvI C N p S pre W) (hy : y = x.1) (hyN : y ≤ N) : SvI C N p S (pre ++ [x]) (W.setCell ⟨C, y, none⟩ (.bool true)) := by
 obtain ⟨h1, h2, h3, h4⟩ := h
 refine ⟨Nat.le_trans h1 (KeepsOthers.setCell _ _ _).size, fun k hk hkC => (Below.heap_setCell _ _ _ k (fun e => hkC e)).trans (h2 k hk hkC), fun m hm => ?_, h4.setCell (p := ⟨C, y, none⟩) (Nat.le_refl _) _⟩
 rw [World.frozen?_setCell]
 refine ⟨?_, (h3 m hm).2⟩
 show _ = some (Value.bool (mkB p m || (pre ++ [x]).any (fun x => x.1 == m)))
 have h3m : W.cell? ⟨C, m, none⟩ = some (.bool (mkB p m || pre.any (fun x => x.1 == m))) := (h3 m hm).1
 rw [List.any_append, List.any_cons, List.any_nil, Bool.or_false, ← hy]
 by_cases e : m = y
 ·subst e
  rw [World.cell?_setCell_same' _ _ _ (by rw [h3m]; rfl)]
  simp
 ·rw [World.cell?_setCell_other _ _ _ _ (by intro e2; injection e2 with e3 e4; omega), h3m]
  have : (y == m) = false := by simp; omega
  rw [this, Bool.or_false]
end Go.Proofs.YtdhkhedhnolcjaaGreat
namespace Go.Proofs.YtdhkhedhnolcjaaGreat
open Go Go.RowKit

def Got (w : World) (v : Value) (z r : Int) : Prop := ∃ n ao k c, v = .agg #[.bool n, .slice ao k c, .int .i64 r] ∧ Num w (.agg #[.bool n, .slice ao k c]) z
theorem Got.parts {w : World} {v : Value} {z r : Int} (h : Got w v z r) : ∃ n ao k c, v = .agg #[.bool n, .slice ao k c, .int .i64 r] ∧ Num w (.agg #[.bool n, .slice ao k c]) z := h
def zeroGot : List Value := [.bool false, .slice none 0 0, .int .i64 0]
theorem Got.zero (w : World) : Got w (.agg zeroGot.toArray) 0 0 := ⟨_, _, _, _, rfl, Num.zero w⟩
section
variable {os : List Oper} {Q : Exit → Act → World → Prop} {a : Act} {p : Pq} {B B0 : Nat} {w0 : World}
variable {i s : Nat} {d : Option Tmp} {ty : TypeId} {ps : String} {af : Array Edge} {gd : Option (Nat × Bool)}
end
section
variable {os : List Oper} {Q : Exit → Act → World → Prop} {a : Act} {p : Pq} {B B0 : Nat} {w0 : World}
variable {i s : Nat} {d : Option Tmp} {ty : TypeId} {ps : String} {af : Array Edge} {gd : Option (Nat × Bool)}
end
def Li (W : World) (B : Nat) (v : Value) (xs : List Int) : Prop := W.ownsRow B 2 1 v xs.length (xs.map (Value.int .i64))
theorem Li.shape {W : World} {B : Nat} {v : Value} {xs : List Int} (h : Li W B v xs) : ∃ ao cap, v = .slice ao xs.length cap := by
 rcases h.2 with ⟨rfl, h0⟩ | ⟨g, cap, cur, rfl, _⟩
 ·exact ⟨none, 0, by rw [h0]⟩
 ·exact ⟨_, _, rfl⟩
theorem Li.nil (w : World) (B : Nat) : Li w B (.slice none 0 0) [] := World.ownsRow_nil w B _ _
theorem Li.one (w : World) {B : Nat} (hB : B ≤ w.heap.size) (x : Int) : Li (w.alloc (.cells #[.int .i64 x] 2)) B (.slice (some ⟨w.heap.size, 0, none⟩) 1 1) [x] :=
 ⟨rfl, .inr ⟨w.heap.size, 1, #[.int .i64 x], rfl, hB, heap_alloc_new _ _, Nat.le_refl _, by decide, rfl, rfl⟩⟩
theorem Li.mono {w w' : World} {B : Nat} {v : Value} {xs : List Int} (h : Li w B v xs) (hb : Below w.heap.size w w') : Li w' B v xs := by
 refine ⟨h.1, ?_⟩
 rcases h.2 with h2 | ⟨g, cap, cur, h1, h2, h3, h4⟩
 ·exact .inl h2
 ·exact .inr ⟨g, cap, cur, h1, h2, by rw [hb.block g (Array.getElem?_eq_some_iff.1 h3).1]; exact h3, h4⟩
theorem Li.cell {w : World} {B : Nat} {ao : Option Addr} {n c : Nat} {xs : List Int} (h : Li w B (.slice ao n c) xs) {i : Nat} (hi : i < xs.length) : ∃ g, ao = some ⟨g, 0, none⟩ ∧ w.cell? ⟨g, i, none⟩ = some (.int .i64 (xs.getD i 0)) := by
 rcases h.2 with ⟨_, h0⟩ | ⟨g, cap, cur, e, _⟩
 ·omega
 ·injection e with e1 e2 e3
  subst e1
  have := World.ownsRow.cells h (g := g) rfl i (.int .i64 (xs.getD i 0)) (by simp [hi])
  rw [zHp] at this
  exact ⟨g, rfl, this⟩
theorem Li.step {B : Nat} {w wr w1 : World} {v v' : Value} {xs : List Int} {d : Int} {o : Obj} (h : Li wr B v xs) (hB : B ≤ wr.heap.size) (hnx : Below B w wr)
  (hown' : w1.ownsRow B 2 1 v' (xs.length + 1) (xs.map (Value.int .i64) ++ [.int .i64 d])) (hgrow : (wr.alloc o).grownBy w1 v.ownBlock) :
  Li w1 B v' (xs ++ [d]) ∧ Below B w w1 := by
 refine ⟨?_, ?_⟩
 ·unfold Li; simpa using hown'
 ·exact (hnx.alloc hB o).grown hgrow (by simp; omega) (fun j hj => (World.ownsRow.lt h j hj).1)

def NumAt (w : World) (g i : Nat) (z : Int) : Prop := ∃ n ao k c, w.cell? ⟨g, i * 2, none⟩ = some (.bool n) ∧ w.cell? ⟨g, i * 2 + 1, none⟩ = some (.slice ao k c) ∧ Num w (.agg #[.bool n, .slice ao k c]) z
def Nums (w : World) (v : Value) (zs : List Int) : Prop := ∃ ao cap, v = .slice ao zs.length cap ∧ (zs = [] ∨ ∃ g, ao = some ⟨g, 0, none⟩ ∧ g < w.heap.size ∧ ∀ i z, zs[i]? = some z → NumAt w g i z)
theorem NumAt.mono {w w' : World} {g i : Nat} {z : Int} (h : NumAt w g i z) (hb : Below w.heap.size w w') : NumAt w' g i z := by
 obtain ⟨n, ao, k, c, h1, h2, h3⟩ := h
 have hl := World.block_lt_of_cell? w _ h1
 exact ⟨n, ao, k, c, (hb.cell (p := ⟨g, i * 2, none⟩) hl).trans h1, (hb.cell (p := ⟨g, i * 2 + 1, none⟩) hl).trans h2, h3.mono hb⟩
theorem Nums.mono {w w' : World} {v : Value} {zs : List Int} (h : Nums w v zs) (hb : Below w.heap.size w w') : Nums w' v zs := by
 obtain ⟨ao, cap, e, h⟩ := h
 refine ⟨ao, cap, e, ?_⟩
 rcases h with h | ⟨g, h1, h2, h3⟩
 ·exact .inl h
 ·exact .inr ⟨g, h1, Nat.lt_of_lt_of_le h2 hb.size, fun i z hi => (h3 i z hi).mono hb⟩
theorem Nums.at {w : World} {ao : Option Addr} {n c : Nat} {zs : List Int} (h : Nums w (.slice ao n c) zs) {i : Nat} (hi : i < zs.length) :
  ∃ g p r k d, ao = some ⟨g, 0, none⟩ ∧ w.cell? ⟨g, i * 2, none⟩ = some (.bool p) ∧ w.cell? ⟨g, i * 2 + 1, none⟩ = some (.slice r k d) ∧ Num w (.agg #[.bool p, .slice r k d]) (zs.getD i 0) := by
 obtain ⟨ao', cap, e, h⟩ := h
 injection e with e1 e2 e3
 subst e1
 rcases h with h | ⟨g, h1, h2, h3⟩
 ·subst h; simp at hi
 ·obtain ⟨p, r, k, d, g1, g2, g3⟩ := h3 i (zs.getD i 0) (by simp [hi])
  exact ⟨g, p, r, k, d, h1, g1, g2, g3⟩

def NumCell (us : List Value) (w : World) (own : Option Nat) (i : Nat) (z : Int) : Prop :=
 ∃ n ao k c, us[i * 2]? = some (.bool n) ∧ us[i * 2 + 1]? = some (.slice ao k c) ∧ (∀ a, ao = some a → k ≠ 0 → some a.block ≠ own) ∧ Num w (.agg #[.bool n, .slice ao k c]) z
def Ln (W : World) (B : Nat) (v : Value) (zs : List Int) : Prop := ∃ us, W.ownsRow B 31 2 v zs.length us ∧ ∀ i z, zs[i]? = some z → NumCell us W v.ownBlock i z
theorem Ln.shape {W : World} {B : Nat} {v : Value} {zs : List Int} (h : Ln W B v zs) : ∃ ao cap, v = .slice ao zs.length cap := by
 obtain ⟨us, h, _⟩ := h
 rcases h.2 with ⟨rfl, h0⟩ | ⟨g, cap, cur, rfl, _⟩
 ·exact ⟨none, 0, by rw [h0]⟩
 ·exact ⟨_, _, rfl⟩
theorem Ln.nil (w : World) (B : Nat) : Ln w B (.slice none 0 0) [] := ⟨[], World.ownsRow_nil w B _ _, fun i z h => by simp at h⟩
theorem Ln.made (w : World) {B cap : Nat} (cur : Array Value) (hb : B ≤ w.heap.size) (hm : cap ≤ maxLen) (hs : cur.size = cap * 2) : Ln (w.alloc (.cells cur 31)) B (.slice (some ⟨w.heap.size, 0, none⟩) 0 cap) [] :=
 ⟨[], World.ownsRow_made w cur cap hb hm hs, fun i z h => by simp at h⟩
theorem Ln.mono {w w' : World} {B : Nat} {v : Value} {zs : List Int} (h : Ln w B v zs) (hb : Below w.heap.size w w') : Ln w' B v zs := by
 obtain ⟨us, h, hE⟩ := h
 refine ⟨us, ⟨h.1, ?_⟩, fun i z hi => ?_⟩
 ·rcases h.2 with h2 | ⟨g, cap, cur, h1, h2, h3, h4⟩
  ·exact .inl h2
  ·exact .inr ⟨g, cap, cur, h1, h2, by rw [hb.block g (Array.getElem?_eq_some_iff.1 h3).1]; exact h3, h4⟩
 ·obtain ⟨n, ao, k, c, g1, g2, g3, g4⟩ := hE i z hi
  exact ⟨n, ao, k, c, g1, g2, g3, g4.mono hb⟩
theorem Num.grown {w w' : World} {n : Bool} {ao : Option Addr} {k c : Nat} {z : Int} {row : Option Nat} (h : Num w (.agg #[.bool n, .slice ao k c]) z) (hg : w.grownBy w' row) (hne : ∀ a, ao = some a → k ≠ 0 → some a.block ≠ row) : Num w' (.agg #[.bool n, .slice ao k c]) z := by
 obtain ⟨neg, ao', k', c', xs, hv, hs, hn, hz⟩ := h
 injection hv with hv
 have hv2 := congrArg Array.toList hv
 simp at hv2
 obtain ⟨rfl, rfl, rfl, rfl⟩ := hv2
 refine ⟨n, ao, k, c, xs, rfl, ⟨hs.len, hs.cap, hs.cells.1, ?_⟩, hn, hz⟩
 rcases hs.cells.2 with h0 | ⟨b, off, rfl, hlt, hc⟩
 ·exact .inl h0
 ·rcases Nat.eq_zero_or_pos k with h0 | h0
  ·exact .inl (List.eq_nil_of_length_eq_zero (hs.len.trans h0))
  ·refine .inr ⟨b, off, rfl, Nat.lt_of_lt_of_le hlt hg.size, fun j hj => hg.cell (hc j hj) (show some b ≠ row from hne ⟨b, off, none⟩ rfl (by omega))⟩
theorem Num.blk {w : World} {n : Bool} {a : Addr} {k c : Nat} {z : Int} (h : Num w (.agg #[.bool n, .slice (some a) k c]) z) (hk : k ≠ 0) : a.block < w.heap.size := by
 obtain ⟨neg, ao', k', c', xs, hv, hs, hn, hz⟩ := h
 injection hv with hv
 have hv2 := congrArg Array.toList hv
 simp at hv2
 obtain ⟨rfl, rfl, rfl, rfl⟩ := hv2
 rcases hs.cells.2 with h0 | ⟨b, off, e, hlt, hc⟩
 ·have := hs.len; rw [h0] at this; simp at this; omega
 ·injection e with e; rw [e]; exact hlt
theorem Ln.step {B : Nat} {w wr w1 w2 : World} {v : Value} {zs : List Int} {us : List Value} {z : Int} {o : Obj} {g cap H : Nat} {ng : Bool} {ao : Option Addr} {n c : Nat}
  (hO : wr.ownsRow B 31 2 v zs.length us) (hE : ∀ i z, zs[i]? = some z → NumCell us wr v.ownBlock i z) (hB : B ≤ wr.heap.size) (hnx : Below B w wr) (hb : Below wr.heap.size wr w1)
  (hnew : ∀ a, ao = some a → wr.heap.size ≤ a.block) (hN : Num w1 (.agg #[.bool ng, .slice ao n c]) z)
  (hown' : w2.ownsRow B 31 2 (.slice (some ⟨g, 0, none⟩) (zs.length + 1) cap) (zs.length + 1) (us ++ [.bool ng, .slice ao n c])) (hgrow : (w1.alloc o).grownBy w2 v.ownBlock) (hat : v.ownBlock = some g ∨ g = H) (hH : (w1.alloc o).heap.size = H) :
  Ln w2 B (.slice (some ⟨g, 0, none⟩) (zs.length + 1) cap) (zs ++ [z]) ∧ Below B w w2 := by
 have hsz := hb.size
 have hH2 : w1.heap.size + 1 = H := by rw [← hH]; simp
 have hlt := hO.lt
 have hul := hO.1
 refine ⟨⟨us ++ [.bool ng, .slice ao n c], by simpa using hown', fun i y hi => ?_⟩, ?_⟩
 ·have hne : ∀ {a : Addr} {k : Nat} {m : Bool} {d : Nat} {x : Int}, Num w1 (.agg #[.bool m, .slice (some a) k d]) x → k ≠ 0 → some a.block ≠ v.ownBlock → a.block ≠ g := by
   intro a k m d x hx hk hr e
   have h1 := hx.blk hk
   rcases hat with h | h
   ·rw [h, e] at hr; exact hr rfl
   ·omega
  by_cases hil : i < zs.length
  ·rw [List.getElem?_append_left hil] at hi
   obtain ⟨p, r, k, d, g1, g2, g3, g4⟩ := hE i y hi
   refine ⟨p, r, k, d, ?_, ?_, fun a ha hk => ?_, ?_⟩
   ·rw [List.getElem?_append_left (by omega)]; exact g1
   ·rw [List.getElem?_append_left (by omega)]; exact g2
   ·subst ha
    intro e
    exact hne (g4.mono hb) hk (g3 _ rfl hk) (by simpa [Value.ownBlock] using e)
   ·exact ((g4.mono hb).mono (zAw w1 o)).grown hgrow g3
  ·have hi2 : i = zs.length := by
    rcases Nat.lt_or_ge i (zs ++ [z]).length with h | h
    ·simp at h; omega
    ·rw [List.getElem?_eq_none h] at hi; cases hi
   subst hi2
   rw [List.getElem?_append_right (Nat.le_refl _), Nat.sub_self] at hi
   simp only [List.getElem?_cons_zero, Option.some.injEq] at hi
   subst hi
   have hfar : ∀ a, ao = some a → some a.block ≠ v.ownBlock := fun a ha e => by
    have h1 := hnew a ha
    have h2 := (hlt a.block e.symm).2
    omega
   refine ⟨ng, ao, n, c, ?_, ?_, fun a ha hk => ?_, ?_⟩
   ·rw [List.getElem?_append_right (by omega), show zs.length * 2 - us.length = 0 by omega]; rfl
   ·rw [List.getElem?_append_right (by omega), show zs.length * 2 + 1 - us.length = 1 by omega]; rfl
   ·subst ha
    intro e
    exact hne hN hk (hfar _ rfl) (by simpa [Value.ownBlock] using e)
   ·exact (hN.mono (zAw w1 o)).grown hgrow fun a ha _ => hfar a ha
 ·exact ((hnx.trans (hb.mono hB)).alloc (by omega) o).grown hgrow (by simp; omega) (fun j hj => (hO.lt j hj).1)
section
variable {os : List Oper} {Q : Exit → Act → World → Prop} {a : Act} {p : Pq} {B B0 : Nat} {w0 : World}
variable {i s : Nat} {d : Option Tmp} {ty : TypeId} {ps : String} {af : Array Edge} {gd : Option (Nat × Bool)}
end
section
variable {n1 n2 n3 : Bool} {a1 a2 a3 : Option Addr} {k1 c1 k2 c2 k3 c3 : Nat} {xs1 xs2 xs3 : List Int}
end

section
variable {os : List Oper} {Q : Exit → Act → World → Prop} {a : Act} {p : Pq} {B B0 : Nat} {w0 : World}
variable {i s : Nat} {d : Option Tmp} {ty : TypeId} {ps : String} {af : Array Edge} {gd : Option (Nat × Bool)}
end
section
variable {os : List Oper} {Q : Exit → Act → World → Prop} {a : Act} {p : Pq} {B B0 : Nat} {w0 : World}
variable {i s : Nat} {d : Option Tmp} {ty : TypeId} {ps : String} {af : Array Edge} {gd : Option (Nat × Bool)}
end
section
variable {os : List Oper} {Q : Exit → Act → World → Prop} {a : Act} {p : Pq} {B B0 : Nat} {w0 : World}
variable {i s : Nat} {d : Option Tmp} {ty : TypeId} {ps : String} {af : Array Edge} {gd : Option (Nat × Bool)}
end
section
variable {os : List Oper} {Q : Exit → Act → World → Prop} {a : Act} {p : Pq} {B B0 : Nat} {w0 : World}
variable {i s : Nat} {d : Option Tmp} {ty : TypeId} {ps : String} {af : Array Edge}
end
theorem Fr.store {w0 W : World} {bs : List (Nat × Nat × Fq)} (E : Fr w0 bs W) (k : Nat) {b m : Nat} {F F' : Fq} (hk : bs[k]? = some (b, m, F)) {us : List Value} (hl : us.length = m) (ht : Tame us) (hF : F'.P (.agg us.toArray) W) : Fr w0 (bs.set k (b, m, F')) (putFrom W b 0 us) := by
 have hm := List.mem_of_getElem? hk
 have hkl : k < bs.length := (List.getElem?_eq_some_iff.1 hk).1
 have hap : ∀ i, i < bs.length → i ≠ k → ∀ y, bs[i]? = some y → y.1 ≠ b := by
  intro i hi hne y hy e
  have h1 := E.apart
  rw [List.nodup_iff_pairwise_ne, List.pairwise_map, List.pairwise_iff_getElem] at h1
  have hy' := (List.getElem?_eq_some_iff.1 hy).2
  have hk' := (List.getElem?_eq_some_iff.1 hk).2
  rcases Nat.lt_or_gt_of_ne hne with h | h
  ·have := h1 i k hi hkl h
   rw [hy', hk'] at this
   exact this e
  ·have := h1 k i hkl hi h
   rw [hy', hk'] at this
   exact this e.symm
 refine ⟨zF1 (E.boxes _ hm).1 us 0 _ _ E.below, fun x hx => ?_, ?_⟩
 ·obtain ⟨i, hi, e⟩ := List.mem_iff_getElem.1 hx
  rw [List.getElem_set] at e
  split at e
  ·subst e
   exact ⟨(E.boxes _ hm).1, (E.boxes _ hm).2.same hl ht hF⟩
  ·rename_i hne
   have hi' : i < bs.length := by simpa using hi
   have hx' : bs[i]? = some x := by rw [List.getElem?_eq_getElem hi', e]
   have hxm := List.mem_of_getElem? hx'
   exact ⟨(E.boxes _ hxm).1, (E.boxes _ hxm).2.other (E.boxes _ hm).2 (hap i hi' (fun h => hne h.symm) x hx') hl⟩
 ·have e : (bs.set k (b, m, F')).map (·.1) = bs.map (·.1) := by
   apply List.ext_getElem?
   intro i
   rw [List.getElem?_map, List.getElem?_map, List.getElem?_set]
   split
   ·rename_i h
    subst h
    simp [hkl]
    exact (congrArg (·.1) (List.getElem?_eq_some_iff.1 hk).2).symm
   ·rfl
  rw [e]
  exact E.apart
theorem oldOf_of {bs : List (Nat × Nat × Fq)} {ks : List (Option (Nat × Fq))} {d : Nat} (hl : ks.length = bs.length) : ∀ x ∈ bs, ∃ o ∈ zAz bs ks d, o.b = x.1 ∧ o.m = x.2.1 ∧ o.F0 = x.2.2 := by
 induction bs generalizing ks d with
 | nil => intro x hx; simp at hx
 | cons y r ih =>
  obtain ⟨b, m, F⟩ := y
  cases ks with
  | nil => simp at hl
  | cons k ks =>
   have hl' : ks.length = r.length := by simpa using hl
   intro x hx
   rcases List.mem_cons.1 hx with rfl | hx
   ·cases k with
    | none => exact ⟨_, by simp only [zAz]; exact List.mem_cons_self .., rfl, rfl, rfl⟩
    | some kk => obtain ⟨k, F1⟩ := kk; exact ⟨_, by simp only [zAz]; exact List.mem_cons_self .., rfl, rfl, rfl⟩
   ·cases k with
    | none => obtain ⟨o, ho, h⟩ := ih (ks := ks) hl' x hx; exact ⟨o, by simp only [zAz]; exact List.mem_cons_of_mem _ ho, h⟩
    | some kk => obtain ⟨k, F1⟩ := kk; obtain ⟨o, ho, h⟩ := ih (ks := ks) hl' x hx; exact ⟨o, by simp only [zAz]; exact List.mem_cons_of_mem _ ho, h⟩
theorem fr_of_G {w0 W w : World} {C : List Fq} {bs : List (Nat × Nat × Fq)} {ks : List (Option (Nat × Fq))} {new : List Nb} {len : Nat} {L : Nat → Bool} {vs : Nat → Value} (E : Fr w0 bs W) (hG : (plq C bs ks new len).G w0.heap.size W.heap.size w0 L vs w) (hl : ks.length = bs.length) (hs : ∀ o ∈ (plq C bs ks new len).old, o.F1 = o.F0) : Fr w0 bs w := by
 refine ⟨hG.below, fun x hx => ?_, E.apart⟩
 obtain ⟨o, ho, h1, h2, h3⟩ := oldOf_of (d := len) hl x hx
 have hB := hG.old o ho
 rw [hs o ho, ite_self, h1, h2, h3] at hB
 exact ⟨(E.boxes x hx).1, hB⟩
theorem Fr.later {w0 W W' : World} {bs : List (Nat × Nat × Fq)} (E : Fr w0 bs W) (hb : Below W.heap.size W W') : Fr w0 bs W' := ⟨E.below.trans (hb.mono E.below.size), fun x hx => ⟨(E.boxes x hx).1, (E.boxes x hx).2.mono hb⟩, E.apart⟩

noncomputable def zeroB (T : Nat) (us : List Value) : Prop := (Tryz.prog.info? T).map (·.zero) = some (some (.agg us.toArray))
theorem zPb {T : Nat} {us : List Value} (h : zeroB T us) {d : Option Tmp} {ty : TypeId} {ps : String} {af : Array Edge} {gd : Option (Nat × Bool)} (ρ : Operand → Value) (w : World) : (execOp ρ { dst := d, op := .alloc T, type := ty, pos := ps, after := af, guard := gd }).run Tryz.prog w = .ok (.value (.pointer (some ⟨w.heap.size, 0, none⟩))) (w.alloc (.cells us.toArray T)) := by
 unfold zeroB at h
 cases hi : Tryz.prog.info? T with
 | none => simp [hi] at h
 | some i =>
  simp [hi] at h
  have hz : (zeroValue T).run Tryz.prog w = .ok (.agg us.toArray) w := by
   simp [zeroValue, typeInfo, hi, h]
  simp only [execOp, Instr.alloc, Sem.run_bind, hz, Result.andThen_ok]
  simp [go_sem, newVar, newRow, Value.cells]
theorem zO7 {Q : Exit → Act → World → Prop} {a : Act} {W : World} {id T : Nat} {us : List Value} (hz : zeroB T us) {d : Option Tmp} {ty : TypeId} {ps : String} (h : Q .normal (a.put d (.pointer (some ⟨W.heap.size, 0, none⟩))) (W.alloc (.cells us.toArray T))) : (Code.region id #[{ dst := d, op := .alloc T, type := ty, pos := ps, after := #[], guard := none }] false).wp Tryz.prog Q a W := by
 refine wp_region_list ?_
 refine wpList_plain rfl fun K hK => ?_
 unfold Oper.wp
 rw [zPb hz]
 exact hK _ _ h
end Go.Proofs.YtdhkhedhnolcjaaGreat
