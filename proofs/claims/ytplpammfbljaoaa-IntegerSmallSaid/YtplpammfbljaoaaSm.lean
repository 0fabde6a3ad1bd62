/- Walk of the law on small numbers. -/
import Derived.Test.YtplpammfbljaoaaEx
import Derived.Test.YtplpammfbljaoaaLi
import Derived.Test.YtplpammfbljaoaaSk
import Derived.Deep.RegionWith
namespace Go.Proofs.Ytplpammfbljaoaa
open Go Go.RowKit

theorem lowV_in {z : Int} (h0 : -9223372036854775808 ≤ z) (h1 : z ≤ 9223372036854775807) : lowV z = .tuple #[.int .i64 z, .bool true] := if_pos ⟨h0, h1⟩

theorem exLow {w : World} {v : Value} {z : Int} (h : Num w v z) (h0 : -9223372036854775808 ≤ z) (h1 : z ≤ 9223372036854775807) : Calls Try.prog 50 #[v] w fun e w' => e = .returned (.tuple #[.int .i64 z, .bool true]) ∧ Below w.heap.size w w' := by
  have := LowV h
  rw [lowV_in h0 h1] at this
  exact this

theorem exInt {w : World} {z : Int} {f : FuncId} {args : Array Value} (h : Calls Try.prog f args w (GivesInt w z)) (hz : ab z < 18446744073709551616) : Calls Try.prog f args w fun e w' => ∃ v', e = .returned v' ∧ Below w.heap.size w w' ∧ Num w' v' z :=
  h.mono fun _ _ hh => gives_num hh (k := 2) (by rw [pw_two_eq]; exact hz) (by omega)

theorem exIntP {w : World} {z : Int} {f : FuncId} {args : Array Value} (h : Calls Try.prog f args w (GivesInt w z)) (hz : ab z < 18446744073709551616) : Calls Try.prog f args w fun e w' => ∃ (n : Bool) (ao : Option Addr) (k c : Nat), e = .returned (.agg #[.bool n, .slice ao k c]) ∧ Below w.heap.size w w' ∧ Num w' (.agg #[.bool n, .slice ao k c]) z :=
  (exInt h hz).mono fun _ _ hh => by
    obtain ⟨v, rfl, hb, hn⟩ := hh
    obtain ⟨n, ao, k, c, rfl⟩ := hn.parts
    exact ⟨_, _, _, _, rfl, hb, hn⟩

/-- What is carried along a law's walk: old memory, the argument's box, the boxes of the integers so far. -/
structure Env (w0 : World) (b : Nat) (p q : Value) (ao : Option Addr) (n c : Nat) (xs : List Int) (l : List (Nat × Int)) (W : World) : Prop where
  below : Below w0.heap.size w0 W
  box : IntBox W b p q
  sl : Sl W ao n c xs
  bs : Bs W l

theorem Env.mono {w0 W W' : World} {b : Nat} {p q : Value} {ao : Option Addr} {n c : Nat} {xs : List Int} {l : List (Nat × Int)} (h : Env w0 b p q ao n c xs l W) (hb : Below W.heap.size W W') : Env w0 b p q ao n c xs l W' :=
  ⟨h.below.trans (hb.mono h.below.size), h.box.mono hb h.box.lt, h.sl.mono hb, h.bs.mono hb⟩

theorem Env.push {w0 W : World} {b : Nat} {p q : Value} {ao : Option Addr} {n c : Nat} {xs : List Int} {l : List (Nat × Int)} (h : Env w0 b p q ao n c xs l W) {b' : Nat} {z : Int} (hb : BoxNum W b' z) : Env w0 b p q ao n c xs ((b', z) :: l) W :=
  ⟨h.below, h.box, h.sl, hb, h.bs⟩

theorem mul_small {x y : Int} (hx0 : -2147483648 ≤ x) (hx1 : x ≤ 2147483647) (hy0 : -2147483648 ≤ y) (hy1 : y ≤ 2147483647) : -4611686018427387904 ≤ x * y ∧ x * y ≤ 4611686018427387904 := by
  have h := Int.natAbs_mul x y
  have h1 : x.natAbs ≤ 2147483648 := by omega
  have h2 : y.natAbs ≤ 2147483648 := by omega
  have h3 := Nat.mul_le_mul h1 h2
  omega

theorem div_small {x y : Int} (hx0 : -2147483648 ≤ x) (hx1 : x ≤ 2147483647) (hy : y ≠ 0) :
    ∃ q r u : Int, x / y = q ∧ x % y = r ∧ q * y = u ∧ u + r = x ∧ 0 ≤ r ∧ r < (y.natAbs : Int) ∧ -2147483648 ≤ q ∧ q ≤ 2147483648 := by
  have h1 := Int.mul_ediv_add_emod x y
  have h2 := Int.emod_nonneg x hy
  have h3 := Int.emod_lt x hy
  refine ⟨_, _, _, rfl, rfl, rfl, by rw [Int.mul_comm]; exact h1, h2, h3, ?_, ?_⟩
  · rcases Int.lt_or_le (x / y) (-2147483648) with h | h
    · have h4 := Int.natAbs_mul y (x / y)
      have h5 : 2147483649 ≤ (x / y).natAbs := by omega
      have h6 := Nat.mul_le_mul_left y.natAbs h5
      omega
    · exact h
  · rcases Int.lt_or_le 2147483648 (x / y) with h | h
    · have h4 := Int.natAbs_mul y (x / y)
      have h5 : 2147483649 ≤ (x / y).natAbs := by omega
      have h6 := Nat.mul_le_mul_left y.natAbs h5
      omega
    · exact h

theorem enter_Add (args : Array Value) (w : World) : (callFunc 19 args).run Try.prog w = .ok (.enter 19 args) w := enter_of Try.func19 (by kernel_rfl) rfl args w
theorem enter_Low (args : Array Value) (w : World) : (callFunc 50 args).run Try.prog w = .ok (.enter 50 args) w := enter_of Try.func50 (by kernel_rfl) rfl args w

set_option maxRecDepth 10000 in
set_option maxHeartbeats 8000000 in
theorem IntegerSmall_any (w : World) (x y : Int) (hx0 : -2147483648 ≤ x) (hx1 : x ≤ 2147483647) (hy0 : -2147483648 ≤ y) (hy1 : y ≤ 2147483647) (neg : Bool) (ao : Option Addr) (n c : Nat) (xs : List Int) (hZ : Sl w ao n c xs) (hn : n ≤ 9223372036854775807) :
    Calls Try.prog 10 #[.int .i32 x, .int .i32 y, .agg #[.bool neg, .slice ao n c]] w fun e w' => e = .returned (.bool true) ∧ Below w.heap.size w w' := by
  obtain ⟨p, hp⟩ : ∃ p, x * y = p := ⟨_, rfl⟩
  have hpb : -4611686018427387904 ≤ p ∧ p ≤ 4611686018427387904 := by rw [← hp]; exact mul_small hx0 hx1 hy0 hy1
  have HP := hidd hp
  clear hp
  obtain ⟨cm, hcm⟩ : ∃ cm, cmpI x y = cm := ⟨_, rfl⟩
  have hcm1 : (cm < 0) = (x < y) := by rw [← hcm]; unfold cmpI; split <;> (try split) <;> simp <;> omega
  have hcm2 : (cm = 0) = (x = y) := by rw [← hcm]; unfold cmpI; split <;> (try split) <;> simp <;> omega
  have hcm4 : (!(cm == 0) == (x == y)) = false := by
    by_cases h : x = y
    · have h1 : cm = 0 := by rw [hcm2]; exact h
      simp [h, h1]
    · have h1 : ¬ cm = 0 := by rw [hcm2]; exact h
      rw [beq_eq_false_iff_ne.2 h, beq_eq_false_iff_ne.2 h1]; rfl
  have HCM := hidd hcm
  clear hcm
  go_enter Try.func10, Try.ntmps10
  go_upto_region 1 with (fail)
  obtain ⟨w0, hw0, E⟩ : ∃ w0, w0 = w.alloc (.cells #[.bool neg, .slice ao n c] 27) ∧ Env w w.heap.size (.bool neg) (.slice ao n c) ao n c xs [] w0 := ⟨_, rfl, alloc_below _ _, IntBox.new _ _ _ _, hZ.mono (alloc_below _ _), trivial⟩
  rw [← hw0]
  clear hw0
  go_wp2_with fail
  refine (examples_any _).mono ?_
  rintro e w1 ⟨rfl, hb⟩
  replace E := E.mono hb
  clear hb
  go_wp2_with fail
  refine (exIntP (Of_any _ (x) (by omega) (by omega)) (by unfold ab; omega)).mono ?_
  rintro e w2 ⟨n2, a2, k2, c2, rfl, hb, h2⟩
  replace E := E.mono hb
  clear hb
  go_upto_region 7 with (fail)
  obtain ⟨w3, hw3, hb, x3⟩ := boxOne h2 27
  rw [← hw3]
  clear hw3
  replace E := (E.mono hb).push x3
  clear hb x3
  go_wp2_with fail
  refine (exIntP (Of_any _ (y) (by omega) (by omega)) (by unfold ab; omega)).mono ?_
  rintro e w4 ⟨n4, a4, k4, c4, rfl, hb, h4⟩
  replace E := E.mono hb
  clear hb
  go_upto_region 8 with (fail)
  obtain ⟨w5, hw5, hb, x5⟩ := boxOne h4 27
  rw [← hw5]
  clear hw5
  replace E := (E.mono hb).push x5
  clear hb x5
  obtain ⟨na, aa, ka, ca, ⟨d0, d1, d2, d3⟩, hA⟩ := E.bs.2.1
  obtain ⟨nb, bb, kb, cb, ⟨f0, f1, f2, f3⟩, hB⟩ := E.bs.1
  go_wp2_with fail
  refine (exInt (z := x + y) (AddV hA hB) (by unfold ab; omega)).mono ?_
  rintro e w6 ⟨v6, rfl, hb, h6⟩
  replace E := E.mono hb
  clear hb
  clear d0 d1 d2 d3 f0 f1 f2 f3 hA hB
  go_wp2_with fail
  refine (exLow h6 (by omega) (by omega)).mono ?_
  rintro e w7 ⟨rfl, hb⟩
  replace E := E.mono hb
  clear hb
  obtain ⟨na, aa, ka, ca, ⟨d0, d1, d2, d3⟩, hA⟩ := E.bs.2.1
  obtain ⟨nb, bb, kb, cb, ⟨f0, f1, f2, f3⟩, hB⟩ := E.bs.1
  go_wp2_with fail
  refine (exInt (z := p) (by rw [← HP.out]; exact MulV hA hB) (by unfold ab; omega)).mono ?_
  rintro e w8 ⟨v8, rfl, hb, h8⟩
  replace E := E.mono hb
  clear hb
  clear d0 d1 d2 d3 f0 f1 f2 f3 hA hB
  go_wp2_with fail
  refine (exLow h8 (by omega) (by omega)).mono ?_
  rintro e w9 ⟨rfl, hb⟩
  replace E := E.mono hb
  clear hb
  obtain ⟨na, aa, ka, ca, ⟨d0, d1, d2, d3⟩, hA⟩ := E.bs.2.1
  obtain ⟨nb, bb, kb, cb, ⟨f0, f1, f2, f3⟩, hB⟩ := E.bs.1
  have hp := HP.out
  go_wp2_with fail
  refine (CmpV hA hB).mono ?_
  rintro e w10 ⟨rfl, hb⟩
  rw [HCM.out]
  replace E := E.mono hb
  clear hb
  clear d0 d1 d2 d3 f0 f1 f2 f3 hA hB
  obtain ⟨na, aa, ka, ca, ⟨d0, d1, d2, d3⟩, hA⟩ := E.bs.2.1
  obtain ⟨nb, bb, kb, cb, ⟨f0, f1, f2, f3⟩, hB⟩ := E.bs.1
  go_wp2_with fail
  refine (CmpV hA hB).mono ?_
  rintro e w11 ⟨rfl, hb⟩
  rw [HCM.out]
  replace E := E.mono hb
  clear hb
  clear d0 d1 d2 d3 f0 f1 f2 f3 hA hB
  obtain ⟨na, aa, ka, ca, ⟨d0, d1, d2, d3⟩, hA⟩ := E.bs.2.1
  obtain ⟨nb, bb, kb, cb, ⟨f0, f1, f2, f3⟩, hB⟩ := E.bs.1
  go_wp2_with fail
  clear hp hcm1 hcm2 hcm4
  by_cases hy : y = 0
  case' pos =>
    refine (DivModV hA hB).mono ?_
    rintro e w12 ⟨hb, ⟨h0, rfl⟩ | ⟨h0, _⟩⟩
    rotate_left
    · exact absurd hy h0
    replace E := E.mono hb
    clear hb
    clear d0 d1 d2 d3 f0 f1 f2 f3 hA hB
    clear h0
    subst hy
    go_upto_region 13 with (fail)
    obtain ⟨w13, hw13, hb, x13, y13⟩ := boxTwo (Num.zero w12) (Num.zero w12) 27
    rw [← hw13]
    clear hw13
    replace E := ((E.mono hb).push x13).push y13
    clear hb x13 y13
    go_wp2_with fail
  case' neg =>
    obtain ⟨q, r, u, hq, hr, hu, hur, hr0, hr1, hq0, hq1⟩ := div_small hx0 hx1 hy
    have HU := hidd hu
    clear hu
    refine (exDiv hA hB hy hq hr (by unfold ab; omega) (by unfold ab; omega)).mono ?_
    rintro e w14 ⟨n14, ao14, k14, c14, n14', ao14', k14', c14', rfl, hb, hq14, hr14⟩
    replace E := E.mono hb
    clear hb
    clear d0 d1 d2 d3 f0 f1 f2 f3 hA hB
    clear hq hr
    go_upto_region 13 with (fail)
    obtain ⟨w15, hw15, hb, x15, y15⟩ := boxTwo hq14 hr14 27
    rw [← hw15]
    clear hw15
    replace E := ((E.mono hb).push y15).push x15
    clear hb x15 y15
    obtain ⟨na, aa, ka, ca, ⟨d0, d1, d2, d3⟩, hA⟩ := E.bs.1
    go_wp2_with fail
    refine (exLow hA (by omega) (by omega)).mono ?_
    rintro e w16 ⟨rfl, hb⟩
    replace E := E.mono hb
    clear hb
    clear d0 d1 d2 d3 hA
    obtain ⟨na, aa, ka, ca, ⟨d0, d1, d2, d3⟩, hA⟩ := E.bs.2.1
    have hu := HU.out
    go_wp2_with fail
    refine (exLow hA (by omega) (by omega)).mono ?_
    rintro e w17 ⟨rfl, hb⟩
    replace E := E.mono hb
    clear hb
    clear d0 d1 d2 d3 hA
    go_wp2_with fail
  all_goals
    refine (exIntP (Of_any _ (9223372036854775807) (by omega) (by omega)) (by unfold ab; omega)).mono ?_
    rintro e w18 ⟨n18, a18, k18, c18, rfl, hb, h18⟩
    replace E := E.mono hb
    clear hb
    go_wp2_with fail
    obtain ⟨w19, hw19, hb, x19⟩ := boxOne h18 27
    rw [← hw19]
    clear hw19
    replace E := (E.mono hb).push x19
    clear hb x19
    refine (exIntP (Of_any _ (-9223372036854775808) (by omega) (by omega)) (by unfold ab; omega)).mono ?_
    rintro e w20 ⟨n20, a20, k20, c20, rfl, hb, h20⟩
    replace E := E.mono hb
    clear hb
    go_upto_region 20 with (fail)
    obtain ⟨w21, hw21, hb, x21⟩ := boxOne h20 27
    rw [← hw21]
    clear hw21
    replace E := (E.mono hb).push x21
    clear hb x21
    obtain ⟨na, aa, ka, ca, ⟨d0, d1, d2, d3⟩, hA⟩ := E.bs.2.1
    go_wp2_with fail
    refine (exLow hA (by omega) (by omega)).mono ?_
    rintro e w22 ⟨rfl, hb⟩
    replace E := E.mono hb
    clear hb
    clear d0 d1 d2 d3 hA
    obtain ⟨na, aa, ka, ca, ⟨d0, d1, d2, d3⟩, hA⟩ := E.bs.1
    go_wp2_with fail
    refine (exLow hA (by omega) (by omega)).mono ?_
    rintro e w23 ⟨rfl, hb⟩
    replace E := E.mono hb
    clear hb
    clear d0 d1 d2 d3 hA
    have X := E.bs.2.1
    go_wp2
    have hp := plan_fix [.num (9223372036854775807), .num 1, .num (9223372036854775807 + 1), .is (.tuple #[.int .i64 0, .bool false]), .is (.tuple #[.int .i64 0, .bool false]), .is (.int .i64 0), .is (.bool false), .is (.int .i64 0), .is (.bool false)] w23
    refine region_steps (p := mkPlan [.num (9223372036854775807), .num 1, .num (9223372036854775807 + 1), .is (.tuple #[.int .i64 0, .bool false]), .is (.tuple #[.int .i64 0, .bool false]), .is (.int .i64 0), .is (.bool false), .is (.int .i64 0), .is (.bool false)] [] []) (B := w23.heap.size) (B0 := w23.heap.size) (w0 := w23) (by kernel_rfl) rfl rfl (start_fix _ _) ⟨?_, ?_, ?_, ?_, ?_, ?_, ?_, ?_, ?_, trivial⟩ ?_
    · exact st_loadFix hp rfl X rfl rfl (fun v w h => h) ⟨by simp [mkPlan], by simp [mkPlan]⟩
    · exact st_callC hp enter_Of (fun w => OfV w 1 (by omega) (by omega)) ⟨by simp [mkPlan], by simp [mkPlan]⟩
    · exact st_call2 (j := 0) (j' := 1) hp rfl rfl (by simp) rfl rfl (by simp) rfl enter_Add (fun v v' w h h' => exInt (AddV h h') (by decide)) ⟨by simp [mkPlan], by simp [mkPlan]⟩
    · exact st_call1 (j := 2) hp rfl rfl (by simp) rfl enter_Low (fun v w h => (LowV h).mono fun e w' h' => ⟨_, h'.1, h'.2, rfl⟩) ⟨by simp [mkPlan], by simp [mkPlan]⟩
    · exact st_move (j := 3) hp rfl rfl (by simp) rfl (fun v w h => h) ⟨by simp [mkPlan], by simp [mkPlan]⟩
    · exact st_extract (j := 4) (k := 0) hp rfl rfl (by simp) rfl (fun v w h => ⟨_, _, h, rfl, rfl⟩) ⟨by simp [mkPlan], by simp [mkPlan]⟩
    · exact st_extract (j := 4) (k := 1) hp rfl rfl (by simp) rfl (fun v w h => ⟨_, _, h, rfl, rfl⟩) ⟨by simp [mkPlan], by simp [mkPlan]⟩
    · exact st_assign (j := 5) hp rfl rfl (by simp) rfl (fun v w h => h) ⟨by simp [mkPlan], by simp [mkPlan]⟩
    · exact st_assign (j := 6) hp rfl rfl (by simp) rfl (fun v w h => h) ⟨by simp [mkPlan], by simp [mkPlan]⟩
    intro L vs w24 hL hG
    have e3 : vs 3 = .tuple #[.int .i64 0, .bool false] := hG.val 3 (hL 3 (by simp))
    have e4 : vs 4 = .tuple #[.int .i64 0, .bool false] := hG.val 4 (hL 4 (by simp))
    have e5 : vs 5 = .int .i64 0 := hG.val 5 (hL 5 (by simp))
    have e6 : vs 6 = .bool false := hG.val 6 (hL 6 (by simp))
    have e7 : vs 7 = .int .i64 0 := hG.val 7 (hL 7 (by simp))
    have e8 : vs 8 = .bool false := hG.val 8 (hL 8 (by simp))
    have hb := hG.below
    replace E := E.mono hb
    clear hb
    rw [lay_all hL]
    simp only [putAll, dstOf, List.length_cons, List.length_nil, Nat.zero_add, Nat.reduceAdd, List.getElem?_toArray, List.getElem?_cons_zero, List.getElem?_cons_succ, Option.bind_some, Act.put, List.setIfInBounds_toArray, List.set_cons_succ, List.set_cons_zero]
    rw [e3, e4, e5, e6, e7, e8]
    generalize vs 0 = u0
    generalize vs 1 = u1
    generalize vs 2 = u2
    clear hL hG hp e3 e4 e5 e6 e7 e8 X L vs
    have X := E.bs.1
    go_wp2
    have hp := plan_fix [.num (-9223372036854775808), .num 1, .num (-9223372036854775808 - 1), .is (.tuple #[.int .i64 0, .bool false]), .is (.tuple #[.int .i64 0, .bool false]), .is (.int .i64 0), .is (.bool false), .is (.int .i64 0), .is (.bool false)] w24
    refine region_steps (p := mkPlan [.num (-9223372036854775808), .num 1, .num (-9223372036854775808 - 1), .is (.tuple #[.int .i64 0, .bool false]), .is (.tuple #[.int .i64 0, .bool false]), .is (.int .i64 0), .is (.bool false), .is (.int .i64 0), .is (.bool false)] [] []) (B := w24.heap.size) (B0 := w24.heap.size) (w0 := w24) (by kernel_rfl) rfl rfl (start_fix _ _) ⟨?_, ?_, ?_, ?_, ?_, ?_, ?_, ?_, ?_, trivial⟩ ?_
    · exact st_loadFix hp rfl X rfl rfl (fun v w h => h) ⟨by simp [mkPlan], by simp [mkPlan]⟩
    · exact st_callC hp enter_Of (fun w => OfV w 1 (by omega) (by omega)) ⟨by simp [mkPlan], by simp [mkPlan]⟩
    · exact st_call2 (j := 0) (j' := 1) hp rfl rfl (by simp) rfl rfl (by simp) rfl enter_Sub (fun v v' w h h' => exInt (SubV h h') (by decide)) ⟨by simp [mkPlan], by simp [mkPlan]⟩
    · exact st_call1 (j := 2) hp rfl rfl (by simp) rfl enter_Low (fun v w h => (LowV h).mono fun e w' h' => ⟨_, h'.1, h'.2, rfl⟩) ⟨by simp [mkPlan], by simp [mkPlan]⟩
    · exact st_move (j := 3) hp rfl rfl (by simp) rfl (fun v w h => h) ⟨by simp [mkPlan], by simp [mkPlan]⟩
    · exact st_extract (j := 4) (k := 0) hp rfl rfl (by simp) rfl (fun v w h => ⟨_, _, h, rfl, rfl⟩) ⟨by simp [mkPlan], by simp [mkPlan]⟩
    · exact st_extract (j := 4) (k := 1) hp rfl rfl (by simp) rfl (fun v w h => ⟨_, _, h, rfl, rfl⟩) ⟨by simp [mkPlan], by simp [mkPlan]⟩
    · exact st_assign (j := 5) hp rfl rfl (by simp) rfl (fun v w h => h) ⟨by simp [mkPlan], by simp [mkPlan]⟩
    · exact st_assign (j := 6) hp rfl rfl (by simp) rfl (fun v w h => h) ⟨by simp [mkPlan], by simp [mkPlan]⟩
    intro L vs w25 hL hG
    have e3 : vs 3 = .tuple #[.int .i64 0, .bool false] := hG.val 3 (hL 3 (by simp))
    have e4 : vs 4 = .tuple #[.int .i64 0, .bool false] := hG.val 4 (hL 4 (by simp))
    have e5 : vs 5 = .int .i64 0 := hG.val 5 (hL 5 (by simp))
    have e6 : vs 6 = .bool false := hG.val 6 (hL 6 (by simp))
    have e7 : vs 7 = .int .i64 0 := hG.val 7 (hL 7 (by simp))
    have e8 : vs 8 = .bool false := hG.val 8 (hL 8 (by simp))
    have hb := hG.below
    replace E := E.mono hb
    clear hb
    rw [lay_all hL]
    simp only [putAll, dstOf, List.length_cons, List.length_nil, Nat.zero_add, Nat.reduceAdd, List.getElem?_toArray, List.getElem?_cons_zero, List.getElem?_cons_succ, Option.bind_some, Act.put, List.setIfInBounds_toArray, List.set_cons_succ, List.set_cons_zero]
    rw [e3, e4, e5, e6, e7, e8]
    generalize vs 0 = u0
    generalize vs 1 = u1
    generalize vs 2 = u2
    clear hL hG hp e3 e4 e5 e6 e7 e8 X L vs
    replace E := E.mono (Below.drew (Below.refl _ _))
    obtain ⟨c0, c1, c2, c3⟩ := E.box
    go_wp2
    go_region_with (first | (go_at_call 43; (with_reducible refine (Valid_any _ _ _ _ _ _ E.sl hn).mono ?_); rintro e wv ⟨rfl, hb⟩; replace E := E.mono hb; obtain ⟨c0, c1, c2, c3⟩ := E.box) | (go_at_call 44; (with_reducible refine (rValid_any _ _ _ _ _ _ E.sl hn).mono ?_); rintro e wv ⟨rfl, hb⟩; replace E := E.mono hb))
    all_goals go_wp2
    all_goals go_ret
    all_goals exact ⟨rfl, E.below⟩

end Go.Proofs.Ytplpammfbljaoaa
