/- Walk of the law on powers and roots. -/
import Derived.Test.YtplpammfbljaoaaLw
namespace Go.Proofs.Ytplpammfbljaoaa
open Go Go.RowKit

theorem ab_powB {x : Int} {k : Nat} (hx : ab x < pw k) (n : Nat) : ab (x ^ n) < pw (k * n + 1) := by
  induction n with
  | zero => show ab (x ^ 0) < pw 1; rw [Int.pow_zero]; decide
  | succ n ih =>
    rw [Int.pow_succ, show k * (n + 1) + 1 = (k * n + 1) + k by rw [Nat.mul_succ]; omega]
    exact ab_mulB ih hx

theorem ab_powM {x : Int} {k : Nat} (hx : ab x < pw k) {n m : Nat} (hm : k * n + 1 ≤ m) : ab (x ^ n) < pw m :=
  Int.lt_of_lt_of_le (ab_powB hx n) (pw_le hm)

theorem lim_pw (k j : Nat) (h : 32 * j = k) : lim k = pw j := by unfold lim; rw [pw_two, h]

theorem exPowN {w : World} {v : Value} {z : Int} {K M m : Nat} (h : Num w v z) (hz : ab z < pw K) (hK : K ≤ 60000) (hm : m ≤ 4096) (hp : ab (z ^ m) < pw M) (hM : M ≤ 128) :
    Calls Try.prog 39 #[v, .int .i64 (m : Int)] w (ROne w (z ^ m)) :=
  (PowV h (Int.lt_of_lt_of_le hz (pw_le hK)) (m : Int) (by omega) (by omega)).mono fun e w' hg => by
    have hl : pw M ≤ lim 4096 := by rw [lim_pw 4096 128 rfl]; exact pw_le hM
    have s2 := hp
    unfold ab at s2
    rw [show PowGives w z (m : Int) e w' = _ from rfl] at hg
    unfold PowGives at hg
    rw [Int.toNat_natCast] at hg
    obtain ⟨hbl, ⟨h0, _⟩ | ⟨_, _, h0, _⟩ | ⟨_, _, _, _, v1, rfl, i1⟩⟩ := hg
    · omega
    · omega
    · have n1 := num_of i1 hp (by omega)
      obtain ⟨n, ao, k, c, rfl⟩ := n1.parts
      exact ⟨_, _, _, _, rfl, hbl, n1⟩

theorem pow_lt_pow {z : Int} {m : Nat} (hz : 0 ≤ z) (hm : 1 ≤ m) : z ^ m < (z + 1) ^ m := by
  obtain ⟨j, rfl⟩ : ∃ j, m = j + 1 := ⟨m - 1, by omega⟩
  rw [Int.pow_succ, Int.pow_succ, Int.mul_add, Int.mul_one]
  have h1 := Int.mul_le_mul_of_nonneg_right (pow_mono hz (show z ≤ z + 1 by omega) j) hz
  have h2 : 0 < (z + 1) ^ j := Int.pow_pos (by omega)
  omega

theorem root_of_pow {z : Int} {m : Nat} (hz : 0 ≤ z) (hm : 1 ≤ m) : IsRoot (z ^ m) m z := ⟨hz, Int.le_refl _, pow_lt_pow hz hm⟩

theorem exRootN {w : World} {v : Value} {z : Int} {K M m : Nat} (h : Num w v (z ^ m)) (hz0 : 0 ≤ z) (hm : 1 ≤ m) (hm2 : m ≤ 1000000) (hp : ab (z ^ m) < pw M) (hM : M ≤ 60000) (hz : ab z < pw K) (hK : K ≤ 900000) :
    Calls Try.prog 37 #[v, .int .i64 (m : Int)] w (ROne w z) :=
  (RootV h (Int.lt_of_lt_of_le hp (pw_le hM)) (m : Int) (by omega) (by omega)).mono fun e w' hg => by
    unfold RootGives at hg
    rw [Int.toNat_natCast] at hg
    have hpos : 0 ≤ z ^ m := Int.pow_nonneg hz0
    obtain ⟨hbl, ⟨h0, _⟩ | ⟨_, v1, r, rfl, i1, hr⟩⟩ := hg
    · omega
    · obtain rfl := hr.unique (root_of_pow hz0 hm)
      have n1 := num_of i1 hz hK
      obtain ⟨n, ao, k, c, rfl⟩ := n1.parts
      exact ⟨_, _, _, _, rfl, hbl, n1⟩

theorem exSqrtN {w : World} {v : Value} {z : Int} {K : Nat} (h : Num w v (z * z - 1)) (hz0 : 1 ≤ z) (hz : ab z < pw K) (hK : K ≤ 20000) :
    Calls Try.prog 35 #[v] w (RTwo w (z - 1) ((z - 1) * 2)) := by
  have hp1 : (1 : Int) < pw 1 := by decide
  have h1 : ab (1 : Int) < pw 1 := by decide
  have h2 : ab (2 : Int) < pw 1 := by decide
  have hsq : ab (z * z - 1) < pw (K + K + 1 + 1) := ab_subB (ab_mulB hz hz) h1 (by omega) (by omega)
  have hm1 : ab (z - 1) < pw (K + 1 + 1) := ab_subB hz h1 (by omega) (by omega)
  have hm2 : ab ((z - 1) * 2) < pw (K + 1 + 1 + 1) := ab_mulM hm1 h2 (by omega)
  have hzz : 1 * 1 ≤ z * z := Int.mul_le_mul hz0 hz0 (by omega) (by omega)
  have e0 : (z - 1) * (z - 1) = z * z - z - z + 1 := by rw [Int.sub_mul, Int.mul_sub, Int.mul_one, Int.one_mul]; omega
  have hroot : IsRoot (z * z - 1) 2 (z - 1) := by
    refine ⟨by omega, ?_, ?_⟩
    · rw [Int.pow_succ, Int.pow_succ, Int.pow_zero, Int.one_mul, e0]; omega
    · rw [Int.pow_succ, Int.pow_succ, Int.pow_zero, Int.one_mul, show z - 1 + 1 = z by omega]; omega
  refine (SqrtV h (Int.lt_of_lt_of_le hsq (pw_le (by omega)))).mono fun e w' hg => ?_
  obtain ⟨hbl, ⟨h0, _⟩ | ⟨_, v1, v2, r, rfl, i1, i2, hr⟩⟩ := hg
  · omega
  · obtain rfl := hr.unique hroot
    rw [show z * z - 1 - (z - 1) * (z - 1) = (z - 1) * 2 by rw [e0]; omega] at i2
    have n1 := num_of i1 hm1 (by omega)
    have n2 := num_of i2 hm2 (by omega)
    obtain ⟨n, ao, k, c, rfl⟩ := n1.parts
    obtain ⟨n', ao', k', c', rfl⟩ := n2.parts
    exact ⟨_, _, _, _, _, _, _, _, rfl, hbl, n1, n2⟩

set_option maxRecDepth 100000 in
set_option maxHeartbeats 16000000 in
theorem IntegerPowers_any (w : World) (n1 : Bool) (a1 : Option Addr) (k1 c1 : Nat) (xs1 : List Int) (h1 : Sl w a1 k1 c1 xs1) (hk1 : k1 ≤ 9223372036854775807) (p : Int) (hp0 : 0 ≤ p) (hp1 : p ≤ 255) (q : Int) (hq0 : 0 ≤ q) (hq1 : q ≤ 255) :
    Calls Try.prog 8 #[.agg #[.bool n1, .slice a1 k1 c1], .int .u8 p, .int .u8 q] w fun e w' => e = .returned (.bool true) ∧ Below w.heap.size w w' := by
  obtain ⟨x, hx⟩ : ∃ x, x = sgn n1 (val (xs1.take 3)) := ⟨_, rfl⟩
  have Bx : Hid (ab x < pw 3) := by rw [hx]; exact Num.ofMade h1.digs
  have Hx := hidd hx
  clear hx
  go_enter Try.func8, Try.ntmps8
  go_upto_region 1 with (fail)
  obtain ⟨w0, hw0, E⟩ := raw_boxes1 w (n1 := n1) h1 24
  rw [← hw0]
  clear hw0
  go_wp2_with fail
  refine (examples_any _).mono ?_
  rintro e w1 ⟨rfl, hb⟩
  replace E := E.mono hb
  clear hb
  obtain ⟨⟨d0, d1, d2, d3⟩, hS⟩ := E.raws.1
  go_wp2_with fail
  refine (exKP (z := x) (by rw [Hx.out]; exact Made_any _ _ _ _ _ _ hS hk1 3 (by omega)) Bx.out (by omega)).mono ?_
  rintro e w2 ⟨n2', ao2, kk2, c2', rfl, hb, hN2⟩
  replace E := E.mono hb
  clear hb
  clear d0 d1 d2 d3 hS
  go_upto_region 5 with (fail)
  obtain ⟨w3, hw3, hb, p3_0⟩ := boxOne hN2 27
  rw [← hw3]
  clear hw3
  replace E := E.mono hb
  replace E := E.push p3_0
  clear hb p3_0
  go_upto_region 7 with (fail)
  obtain ⟨i, hi⟩ : ∃ i : Nat, p % 13 = i := ⟨(p % 13).toNat, by omega⟩
  obtain ⟨j, hj⟩ : ∃ j : Nat, q % 13 = j := ⟨(q % 13).toNat, by omega⟩
  have hi12 : i ≤ 12 := by omega
  have hj12 : j ≤ 12 := by omega
  rw [hi, hj]
  have Hi := hidd hi12
  have Hj := hidd hj12
  have hij : wrap64 ((i : Int) + (j : Int)) = ((i + j : Nat) : Int) := by rw [Int.natCast_add]; simp only [wrap64]; omega
  have h1j : wrap64 (1 + (j : Int)) = ((1 + j : Nat) : Int) := by rw [Int.natCast_add]; simp only [wrap64]; omega
  clear hi hj hi12 hj12
  have B4 : Hid (ab ((x ^ i)) < pw 37) := ab_powM Bx.out (by have := Hi.out; omega)
  have B5 : Hid (ab ((x ^ j)) < pw 37) := ab_powM Bx.out (by have := Hj.out; omega)
  have B6 : Hid (ab ((x ^ (i + j))) < pw 73) := ab_powM Bx.out (by have := Hi.out; have := Hj.out; omega)
  obtain ⟨nd, aod, kkd, ccd, ⟨d0, d1, d2, d3⟩, hNd⟩ := E.bs.1
  go_wp2_with fail
  refine (exPowN (m := i) hNd Bx.out (by omega) (by have := Hi.out; have := Hj.out; omega) B4.out (by omega)).mono ?_
  rintro e w7 ⟨n7', ao7, kk7, c7', rfl, hb, hN7⟩
  replace E := E.mono hb
  clear hb
  go_upto_region 8 with (fail)
  obtain ⟨w8, hw8, hb, p8_0⟩ := boxOne hN7 27
  rw [← hw8]
  clear hw8
  replace E := E.mono hb
  replace E := E.push p8_0
  clear hb p8_0
  clear d0 d1 d2 d3 hNd
  obtain ⟨nd, aod, kkd, ccd, ⟨d0, d1, d2, d3⟩, hNd⟩ := E.bs.2.1
  go_wp2_with fail
  refine (exPowN (m := j) hNd Bx.out (by omega) (by have := Hi.out; have := Hj.out; omega) B5.out (by omega)).mono ?_
  rintro e w9 ⟨n9', ao9, kk9, c9', rfl, hb, hN9⟩
  replace E := E.mono hb
  clear hb
  go_upto_region 9 with (fail)
  obtain ⟨w10, hw10, hb, p10_0⟩ := boxOne hN9 27
  rw [← hw10]
  clear hw10
  replace E := E.mono hb
  replace E := E.push p10_0
  clear hb p10_0
  clear d0 d1 d2 d3 hNd
  obtain ⟨nd, aod, kkd, ccd, ⟨d0, d1, d2, d3⟩, hNd⟩ := E.bs.2.2.1
  go_wp2_with fail
  refine (exPowN (m := (i + j)) hNd Bx.out (by omega) (by have := Hi.out; have := Hj.out; omega) B6.out (by omega)).mono ?_
  rintro e w11 ⟨n11', ao11, kk11, c11', rfl, hb, hN11⟩
  replace E := E.mono hb
  clear hb
  go_upto_region 10 with (fail)
  obtain ⟨w12, hw12, hb, p12_0⟩ := boxOne hN11 27
  rw [← hw12]
  clear hw12
  replace E := E.mono hb
  replace E := E.push p12_0
  clear hb p12_0
  clear d0 d1 d2 d3 hNd
  have E1 : Hid (((x ^ i) * (x ^ j)) = (x ^ (i + j))) := (Int.pow_add x i j).symm
  have B13 : Hid (ab (((x ^ i) * (x ^ j))) < pw 74) := ab_mulM B4.out B5.out (by omega)
  have X8_0 := E.bs.2.2.1
  have X10_0 := E.bs.2.1
  have X12_0 := E.bs.1
  have hp : (plan [Fc.is (.int .i64 0), Fc.is (.bool false), Fc.is (.bool false), Fc.is (.int .i64 0), Fc.is (.bool false), Fc.is (.bool false), Fc.is (.bool false), Fc.is (.int .i64 0), Fc.is (.bool false), Fc.is (.bool false), Fc.is (.bool false), Fc.num (x ^ i), Fc.num (x ^ j), Fc.num ((x ^ i) * (x ^ j)), Fc.num (x ^ (i + j)), Fc.is (.bool true), Fc.is (.bool false), Fc.is (.bool false)] [] []).Ok w12.heap.size w12.heap.size := plan_ok (by simp) (by simp) (by simp) (by omega)
  have hm := PMono.of hp
  refine region_steps (p := (plan [Fc.is (.int .i64 0), Fc.is (.bool false), Fc.is (.bool false), Fc.is (.int .i64 0), Fc.is (.bool false), Fc.is (.bool false), Fc.is (.bool false), Fc.is (.int .i64 0), Fc.is (.bool false), Fc.is (.bool false), Fc.is (.bool false), Fc.num (x ^ i), Fc.num (x ^ j), Fc.num ((x ^ i) * (x ^ j)), Fc.num (x ^ (i + j)), Fc.is (.bool true), Fc.is (.bool false), Fc.is (.bool false)] [] [])) (B := w12.heap.size) (B0 := w12.heap.size) (w0 := w12) (by kernel_rfl) rfl rfl (plan_start (by simp) (Below.refl _ _)) ⟨?_, ?_, ?_, ?_, ?_, ?_, ?_, ?_, ?_, ?_, ?_, ?_, ?_, ?_, ?_, ?_, ?_, ?_, trivial⟩ ?_
  · exact g_move hm ⟨by simp [plan], by simp [plan]⟩ trivial (src_out rfl rfl (fun _ _ => rfl))
  · exact g_one (F := fun v _ => v = .int .i64 0) hm ⟨by simp [plan], by simp [plan]⟩ trivial (src_in 0 rfl rfl (by simp) rfl (fun v w h => h)) (fun ρ w hc h => ⟨.bool false, by simp [execOp, go_sem, h, hc], rfl⟩)
  · exact g_move hm ⟨by simp [plan], by simp [plan]⟩ trivial (src_in 1 rfl rfl (by simp) rfl (fun v w h => h))
  · exact g_move hm ⟨by simp [plan], by simp [plan]⟩ (gd_some rfl rfl (by simp) rfl (fun v w h => h)) (src_out rfl rfl (fun _ _ => rfl))
  · exact g_one (F := fun v _ => v = .int .i64 0) hm ⟨by simp [plan], by simp [plan]⟩ (gd_some rfl rfl (by simp) rfl (fun v w h => h)) (src_in 3 rfl rfl (by simp) rfl (fun v w h => h)) (fun ρ w hc h => ⟨.bool false, by simp [execOp, go_sem, h, hc], rfl⟩)
  · exact g_pickF hm ⟨by simp [plan], by simp [plan]⟩ trivial (src_in 2 rfl rfl (by simp) rfl (fun v w h => h)) (src_in 4 rfl rfl (by simp) rfl (fun v w h => h))
  · exact g_move hm ⟨by simp [plan], by simp [plan]⟩ trivial (src_in 5 rfl rfl (by simp) rfl (fun v w h => h))
  · exact g_move hm ⟨by simp [plan], by simp [plan]⟩ (gd_some rfl rfl (by simp) rfl (fun v w h => h)) (src_out rfl rfl (fun _ _ => rfl))
  · exact g_one (F := fun v _ => v = .int .i64 0) hm ⟨by simp [plan], by simp [plan]⟩ (gd_some rfl rfl (by simp) rfl (fun v w h => h)) (src_in 7 rfl rfl (by simp) rfl (fun v w h => h)) (fun ρ w hc h => ⟨.bool false, by simp [execOp, go_sem, h, hc], rfl⟩)
  · exact g_pickF hm ⟨by simp [plan], by simp [plan]⟩ trivial (src_in 6 rfl rfl (by simp) rfl (fun v w h => h)) (src_in 8 rfl rfl (by simp) rfl (fun v w h => h))
  · exact g_move hm ⟨by simp [plan], by simp [plan]⟩ trivial (src_in 9 rfl rfl (by simp) rfl (fun v w h => h))
  · exact g_load (z := (x ^ i)) hm ⟨by simp [plan], by simp [plan]⟩ (gd_some rfl rfl (by simp) rfl (fun v w h => h)) (src_out rfl rfl (fun w h => ⟨rfl, X8_0.mono h⟩)) (fun v w h => h)
  · exact g_load (z := (x ^ j)) hm ⟨by simp [plan], by simp [plan]⟩ (gd_some rfl rfl (by simp) rfl (fun v w h => h)) (src_out rfl rfl (fun w h => ⟨rfl, X10_0.mono h⟩)) (fun v w h => h)
  · exact g_call2 (F := (Fc.num (x ^ i)).P) (G := (Fc.num (x ^ j)).P) hm ⟨by simp [plan], by simp [plan]⟩ (gd_some rfl rfl (by simp) rfl (fun v w h => h)) enter_Mul (src_in 11 rfl rfl (by simp) rfl (fun v w h => h)) (src_in 12 rfl rfl (by simp) rfl (fun v w h => h)) (fun v v' w h h' => exK (MulV h h') B13.out (by omega))
  · exact g_load (z := (x ^ (i + j))) hm ⟨by simp [plan], by simp [plan]⟩ (gd_some rfl rfl (by simp) rfl (fun v w h => h)) (src_out rfl rfl (fun w h => ⟨rfl, X12_0.mono h⟩)) (fun v w h => h)
  · exact g_call2 (F := (Fc.num ((x ^ i) * (x ^ j))).P) (G := (Fc.num (x ^ (i + j))).P) hm ⟨by simp [plan], by simp [plan]⟩ (gd_some rfl rfl (by simp) rfl (fun v w h => h)) enter_Same (src_in 13 rfl rfl (by simp) rfl (fun v w h => h)) (src_in 14 rfl rfl (by simp) rfl (fun v w h => h)) (fun v v' w h h' => exSame h h' E1.out)
  · exact g_not (b := true) hm ⟨by simp [plan], by simp [plan]⟩ (gd_some rfl rfl (by simp) rfl (fun v w h => h)) (src_in 15 rfl rfl (by simp) rfl (fun v w h => h)) (fun _ => rfl)
  · exact g_pickF hm ⟨by simp [plan], by simp [plan]⟩ trivial (src_in 10 rfl rfl (by simp) rfl (fun v w h => h)) (src_in 16 rfl rfl (by simp) rfl (fun v w h => h))
  intro L vs w14 hL hG
  have e0 : vs 0 = .int .i64 0 := hG.val 0 (hL 0 (by simp))
  have e1 : vs 1 = .bool false := hG.val 1 (hL 1 (by simp))
  have e2 : vs 2 = .bool false := hG.val 2 (hL 2 (by simp))
  have e3 : vs 3 = .int .i64 0 := hG.val 3 (hL 3 (by simp))
  have e4 : vs 4 = .bool false := hG.val 4 (hL 4 (by simp))
  have e5 : vs 5 = .bool false := hG.val 5 (hL 5 (by simp))
  have e6 : vs 6 = .bool false := hG.val 6 (hL 6 (by simp))
  have e7 : vs 7 = .int .i64 0 := hG.val 7 (hL 7 (by simp))
  have e8 : vs 8 = .bool false := hG.val 8 (hL 8 (by simp))
  have e9 : vs 9 = .bool false := hG.val 9 (hL 9 (by simp))
  have e10 : vs 10 = .bool false := hG.val 10 (hL 10 (by simp))
  have e15 : vs 15 = .bool true := hG.val 15 (hL 15 (by simp))
  have e16 : vs 16 = .bool false := hG.val 16 (hL 16 (by simp))
  have e17 : vs 17 = .bool false := hG.val 17 (hL 17 (by simp))
  have hb := hG.below
  replace E := E.mono hb
  rw [lay_all hL]
  simp only [putAll, dstOf, List.length_cons, List.length_nil, Nat.zero_add, Nat.reduceAdd, List.getElem?_toArray, List.getElem?_cons_zero, List.getElem?_cons_succ, Option.bind_some, Act.put, List.setIfInBounds_toArray, List.set_cons_succ, List.set_cons_zero]
  rw [e0, e1, e2, e3, e4, e5, e6, e7, e8, e9, e10, e15, e16, e17]
  generalize vs 11 = u14_11
  generalize vs 12 = u14_12
  generalize vs 13 = u14_13
  generalize vs 14 = u14_14
  clear hb hG hp hm hL vs L e0 e1 e2 e3 e4 e5 e6 e7 e8 e9 e10 e15 e16 e17 X8_0 X10_0 X12_0
  obtain ⟨nd, aod, kkd, ccd, ⟨d0, d1, d2, d3⟩, hNd⟩ := E.bs.2.2.2.1
  go_wp2_with fail
  have B15 : Hid (ab ((Int.natAbs x : Int)) < pw 3) := ab_absB Bx.out
  refine (exKP (AbsV hNd) B15.out (by omega)).mono ?_
  rintro e w16 ⟨n16', ao16, kk16, c16', rfl, hb, hN16⟩
  replace E := E.mono hb
  clear hb
  clear d0 d1 d2 d3 hNd
  go_upto_region 13 with (fail)
  obtain ⟨w17, hw17, hb, p17_0⟩ := boxOne hN16 27
  rw [← hw17]
  clear hw17
  replace E := E.mono hb
  replace E := E.push p17_0
  clear hb p17_0
  obtain ⟨b, hbx⟩ : ∃ b : Int, b = (Int.natAbs x : Int) := ⟨_, rfl⟩
  have Hb0 : Hid (0 ≤ b) := by show 0 ≤ b; omega
  have Bb : Hid (ab b < pw 3) := by rw [hbx]; exact B15.out
  rw [← hbx] at E
  clear hbx
  have B18 : Hid (ab ((b ^ (1 + j))) < pw 40) := ab_powM Bb.out (by have := Hj.out; omega)
  obtain ⟨nd, aod, kkd, ccd, ⟨d0, d1, d2, d3⟩, hNd⟩ := E.bs.1
  go_wp2_with fail
  refine (exPowN (m := 1 + j) hNd Bb.out (by omega) (by have := Hj.out; omega) B18.out (by omega)).mono ?_
  rintro e w19 ⟨n19', ao19, kk19, c19', rfl, hb, hN19⟩
  replace E := E.mono hb
  clear hb
  go_upto_region 14 with (fail)
  obtain ⟨w20, hw20, hb, p20_0⟩ := boxOne hN19 27
  rw [← hw20]
  clear hw20
  replace E := E.mono hb
  replace E := E.push p20_0
  clear hb p20_0
  clear d0 d1 d2 d3 hNd
  obtain ⟨nd, aod, kkd, ccd, ⟨d0, d1, d2, d3⟩, hNd⟩ := E.bs.1
  go_wp2_with fail
  refine (exRootN (m := 1 + j) hNd Hb0.out (by omega) (by have := Hj.out; omega) B18.out (by omega) Bb.out (by omega)).mono ?_
  rintro e w21 ⟨n21', ao21, kk21, c21', rfl, hb, hN21⟩
  replace E := E.mono hb
  clear hb
  go_upto_region 15 with (fail)
  obtain ⟨w22, hw22, hb, p22_0⟩ := boxOne hN21 27
  rw [← hw22]
  clear hw22
  replace E := E.mono hb
  replace E := E.push p22_0
  clear hb p22_0
  clear d0 d1 d2 d3 hNd
  obtain ⟨nd, aod, kkd, ccd, ⟨d0, d1, d2, d3⟩, hNd⟩ := E.bs.1
  obtain ⟨nf, aof, kkf, ccf, ⟨f0, f1, f2, f3⟩, hNf⟩ := E.bs.2.2.1
  go_wp2_with fail
  refine (exSame hNd hNf rfl).mono ?_
  rintro e w23 ⟨_, rfl, hb, rfl⟩
  replace E := E.mono hb
  clear hb
  clear d0 d1 d2 d3 hNd f0 f1 f2 f3 hNf
  by_cases hb0 : b = 0
  · obtain ⟨nd, aod, kkd, ccd, ⟨d0, d1, d2, d3⟩, hNd⟩ := E.bs.2.2.1
    obtain rfl := hNd.len_zero.1.2 hb0
    clear hb0
    go_wp2
    go_ret
    exact ⟨rfl, E.below⟩
  · obtain ⟨nd, aod, kkd, ccd, ⟨d0, d1, d2, d3⟩, hNd⟩ := E.bs.2.2.1
    have hkd : ((kkd : Int) == 0) = false := by simp; exact fun h => hb0 (hNd.len_zero.1.1 h)
    have Hb1 : Hid (1 ≤ b) := by have := Hb0.out; show 1 ≤ b; omega
    clear hb0
    go_wp2_with fail
    clear hkd
    clear d0 d1 d2 d3 hNd
    have B24 : Hid (ab (1) < pw 2) := by show ab (1) < pw 2; decide
    have B25 : Hid (ab ((b - (1))) < pw 4) := ab_subB Bb.out B24.out (by omega) (by omega)
    have X17_0 := E.bs.2.2.1
    have hp : (plan [Fc.num b, Fc.num (1), Fc.num (b - (1)), Fc.any, Fc.any] [] [(3, 4, (b - (1)))]).Ok w23.heap.size w23.heap.size := plan_ok (by simp) (by simp) (by simp) (by omega)
    have hm := PMono.of hp
    refine region_steps (p := (plan [Fc.num b, Fc.num (1), Fc.num (b - (1)), Fc.any, Fc.any] [] [(3, 4, (b - (1)))])) (B := w23.heap.size) (B0 := w23.heap.size) (w0 := w23) (by kernel_rfl) rfl rfl (plan_start (by simp) (Below.refl _ _)) ⟨?_, ?_, ?_, ?_, ?_, trivial⟩ ?_
    · exact g_load (z := b) hm ⟨by simp [plan], by simp [plan]⟩ trivial (src_out rfl rfl (fun w h => ⟨rfl, X17_0.mono h⟩)) (fun v w h => h)
    · exact g_callC hm ⟨by simp [plan], by simp [plan]⟩ trivial enter_Of (fun w => OfV w (1) (by omega) (by omega))
    · exact g_call2 (F := (Fc.num b).P) (G := (Fc.num (1)).P) hm ⟨by simp [plan], by simp [plan]⟩ trivial enter_Sub (src_in 0 rfl rfl (by simp) rfl (fun v w h => h)) (src_in 1 rfl rfl (by simp) rfl (fun v w h => h)) (fun v v' w h h' => exK (SubV h h') B25.out (by omega))
    · exact st_alloc (k := 4) (z := (b - (1))) hp (by simp [plan]) rfl (fun _ _ => trivial) (by simp [plan]) (by simp [plan])
    · exact st_storeNew (i0 := 3) (j := 2) (z := (b - (1))) hp rfl (by simp [plan]) rfl (by simp) rfl rfl (by simp) rfl (fun v w h => h) (fun _ _ => trivial) (by simp [plan]) (by simp [plan])
    intro L vs w26 hL hG
    obtain ⟨b26_3, e3, _, x3⟩ := hG.new (3, 4, (b - (1))) (by simp [plan]) (hL 3 (by simp))
    have x3' : BoxNum w26 b26_3 (b - (1)) := by have h := x3; simp only [hL 4 (by simp), if_true] at h; exact h
    have hb := hG.below
    replace E := E.mono hb
    replace E := E.push x3'
    rw [lay_all hL]
    simp only [putAll, dstOf, List.length_cons, List.length_nil, Nat.zero_add, Nat.reduceAdd, List.getElem?_toArray, List.getElem?_cons_zero, List.getElem?_cons_succ, Option.bind_some, Act.put, List.setIfInBounds_toArray, List.set_cons_succ, List.set_cons_zero]
    rw [e3]
    generalize vs 0 = u26_0
    generalize vs 1 = u26_1
    generalize vs 2 = u26_2
    clear hb hG hp hm hL vs L e3 x3 x3' X17_0
    go_upto_region 20 with (fail)
    have B27 : Hid (ab ((b * b)) < pw 6) := ab_mulM Bb.out Bb.out (by omega)
    have B28 : Hid (ab (((b * b) - (1))) < pw 7) := ab_subB B27.out B24.out (by omega) (by omega)
    obtain ⟨nd, aod, kkd, ccd, ⟨d0, d1, d2, d3⟩, hNd⟩ := E.bs.2.2.2.1
    go_wp2_with fail
    refine (exK (MulV hNd hNd) B27.out (by omega)).mono ?_
    rintro e wA ⟨vA, rfl, hb, hA⟩
    replace E := E.mono hb
    clear hb
    go_wp2_with fail
    clear d0 d1 d2 d3 hNd
    refine (OfV _ (1) (by omega) (by omega)).mono ?_
    rintro e wB ⟨vB, rfl, hb, hB⟩
    replace E := E.mono hb
    replace hA := hA.mono hb
    clear hb
    go_wp2_with fail
    refine (exK (SubV hA hB) B28.out (by omega)).mono ?_
    rintro e wC ⟨vC, rfl, hb, hC⟩
    replace E := E.mono hb
    clear hb
    go_wp2_with fail
    refine (exSqrtN hC Hb1.out Bb.out (by omega)).mono ?_
    rintro e w29 ⟨n29', ao29, kk29, c29', n29'', ao29', kk29', c29'', rfl, hb, hN29, hM29⟩
    replace E := E.mono hb
    clear hb
    go_upto_region 21 with (fail)
    obtain ⟨w30, hw30, hb, p30_0, p30_1⟩ := boxTwo hN29 hM29 27
    rw [← hw30]
    clear hw30
    replace E := E.mono hb
    replace E := E.push p30_0
    replace E := E.push p30_1
    clear hb p30_0 p30_1
    have B31 : Hid (ab (2) < pw 2) := by show ab (2) < pw 2; decide
    have B32 : Hid (ab (((b - (1)) * (2))) < pw 6) := ab_mulM B25.out B31.out (by omega)
    have X30_0 := E.bs.2.1
    have X26_3 := E.bs.2.2.1
    have X30_1 := E.bs.1
    have hp : (plan [Fc.is (.bool true), Fc.is (.bool true), Fc.is (.int .i64 0), Fc.is (.bool true), Fc.is (.bool true), Fc.is (.bool true), Fc.num (b - (1)), Fc.num (b - (1)), Fc.is (.bool true), Fc.is (.bool true), Fc.is (.bool true), Fc.num ((b - (1)) * (2)), Fc.num (b - (1)), Fc.num (2), Fc.num ((b - (1)) * (2)), Fc.is (.bool true), Fc.is (.bool true), Fc.is (.bool true)] [] []).Ok w30.heap.size w30.heap.size := plan_ok (by simp) (by simp) (by simp) (by omega)
    have hm := PMono.of hp
    refine region_steps (p := (plan [Fc.is (.bool true), Fc.is (.bool true), Fc.is (.int .i64 0), Fc.is (.bool true), Fc.is (.bool true), Fc.is (.bool true), Fc.num (b - (1)), Fc.num (b - (1)), Fc.is (.bool true), Fc.is (.bool true), Fc.is (.bool true), Fc.num ((b - (1)) * (2)), Fc.num (b - (1)), Fc.num (2), Fc.num ((b - (1)) * (2)), Fc.is (.bool true), Fc.is (.bool true), Fc.is (.bool true)] [] [])) (B := w30.heap.size) (B0 := w30.heap.size) (w0 := w30) (by kernel_rfl) rfl rfl (plan_start (by simp) (Below.refl _ _)) ⟨?_, ?_, ?_, ?_, ?_, ?_, ?_, ?_, ?_, ?_, ?_, ?_, ?_, ?_, ?_, ?_, ?_, ?_, trivial⟩ ?_
    · exact g_move hm ⟨by simp [plan], by simp [plan]⟩ trivial (src_out rfl rfl (fun _ _ => rfl))
    · exact g_move hm ⟨by simp [plan], by simp [plan]⟩ trivial (src_in 0 rfl rfl (by simp) rfl (fun v w h => h))
    · exact g_move hm ⟨by simp [plan], by simp [plan]⟩ (gd_some rfl rfl (by simp) rfl (fun v w h => h)) (src_out rfl rfl (fun _ _ => rfl))
    · exact g_one (F := fun v _ => v = .int .i64 0) hm ⟨by simp [plan], by simp [plan]⟩ (gd_some rfl rfl (by simp) rfl (fun v w h => h)) (src_in 2 rfl rfl (by simp) rfl (fun v w h => h)) (fun ρ w hc h => ⟨.bool true, by simp [execOp, go_sem, h, hc], rfl⟩)
    · exact g_pick hm ⟨by simp [plan], by simp [plan]⟩ trivial (src_in 1 rfl rfl (by simp) rfl (fun v w h => h)) (src_in 3 rfl rfl (by simp) rfl (fun v w h => h))
    · exact g_move hm ⟨by simp [plan], by simp [plan]⟩ trivial (src_in 4 rfl rfl (by simp) rfl (fun v w h => h))
    · exact g_load (z := (b - (1))) hm ⟨by simp [plan], by simp [plan]⟩ (gd_some rfl rfl (by simp) rfl (fun v w h => h)) (src_out rfl rfl (fun w h => ⟨rfl, X30_0.mono h⟩)) (fun v w h => h)
    · exact g_load (z := (b - (1))) hm ⟨by simp [plan], by simp [plan]⟩ (gd_some rfl rfl (by simp) rfl (fun v w h => h)) (src_out rfl rfl (fun w h => ⟨rfl, X26_3.mono h⟩)) (fun v w h => h)
    · exact g_call2 (F := (Fc.num (b - (1))).P) (G := (Fc.num (b - (1))).P) hm ⟨by simp [plan], by simp [plan]⟩ (gd_some rfl rfl (by simp) rfl (fun v w h => h)) enter_Same (src_in 6 rfl rfl (by simp) rfl (fun v w h => h)) (src_in 7 rfl rfl (by simp) rfl (fun v w h => h)) (fun v v' w h h' => exSame h h' rfl)
    · exact g_pick hm ⟨by simp [plan], by simp [plan]⟩ trivial (src_in 5 rfl rfl (by simp) rfl (fun v w h => h)) (src_in 8 rfl rfl (by simp) rfl (fun v w h => h))
    · exact g_move hm ⟨by simp [plan], by simp [plan]⟩ trivial (src_in 9 rfl rfl (by simp) rfl (fun v w h => h))
    · exact g_load (z := ((b - (1)) * (2))) hm ⟨by simp [plan], by simp [plan]⟩ (gd_some rfl rfl (by simp) rfl (fun v w h => h)) (src_out rfl rfl (fun w h => ⟨rfl, X30_1.mono h⟩)) (fun v w h => h)
    · exact g_load (z := (b - (1))) hm ⟨by simp [plan], by simp [plan]⟩ (gd_some rfl rfl (by simp) rfl (fun v w h => h)) (src_out rfl rfl (fun w h => ⟨rfl, X26_3.mono h⟩)) (fun v w h => h)
    · exact g_callC hm ⟨by simp [plan], by simp [plan]⟩ (gd_some rfl rfl (by simp) rfl (fun v w h => h)) enter_Of (fun w => OfV w (2) (by omega) (by omega))
    · exact g_call2 (F := (Fc.num (b - (1))).P) (G := (Fc.num (2)).P) hm ⟨by simp [plan], by simp [plan]⟩ (gd_some rfl rfl (by simp) rfl (fun v w h => h)) enter_Mul (src_in 12 rfl rfl (by simp) rfl (fun v w h => h)) (src_in 13 rfl rfl (by simp) rfl (fun v w h => h)) (fun v v' w h h' => exK (MulV h h') B32.out (by omega))
    · exact g_call2 (F := (Fc.num ((b - (1)) * (2))).P) (G := (Fc.num ((b - (1)) * (2))).P) hm ⟨by simp [plan], by simp [plan]⟩ (gd_some rfl rfl (by simp) rfl (fun v w h => h)) enter_Same (src_in 11 rfl rfl (by simp) rfl (fun v w h => h)) (src_in 14 rfl rfl (by simp) rfl (fun v w h => h)) (fun v v' w h h' => exSame h h' rfl)
    · exact g_pick hm ⟨by simp [plan], by simp [plan]⟩ trivial (src_in 10 rfl rfl (by simp) rfl (fun v w h => h)) (src_in 15 rfl rfl (by simp) rfl (fun v w h => h))
    · exact g_assign hm ⟨by simp [plan], by simp [plan]⟩ trivial (src_in 16 rfl rfl (by simp) rfl (fun v w h => h))
    intro L vs w33 hL hG
    have e0 : vs 0 = .bool true := hG.val 0 (hL 0 (by simp))
    have e1 : vs 1 = .bool true := hG.val 1 (hL 1 (by simp))
    have e2 : vs 2 = .int .i64 0 := hG.val 2 (hL 2 (by simp))
    have e3 : vs 3 = .bool true := hG.val 3 (hL 3 (by simp))
    have e4 : vs 4 = .bool true := hG.val 4 (hL 4 (by simp))
    have e5 : vs 5 = .bool true := hG.val 5 (hL 5 (by simp))
    have e8 : vs 8 = .bool true := hG.val 8 (hL 8 (by simp))
    have e9 : vs 9 = .bool true := hG.val 9 (hL 9 (by simp))
    have e10 : vs 10 = .bool true := hG.val 10 (hL 10 (by simp))
    have e15 : vs 15 = .bool true := hG.val 15 (hL 15 (by simp))
    have e16 : vs 16 = .bool true := hG.val 16 (hL 16 (by simp))
    have e17 : vs 17 = .bool true := hG.val 17 (hL 17 (by simp))
    have hb := hG.below
    replace E := E.mono hb
    rw [lay_all hL]
    simp only [putAll, dstOf, List.length_cons, List.length_nil, Nat.zero_add, Nat.reduceAdd, List.getElem?_toArray, List.getElem?_cons_zero, List.getElem?_cons_succ, Option.bind_some, Act.put, List.setIfInBounds_toArray, List.set_cons_succ, List.set_cons_zero]
    rw [e0, e1, e2, e3, e4, e5, e8, e9, e10, e15, e16, e17]
    generalize vs 6 = u33_6
    generalize vs 7 = u33_7
    generalize vs 11 = u33_11
    generalize vs 12 = u33_12
    generalize vs 13 = u33_13
    generalize vs 14 = u33_14
    clear hb hG hp hm hL vs L e0 e1 e2 e3 e4 e5 e8 e9 e10 e15 e16 e17 X30_0 X26_3 X30_1
    go_wp2
    go_ret
    exact ⟨rfl, E.below⟩

end Go.Proofs.Ytplpammfbljaoaa
