/- Walk of the law that compares all operations on two integers with the reference. -/
import Derived.Test.YtplpammfbljaoaaRk
import Derived.Test.YtplpammfbljaoaaCm
namespace Go.Proofs.Ytplpammfbljaoaa
open Go Go.RowKit

theorem enter_rCmp (args : Array Value) (w : World) : (callFunc 30 args).run Try.prog w = .ok (.enter 30 args) w := enter_of Try.func30 (by kernel_rfl) rfl args w
theorem enter_Bits (args : Array Value) (w : World) : (callFunc 33 args).run Try.prog w = .ok (.enter 33 args) w := enter_of Try.func33 (by kernel_rfl) rfl args w
theorem enter_rBits (args : Array Value) (w : World) : (callFunc 34 args).run Try.prog w = .ok (.enter 34 args) w := enter_of Try.func34 (by kernel_rfl) rfl args w

theorem exRCmp {w : World} {v v' : Value} {z z' : Int} (h : Num w v z) (h' : Num w v' z') : Calls Try.prog 30 #[v, v'] w fun e w' => ∃ v', e = .returned v' ∧ Below w.heap.size w w' ∧ v' = .int .i64 (cmpI z z') :=
  (RCmpV h h').mono fun _ _ hh => ⟨_, hh.1, hh.2, rfl⟩

theorem isBits_unique {v : Int} {m m' : Nat} (h : IsBits v m) (h' : IsBits v m') : m = m' := by
  rcases h with ⟨h1, h2⟩ | ⟨h1, h2, h3⟩ <;> rcases h' with ⟨h4, h5⟩ | ⟨h4, h5, h6⟩
  · omega
  · have := pow_two_pos (m' - 1); omega
  · have := pow_two_pos (m - 1); omega
  · rcases Nat.lt_trichotomy m m' with h | h | h
    · have := two_pow_le (show m ≤ m' - 1 by omega); omega
    · exact h
    · have := two_pow_le (show m' ≤ m - 1 by omega); omega

open Classical in
/-- The number of binary digits of a number's absolute value. -/
noncomputable def bitsN (z : Int) : Int := if h : ∃ m : Nat, IsBits (ab z) m then (Classical.choose h : Nat) else 0

theorem bitsN_eq {z : Int} {m : Nat} (h : IsBits (ab z) m) : (m : Int) = bitsN z := by
  have he : ∃ m : Nat, IsBits (ab z) m := ⟨m, h⟩
  unfold bitsN
  rw [dif_pos he, isBits_unique h (Classical.choose_spec he)]

theorem exBits {w : World} {v : Value} {z : Int} (h : Num w v z) : Calls Try.prog 33 #[v] w fun e w' => ∃ v', e = .returned v' ∧ Below w.heap.size w w' ∧ v' = .int .i64 (bitsN z) := by
  obtain ⟨neg, ao, n, c, xs, rfl, hs, hn, rfl, hc, _⟩ := h
  refine (Bits_any _ _ _ _ _ _ hs (by omega)).mono fun e w' hh => ?_
  obtain ⟨m, rfl, hm, _, hb⟩ := hh
  exact ⟨_, rfl, hb, by rw [bitsN_eq (z := sgn neg (val xs)) (by rw [ab_sgn, ab_of (val_nonneg hs.digs)]; exact hm)]⟩

theorem exRBits {w : World} {v : Value} {z : Int} (h : Num w v z) : Calls Try.prog 34 #[v] w fun e w' => ∃ v', e = .returned v' ∧ Below w.heap.size w w' ∧ v' = .int .i64 (bitsN z) := by
  obtain ⟨neg, ao, n, c, xs, rfl, hs, hn, rfl, hc, _⟩ := h
  refine (rBits_any _ _ _ _ _ _ hs hc (by omega)).mono fun e w' hh => ?_
  obtain ⟨m, rfl, hm, _, hb⟩ := hh
  exact ⟨_, rfl, hb, by rw [bitsN_eq (z := sgn neg (val xs)) (by rw [ab_sgn, ab_of (val_nonneg hs.digs)]; exact hm)]⟩

/-- Quotient, remainder and error of a division, the one by 0 with them. -/
def dmR (x y : Int) : Int := if y = 0 then 0 else x % y
def dmE (y : Int) : Int := if y = 0 then 4 else 0

def DivU (w : World) (x y : Int) (e : Ending) (w' : World) : Prop :=
  ∃ (n : Bool) (ao : Option Addr) (k c : Nat) (n' : Bool) (ao' : Option Addr) (k' c' : Nat), e = .returned (.tuple #[.agg #[.bool n, .slice ao k c], .agg #[.bool n', .slice ao' k' c'], .int .i64 (dmE y)]) ∧ Below w.heap.size w w' ∧
    Num w' (.agg #[.bool n, .slice ao k c]) (x / y) ∧ Num w' (.agg #[.bool n', .slice ao' k' c']) (dmR x y)

theorem divU {w : World} {x y : Int} {e : Ending} {w' : World} (h : DivGives w x y e w') (hx : ab x < pw 1000) (hy : ab y < pw 1000) : DivU w x y e w' := by
  obtain ⟨hb, ⟨rfl, rfl⟩ | ⟨h0, vq, vr, rfl, iq, ir⟩⟩ := h
  · exact ⟨_, _, _, _, _, _, _, _, rfl, hb, by rw [Int.ediv_zero]; exact Num.zero _, Num.zero _⟩
  · have Nq := num_of iq (ab_divB hx (show 1000 < 1001 by omega)) (by omega)
    have Nr := num_of ir (ab_modB h0 hy) (by omega)
    obtain ⟨n, ao, k, c, rfl⟩ := Nq.parts
    obtain ⟨n', ao', k', c', rfl⟩ := Nr.parts
    have e1 : dmR x y = x % y := if_neg h0
    have e2 : dmE y = 0 := if_neg h0
    exact ⟨_, _, _, _, _, _, _, _, by rw [e2], hb, Nq, by rw [e1]; exact Nr⟩

/-- The coefficients are determined. -/
theorem bez_unique {a b s t s' t' g : Int} (hg : g = (Int.gcd a b : Int)) (h : s * a + t * b = g) (h' : s' * a + t' * b = g)
    (hc : (b = 0 ∧ s = cmpI a 0 ∧ t = 0) ∨ (b ≠ 0 ∧ 0 ≤ s ∧ s < ab b / g)) (hc' : (b = 0 ∧ s' = cmpI a 0 ∧ t' = 0) ∨ (b ≠ 0 ∧ 0 ≤ s' ∧ s' < ab b / g)) : s' = s ∧ t' = t := by
  rcases hc with ⟨h0, h1, h2⟩ | ⟨h0, h1, h2⟩ <;> rcases hc' with ⟨h3, h4, h5⟩ | ⟨h3, h4, h5⟩
  · exact ⟨by rw [h1, h4], by rw [h2, h5]⟩
  · exact absurd h0 h3
  · exact absurd h3 h0
  · have hgp : 0 < g := by rw [hg]; exact gcd_ne h0
    obtain ⟨c, hc⟩ : g ∣ b := by rw [hg]; exact Int.gcd_dvd_right ..
    obtain ⟨d, hd⟩ : g ∣ a := by rw [hg]; exact Int.gcd_dvd_left ..
    have hcb : ab b / g = ab c := by rw [hc, ab_mul, ab_of (Int.le_of_lt hgp), Int.mul_ediv_cancel_left _ (by omega)]
    rw [hcb] at h2 h5
    have e1 : s * d + t * c = 1 := by
      have : g * (s * d + t * c) = g * 1 := by
        rw [Int.mul_add, Int.mul_one]
        have e2 : g * (s * d) = s * a := by rw [hd]; ac_rfl
        have e3 : g * (t * c) = t * b := by rw [hc]; ac_rfl
        rw [e2, e3]; exact h
      exact Int.eq_of_mul_eq_mul_left (by omega) this
    have e2 : s' * d + t' * c = 1 := by
      have : g * (s' * d + t' * c) = g * 1 := by
        rw [Int.mul_add, Int.mul_one]
        have e2 : g * (s' * d) = s' * a := by rw [hd]; ac_rfl
        have e3 : g * (t' * c) = t' * b := by rw [hc]; ac_rfl
        rw [e2, e3]; exact h'
      exact Int.eq_of_mul_eq_mul_left (by omega) this
    have e3 : s' - s = c * (t * s' - s * t') := by
      have e4 : s' * (s * d + t * c) - s * (s' * d + t' * c) = c * (t * s' - s * t') := by
        rw [Int.mul_add, Int.mul_add, Int.mul_sub]
        have f1 : s' * (s * d) = s * (s' * d) := by ac_rfl
        have f2 : s' * (t * c) = c * (t * s') := by ac_rfl
        have f3 : s * (t' * c) = c * (s * t') := by ac_rfl
        omega
      rw [e1, e2] at e4
      omega
    have e5 : s' = s := by
      rcases Int.eq_ofNat_of_zero_le (ab_nonneg (t * s' - s * t')) with ⟨k, hk⟩
      have e6 : ab (s' - s) = ab c * ab (t * s' - s * t') := by rw [e3, ab_mul]
      have e7 : ab (s' - s) < ab c := by unfold ab at *; omega
      rcases (by omega : ab (t * s' - s * t') = 0 ∨ 1 ≤ ab (t * s' - s * t')) with h6 | h6
      · rw [h6, Int.mul_zero] at e6
        unfold ab at e6
        omega
      · have := Int.mul_le_mul_of_nonneg_left h6 (ab_nonneg c)
        omega
    refine ⟨e5, ?_⟩
    subst e5
    have e8 : t' * b = t * b := by omega
    exact Int.eq_of_mul_eq_mul_right h0 e8

/-- Bezout of both, as parts: the same numbers. -/
theorem bezParts {w : World} {a b : Int} {K : Nat} (hK : 1 ≤ K) (_ : K ≤ 400000) (ha : ab a < pw K) (hb : ab b < pw K) {e : Ending} {w' : World} (h : BezGives w a b e w') :
    ∃ s t G : Int, G = (Int.gcd a b : Int) ∧ RThree w G s t e w' ∧ s * a + t * b = G ∧ ((b = 0 ∧ s = cmpI a 0 ∧ t = 0) ∨ (b ≠ 0 ∧ 0 ≤ s ∧ s < ab b / G)) ∧ ab s < pw K ∧ ab t < pw (K + K + 1) ∧ ab G < pw K := by
  obtain ⟨hbl, v1, v2, v3, g1, u, x, rfl, n1, n2, n3, hgcd, hc⟩ := h
  have hc2 : (b = 0 ∧ u = cmpI a 0 ∧ x = 0) ∨ (b ≠ 0 ∧ 0 ≤ u ∧ u < ab b / g1) := by
    rcases hc with h | ⟨h1, h2, h3, _⟩
    · exact .inl h
    · exact .inr ⟨h1, h2, h3⟩
  obtain ⟨f1, f2, f3, f4⟩ := bez_facts hK ha hb (by rw [← hgcd]; exact hc)
  rw [← hgcd] at f1
  obtain ⟨n, ao, k, c, rfl⟩ := n1.parts
  obtain ⟨n', ao', k', c', rfl⟩ := n2.parts
  obtain ⟨n'', ao'', k'', c'', rfl⟩ := n3.parts
  exact ⟨u, x, g1, hgcd, ⟨_, _, _, _, _, _, _, _, _, _, _, _, rfl, hbl, n1, n2, n3⟩, f1, hc2, f3, f4, by rw [hgcd]; exact ab_gcdB ha hb (Nat.le_refl _) (Nat.le_refl _)⟩

set_option maxRecDepth 100000 in
set_option maxHeartbeats 16000000 in
theorem IntegerMatchesReference_any (w : World) (n1 : Bool) (a1 : Option Addr) (k1 c1 : Nat) (xs1 : List Int) (h1 : Sl w a1 k1 c1 xs1) (hk1 : k1 ≤ 9223372036854775807) (n2 : Bool) (a2 : Option Addr) (k2 c2 : Nat) (xs2 : List Int) (h2 : Sl w a2 k2 c2 xs2) (hk2 : k2 ≤ 9223372036854775807) :
    Calls Try.prog 3 #[.agg #[.bool n1, .slice a1 k1 c1], .agg #[.bool n2, .slice a2 k2 c2]] w fun e w' => e = .returned (.bool true) ∧ Below w.heap.size w w' := by
  obtain ⟨x, hx⟩ : ∃ x, x = sgn n1 (val (xs1.take 12)) := ⟨_, rfl⟩
  have Bx : Hid (ab x < pw 12) := by rw [hx]; exact Num.ofMade h1.digs
  have Hx := hidd hx
  clear hx
  obtain ⟨y, hy⟩ : ∃ y, y = sgn n2 (val (xs2.take 12)) := ⟨_, rfl⟩
  have By : Hid (ab y < pw 12) := by rw [hy]; exact Num.ofMade h2.digs
  have Hy := hidd hy
  clear hy
  go_enter Try.func3, Try.ntmps3
  go_upto_region 1 with (fail)
  obtain ⟨w0, hw0, E⟩ := raw_boxes2 w (n1 := n1) (n2 := n2) h1 h2 24
  rw [← hw0]
  clear hw0
  go_wp2_with fail
  refine (examples_any _).mono ?_
  rintro e w1 ⟨rfl, hb⟩
  replace E := E.mono hb
  clear hb
  obtain ⟨⟨d0, d1, d2, d3⟩, hS⟩ := E.raws.1
  go_wp2_with fail
  refine (exKP (z := x) (by rw [Hx.out]; exact Made_any _ _ _ _ _ _ hS hk1 12 (by omega)) Bx.out (by omega)).mono ?_
  rintro e w2 ⟨n2', ao2, kk2, c2', rfl, hb, hN2⟩
  replace E := E.mono hb
  clear hb
  clear d0 d1 d2 d3 hS
  go_upto_region 5 with (fail)
  obtain ⟨w3, hw3, hb, p3_0⟩ := boxOne hN2 27
  rw [← hw3]
  clear hw3
  replace E := E.mono hb
  replace E := E.push p3_0
  clear hb p3_0
  obtain ⟨⟨d0, d1, d2, d3⟩, hS⟩ := E.raws.2.1
  go_wp2_with fail
  refine (exKP (z := y) (by rw [Hy.out]; exact Made_any _ _ _ _ _ _ hS hk2 12 (by omega)) By.out (by omega)).mono ?_
  rintro e w4 ⟨n4', ao4, kk4, c4', rfl, hb, hN4⟩
  replace E := E.mono hb
  clear hb
  clear d0 d1 d2 d3 hS
  go_upto_region 6 with (fail)
  obtain ⟨w5, hw5, hb, p5_0⟩ := boxOne hN4 27
  rw [← hw5]
  clear hw5
  replace E := E.mono hb
  replace E := E.push p5_0
  clear hb p5_0
  obtain ⟨nd, aod, kkd, ccd, ⟨d0, d1, d2, d3⟩, hNd⟩ := E.bs.2.1
  obtain ⟨nf, aof, kkf, ccf, ⟨f0, f1, f2, f3⟩, hNf⟩ := E.bs.1
  go_wp2_with fail
  refine (DivModV hNd hNf).mono fun e w' hh => ?_
  replace hh := divU hh (Int.lt_of_lt_of_le Bx.out (pw_le (by omega))) (Int.lt_of_lt_of_le By.out (pw_le (by omega)))
  revert hh; revert w'; revert e
  rintro e w6 ⟨n6, ao6, k6, c6, n6', ao6', k6', c6', rfl, hb, hq6, hr6⟩
  replace E := E.mono hb
  clear hb
  clear d0 d1 d2 d3 hNd f0 f1 f2 f3 hNf
  go_upto_region 7 with (fail)
  obtain ⟨w7, hw7, hb, p7_0, p7_1⟩ := boxTwo hq6 hr6 27
  rw [← hw7]
  clear hw7
  replace E := E.mono hb
  replace E := E.push p7_0
  replace E := E.push p7_1
  clear hb p7_0 p7_1
  obtain ⟨nd, aod, kkd, ccd, ⟨d0, d1, d2, d3⟩, hNd⟩ := E.bs.2.2.2.1
  obtain ⟨nf, aof, kkf, ccf, ⟨f0, f1, f2, f3⟩, hNf⟩ := E.bs.2.2.1
  go_wp2_with fail
  refine (RDivModV hNd hNf (Int.lt_of_lt_of_le Bx.out (pw_le (by omega))) (Int.lt_of_lt_of_le By.out (pw_le (by omega)))).mono fun e w' hh => ?_
  replace hh := divU hh (Int.lt_of_lt_of_le Bx.out (pw_le (by omega))) (Int.lt_of_lt_of_le By.out (pw_le (by omega)))
  revert hh; revert w'; revert e
  rintro e w8 ⟨n8, ao8, k8, c8, n8', ao8', k8', c8', rfl, hb, hq8, hr8⟩
  replace E := E.mono hb
  clear hb
  clear d0 d1 d2 d3 hNd f0 f1 f2 f3 hNf
  go_upto_region 8 with (fail)
  obtain ⟨w9, hw9, hb, p9_0, p9_1⟩ := boxTwo hq8 hr8 27
  rw [← hw9]
  clear hw9
  replace E := E.mono hb
  replace E := E.push p9_0
  replace E := E.push p9_1
  clear hb p9_0 p9_1
  obtain ⟨nd, aod, kkd, ccd, ⟨d0, d1, d2, d3⟩, hNd⟩ := E.bs.2.2.2.2.2.1
  obtain ⟨nf, aof, kkf, ccf, ⟨f0, f1, f2, f3⟩, hNf⟩ := E.bs.2.2.2.2.1
  go_wp2_with fail
  refine (BezoutV hNd hNf (K := 12) Bx.out By.out (by omega)).mono fun e w' hh => ?_
  replace hh := bezParts (K := 12) (by omega) (by omega) Bx.out By.out hh
  revert hh; revert w'; revert e
  rintro e w10 ⟨s, t, G, hG, ⟨n1', ao1, q1, c1', n2', ao2, q2, c2', n3', ao3, q3, c3', rfl, hb, N1, N2, N3⟩, f1, f2, f3, f4, f5⟩
  have HG := hidd hG
  have F1 := hidd f1
  have F2 := hidd f2
  have Bs := hidd f3
  have Bt := hidd f4
  have BG := hidd f5
  clear hG f1 f2 f3 f4 f5
  replace E := E.mono hb
  clear hb
  clear d0 d1 d2 d3 hNd f0 f1 f2 f3 hNf
  go_upto_region 9 with (fail)
  obtain ⟨w11, hw11, hb, p11_0, p11_1, p11_2⟩ := boxThree N1 N2 N3 27
  rw [← hw11]
  clear hw11
  replace E := E.mono hb
  replace E := E.push p11_0
  replace E := E.push p11_1
  replace E := E.push p11_2
  clear hb p11_0 p11_1 p11_2
  clear N1 N2 N3
  obtain ⟨nd, aod, kkd, ccd, ⟨d0, d1, d2, d3⟩, hNd⟩ := E.bs.2.2.2.2.2.2.2.2.1
  obtain ⟨nf, aof, kkf, ccf, ⟨f0, f1, f2, f3⟩, hNf⟩ := E.bs.2.2.2.2.2.2.2.1
  go_wp2_with fail
  refine (RBezoutV hNd hNf (Int.lt_of_lt_of_le Bx.out (pw_le (by omega))) (Int.lt_of_lt_of_le By.out (pw_le (by omega)))).mono fun e w' hh => ?_
  replace hh := bezParts (K := 12) (by omega) (by omega) Bx.out By.out hh
  revert hh; revert w'; revert e
  rintro e w12 ⟨s', t', G', hG, ⟨n1', ao1, q1, c1', n2', ao2, q2, c2', n3', ao3, q3, c3', rfl, hb, N1, N2, N3⟩, f1, f2, _, _, _⟩
  obtain rfl : G = G' := HG.out.trans hG.symm
  obtain ⟨e1, e2⟩ := bez_unique HG.out F1.out f1 F2.out f2
  rw [e1] at N2
  rw [e2] at N3
  clear hG f1 f2 e1 e2
  replace E := E.mono hb
  clear hb
  clear d0 d1 d2 d3 hNd f0 f1 f2 f3 hNf
  go_upto_region 10 with (fail)
  obtain ⟨w13, hw13, hb, p13_0, p13_1, p13_2⟩ := boxThree N1 N2 N3 27
  rw [← hw13]
  clear hw13
  replace E := E.mono hb
  replace E := E.push p13_0
  replace E := E.push p13_1
  replace E := E.push p13_2
  clear hb p13_0 p13_1 p13_2
  clear N1 N2 N3
  have E2 : Hid ((Int.gcd x y : Int) = G) := HG.out.symm
  have B14 : Hid (ab ((Int.gcd x y : Int)) < pw 12) := ab_gcdB Bx.out By.out (by omega) (by omega)
  have X7_0 := E.bs.2.2.2.2.2.2.2.2.2.1
  have X9_0 := E.bs.2.2.2.2.2.2.2.1
  have X7_1 := E.bs.2.2.2.2.2.2.2.2.1
  have X9_1 := E.bs.2.2.2.2.2.2.1
  have X11_0 := E.bs.2.2.2.2.2.1
  have X13_0 := E.bs.2.2.1
  have X11_1 := E.bs.2.2.2.2.1
  have X13_1 := E.bs.2.1
  have X11_2 := E.bs.2.2.2.1
  have X13_2 := E.bs.1
  have X3_0 := E.bs.2.2.2.2.2.2.2.2.2.2.2.1
  have X5_0 := E.bs.2.2.2.2.2.2.2.2.2.2.1
  have hp : (plan [Fc.is (.int .i64 (dmE y)), Fc.is (.int .i64 (dmE y)), Fc.is (.bool false), Fc.is (.bool false), Fc.num (x / y), Fc.num (x / y), Fc.is (.bool true), Fc.is (.bool false), Fc.is (.bool false), Fc.is (.bool false), Fc.num (dmR x y), Fc.num (dmR x y), Fc.is (.bool true), Fc.is (.bool false), Fc.is (.bool false), Fc.is (.bool false), Fc.num G, Fc.num G, Fc.is (.bool true), Fc.is (.bool false), Fc.is (.bool false), Fc.is (.bool false), Fc.num s, Fc.num s, Fc.is (.bool true), Fc.is (.bool false), Fc.is (.bool false), Fc.is (.bool false), Fc.num t, Fc.num t, Fc.is (.bool true), Fc.is (.bool false), Fc.is (.bool false), Fc.is (.bool false), Fc.num x, Fc.num y, Fc.num (Int.gcd x y : Int), Fc.num G, Fc.is (.bool true), Fc.is (.bool false), Fc.is (.bool false)] [] []).Ok w13.heap.size w13.heap.size := plan_ok (by simp) (by simp) (by simp) (by omega)
  have hm := PMono.of hp
  refine region_steps (p := (plan [Fc.is (.int .i64 (dmE y)), Fc.is (.int .i64 (dmE y)), Fc.is (.bool false), Fc.is (.bool false), Fc.num (x / y), Fc.num (x / y), Fc.is (.bool true), Fc.is (.bool false), Fc.is (.bool false), Fc.is (.bool false), Fc.num (dmR x y), Fc.num (dmR x y), Fc.is (.bool true), Fc.is (.bool false), Fc.is (.bool false), Fc.is (.bool false), Fc.num G, Fc.num G, Fc.is (.bool true), Fc.is (.bool false), Fc.is (.bool false), Fc.is (.bool false), Fc.num s, Fc.num s, Fc.is (.bool true), Fc.is (.bool false), Fc.is (.bool false), Fc.is (.bool false), Fc.num t, Fc.num t, Fc.is (.bool true), Fc.is (.bool false), Fc.is (.bool false), Fc.is (.bool false), Fc.num x, Fc.num y, Fc.num (Int.gcd x y : Int), Fc.num G, Fc.is (.bool true), Fc.is (.bool false), Fc.is (.bool false)] [] [])) (B := w13.heap.size) (B0 := w13.heap.size) (w0 := w13) (by kernel_rfl) rfl rfl (plan_start (by simp) (Below.refl _ _)) ⟨?_, ?_, ?_, ?_, ?_, ?_, ?_, ?_, ?_, ?_, ?_, ?_, ?_, ?_, ?_, ?_, ?_, ?_, ?_, ?_, ?_, ?_, ?_, ?_, ?_, ?_, ?_, ?_, ?_, ?_, ?_, ?_, ?_, ?_, ?_, ?_, ?_, ?_, ?_, ?_, ?_, trivial⟩ ?_
  · exact g_move hm ⟨by simp [plan], by simp [plan]⟩ trivial (src_out rfl rfl (fun _ _ => rfl))
  · exact g_move hm ⟨by simp [plan], by simp [plan]⟩ trivial (src_out rfl rfl (fun _ _ => rfl))
  · exact g_two (u := .int .i64 (dmE y)) (v := .int .i64 (dmE y)) (r := .bool false) hm ⟨by simp [plan], by simp [plan]⟩ trivial (src_in 0 rfl rfl (by simp) rfl (fun v w h => h)) (src_in 1 rfl rfl (by simp) rfl (fun v w h => h)) (fun ρ w _ h h' => by simp [execOp, go_sem, h, h']) (fun _ => rfl)
  · exact g_move hm ⟨by simp [plan], by simp [plan]⟩ trivial (src_in 2 rfl rfl (by simp) rfl (fun v w h => h))
  · exact g_load (z := (x / y)) hm ⟨by simp [plan], by simp [plan]⟩ (gd_some rfl rfl (by simp) rfl (fun v w h => h)) (src_out rfl rfl (fun w h => ⟨rfl, X7_0.mono h⟩)) (fun v w h => h)
  · exact g_load (z := (x / y)) hm ⟨by simp [plan], by simp [plan]⟩ (gd_some rfl rfl (by simp) rfl (fun v w h => h)) (src_out rfl rfl (fun w h => ⟨rfl, X9_0.mono h⟩)) (fun v w h => h)
  · exact g_call2 (F := (Fc.num (x / y)).P) (G := (Fc.num (x / y)).P) hm ⟨by simp [plan], by simp [plan]⟩ (gd_some rfl rfl (by simp) rfl (fun v w h => h)) enter_Same (src_in 4 rfl rfl (by simp) rfl (fun v w h => h)) (src_in 5 rfl rfl (by simp) rfl (fun v w h => h)) (fun v v' w h h' => exSame h h' rfl)
  · exact g_not (b := true) hm ⟨by simp [plan], by simp [plan]⟩ (gd_some rfl rfl (by simp) rfl (fun v w h => h)) (src_in 6 rfl rfl (by simp) rfl (fun v w h => h)) (fun _ => rfl)
  · exact g_pickF hm ⟨by simp [plan], by simp [plan]⟩ trivial (src_in 3 rfl rfl (by simp) rfl (fun v w h => h)) (src_in 7 rfl rfl (by simp) rfl (fun v w h => h))
  · exact g_move hm ⟨by simp [plan], by simp [plan]⟩ trivial (src_in 8 rfl rfl (by simp) rfl (fun v w h => h))
  · exact g_load (z := (dmR x y)) hm ⟨by simp [plan], by simp [plan]⟩ (gd_some rfl rfl (by simp) rfl (fun v w h => h)) (src_out rfl rfl (fun w h => ⟨rfl, X7_1.mono h⟩)) (fun v w h => h)
  · exact g_load (z := (dmR x y)) hm ⟨by simp [plan], by simp [plan]⟩ (gd_some rfl rfl (by simp) rfl (fun v w h => h)) (src_out rfl rfl (fun w h => ⟨rfl, X9_1.mono h⟩)) (fun v w h => h)
  · exact g_call2 (F := (Fc.num (dmR x y)).P) (G := (Fc.num (dmR x y)).P) hm ⟨by simp [plan], by simp [plan]⟩ (gd_some rfl rfl (by simp) rfl (fun v w h => h)) enter_Same (src_in 10 rfl rfl (by simp) rfl (fun v w h => h)) (src_in 11 rfl rfl (by simp) rfl (fun v w h => h)) (fun v v' w h h' => exSame h h' rfl)
  · exact g_not (b := true) hm ⟨by simp [plan], by simp [plan]⟩ (gd_some rfl rfl (by simp) rfl (fun v w h => h)) (src_in 12 rfl rfl (by simp) rfl (fun v w h => h)) (fun _ => rfl)
  · exact g_pickF hm ⟨by simp [plan], by simp [plan]⟩ trivial (src_in 9 rfl rfl (by simp) rfl (fun v w h => h)) (src_in 13 rfl rfl (by simp) rfl (fun v w h => h))
  · exact g_move hm ⟨by simp [plan], by simp [plan]⟩ trivial (src_in 14 rfl rfl (by simp) rfl (fun v w h => h))
  · exact g_load (z := G) hm ⟨by simp [plan], by simp [plan]⟩ (gd_some rfl rfl (by simp) rfl (fun v w h => h)) (src_out rfl rfl (fun w h => ⟨rfl, X11_0.mono h⟩)) (fun v w h => h)
  · exact g_load (z := G) hm ⟨by simp [plan], by simp [plan]⟩ (gd_some rfl rfl (by simp) rfl (fun v w h => h)) (src_out rfl rfl (fun w h => ⟨rfl, X13_0.mono h⟩)) (fun v w h => h)
  · exact g_call2 (F := (Fc.num G).P) (G := (Fc.num G).P) hm ⟨by simp [plan], by simp [plan]⟩ (gd_some rfl rfl (by simp) rfl (fun v w h => h)) enter_Same (src_in 16 rfl rfl (by simp) rfl (fun v w h => h)) (src_in 17 rfl rfl (by simp) rfl (fun v w h => h)) (fun v v' w h h' => exSame h h' rfl)
  · exact g_not (b := true) hm ⟨by simp [plan], by simp [plan]⟩ (gd_some rfl rfl (by simp) rfl (fun v w h => h)) (src_in 18 rfl rfl (by simp) rfl (fun v w h => h)) (fun _ => rfl)
  · exact g_pickF hm ⟨by simp [plan], by simp [plan]⟩ trivial (src_in 15 rfl rfl (by simp) rfl (fun v w h => h)) (src_in 19 rfl rfl (by simp) rfl (fun v w h => h))
  · exact g_move hm ⟨by simp [plan], by simp [plan]⟩ trivial (src_in 20 rfl rfl (by simp) rfl (fun v w h => h))
  · exact g_load (z := s) hm ⟨by simp [plan], by simp [plan]⟩ (gd_some rfl rfl (by simp) rfl (fun v w h => h)) (src_out rfl rfl (fun w h => ⟨rfl, X11_1.mono h⟩)) (fun v w h => h)
  · exact g_load (z := s) hm ⟨by simp [plan], by simp [plan]⟩ (gd_some rfl rfl (by simp) rfl (fun v w h => h)) (src_out rfl rfl (fun w h => ⟨rfl, X13_1.mono h⟩)) (fun v w h => h)
  · exact g_call2 (F := (Fc.num s).P) (G := (Fc.num s).P) hm ⟨by simp [plan], by simp [plan]⟩ (gd_some rfl rfl (by simp) rfl (fun v w h => h)) enter_Same (src_in 22 rfl rfl (by simp) rfl (fun v w h => h)) (src_in 23 rfl rfl (by simp) rfl (fun v w h => h)) (fun v v' w h h' => exSame h h' rfl)
  · exact g_not (b := true) hm ⟨by simp [plan], by simp [plan]⟩ (gd_some rfl rfl (by simp) rfl (fun v w h => h)) (src_in 24 rfl rfl (by simp) rfl (fun v w h => h)) (fun _ => rfl)
  · exact g_pickF hm ⟨by simp [plan], by simp [plan]⟩ trivial (src_in 21 rfl rfl (by simp) rfl (fun v w h => h)) (src_in 25 rfl rfl (by simp) rfl (fun v w h => h))
  · exact g_move hm ⟨by simp [plan], by simp [plan]⟩ trivial (src_in 26 rfl rfl (by simp) rfl (fun v w h => h))
  · exact g_load (z := t) hm ⟨by simp [plan], by simp [plan]⟩ (gd_some rfl rfl (by simp) rfl (fun v w h => h)) (src_out rfl rfl (fun w h => ⟨rfl, X11_2.mono h⟩)) (fun v w h => h)
  · exact g_load (z := t) hm ⟨by simp [plan], by simp [plan]⟩ (gd_some rfl rfl (by simp) rfl (fun v w h => h)) (src_out rfl rfl (fun w h => ⟨rfl, X13_2.mono h⟩)) (fun v w h => h)
  · exact g_call2 (F := (Fc.num t).P) (G := (Fc.num t).P) hm ⟨by simp [plan], by simp [plan]⟩ (gd_some rfl rfl (by simp) rfl (fun v w h => h)) enter_Same (src_in 28 rfl rfl (by simp) rfl (fun v w h => h)) (src_in 29 rfl rfl (by simp) rfl (fun v w h => h)) (fun v v' w h h' => exSame h h' rfl)
  · exact g_not (b := true) hm ⟨by simp [plan], by simp [plan]⟩ (gd_some rfl rfl (by simp) rfl (fun v w h => h)) (src_in 30 rfl rfl (by simp) rfl (fun v w h => h)) (fun _ => rfl)
  · exact g_pickF hm ⟨by simp [plan], by simp [plan]⟩ trivial (src_in 27 rfl rfl (by simp) rfl (fun v w h => h)) (src_in 31 rfl rfl (by simp) rfl (fun v w h => h))
  · exact g_move hm ⟨by simp [plan], by simp [plan]⟩ trivial (src_in 32 rfl rfl (by simp) rfl (fun v w h => h))
  · exact g_load (z := x) hm ⟨by simp [plan], by simp [plan]⟩ (gd_some rfl rfl (by simp) rfl (fun v w h => h)) (src_out rfl rfl (fun w h => ⟨rfl, X3_0.mono h⟩)) (fun v w h => h)
  · exact g_load (z := y) hm ⟨by simp [plan], by simp [plan]⟩ (gd_some rfl rfl (by simp) rfl (fun v w h => h)) (src_out rfl rfl (fun w h => ⟨rfl, X5_0.mono h⟩)) (fun v w h => h)
  · exact g_call2 (F := (Fc.num x).P) (G := (Fc.num y).P) hm ⟨by simp [plan], by simp [plan]⟩ (gd_some rfl rfl (by simp) rfl (fun v w h => h)) enter_Gcd (src_in 34 rfl rfl (by simp) rfl (fun v w h => h)) (src_in 35 rfl rfl (by simp) rfl (fun v w h => h)) (fun v v' w h h' => exK (GcdV h h') B14.out (by omega))
  · exact g_load (z := G) hm ⟨by simp [plan], by simp [plan]⟩ (gd_some rfl rfl (by simp) rfl (fun v w h => h)) (src_out rfl rfl (fun w h => ⟨rfl, X13_0.mono h⟩)) (fun v w h => h)
  · exact g_call2 (F := (Fc.num (Int.gcd x y : Int)).P) (G := (Fc.num G).P) hm ⟨by simp [plan], by simp [plan]⟩ (gd_some rfl rfl (by simp) rfl (fun v w h => h)) enter_Same (src_in 36 rfl rfl (by simp) rfl (fun v w h => h)) (src_in 37 rfl rfl (by simp) rfl (fun v w h => h)) (fun v v' w h h' => exSame h h' E2.out)
  · exact g_not (b := true) hm ⟨by simp [plan], by simp [plan]⟩ (gd_some rfl rfl (by simp) rfl (fun v w h => h)) (src_in 38 rfl rfl (by simp) rfl (fun v w h => h)) (fun _ => rfl)
  · exact g_pickF hm ⟨by simp [plan], by simp [plan]⟩ trivial (src_in 33 rfl rfl (by simp) rfl (fun v w h => h)) (src_in 39 rfl rfl (by simp) rfl (fun v w h => h))
  intro L vs w15 hL hG
  have e0 : vs 0 = .int .i64 (dmE y) := hG.val 0 (hL 0 (by simp))
  have e1 : vs 1 = .int .i64 (dmE y) := hG.val 1 (hL 1 (by simp))
  have e2 : vs 2 = .bool false := hG.val 2 (hL 2 (by simp))
  have e3 : vs 3 = .bool false := hG.val 3 (hL 3 (by simp))
  have e6 : vs 6 = .bool true := hG.val 6 (hL 6 (by simp))
  have e7 : vs 7 = .bool false := hG.val 7 (hL 7 (by simp))
  have e8 : vs 8 = .bool false := hG.val 8 (hL 8 (by simp))
  have e9 : vs 9 = .bool false := hG.val 9 (hL 9 (by simp))
  have e12 : vs 12 = .bool true := hG.val 12 (hL 12 (by simp))
  have e13 : vs 13 = .bool false := hG.val 13 (hL 13 (by simp))
  have e14 : vs 14 = .bool false := hG.val 14 (hL 14 (by simp))
  have e15 : vs 15 = .bool false := hG.val 15 (hL 15 (by simp))
  have e18 : vs 18 = .bool true := hG.val 18 (hL 18 (by simp))
  have e19 : vs 19 = .bool false := hG.val 19 (hL 19 (by simp))
  have e20 : vs 20 = .bool false := hG.val 20 (hL 20 (by simp))
  have e21 : vs 21 = .bool false := hG.val 21 (hL 21 (by simp))
  have e24 : vs 24 = .bool true := hG.val 24 (hL 24 (by simp))
  have e25 : vs 25 = .bool false := hG.val 25 (hL 25 (by simp))
  have e26 : vs 26 = .bool false := hG.val 26 (hL 26 (by simp))
  have e27 : vs 27 = .bool false := hG.val 27 (hL 27 (by simp))
  have e30 : vs 30 = .bool true := hG.val 30 (hL 30 (by simp))
  have e31 : vs 31 = .bool false := hG.val 31 (hL 31 (by simp))
  have e32 : vs 32 = .bool false := hG.val 32 (hL 32 (by simp))
  have e33 : vs 33 = .bool false := hG.val 33 (hL 33 (by simp))
  have e38 : vs 38 = .bool true := hG.val 38 (hL 38 (by simp))
  have e39 : vs 39 = .bool false := hG.val 39 (hL 39 (by simp))
  have e40 : vs 40 = .bool false := hG.val 40 (hL 40 (by simp))
  have hb := hG.below
  replace E := E.mono hb
  rw [lay_all hL]
  simp only [putAll, dstOf, List.length_cons, List.length_nil, Nat.zero_add, Nat.reduceAdd, List.getElem?_toArray, List.getElem?_cons_zero, List.getElem?_cons_succ, Option.bind_some, Act.put, List.setIfInBounds_toArray, List.set_cons_succ, List.set_cons_zero]
  rw [e0, e1, e2, e3, e6, e7, e8, e9, e12, e13, e14, e15, e18, e19, e20, e21, e24, e25, e26, e27, e30, e31, e32, e33, e38, e39, e40]
  generalize vs 4 = u15_4
  generalize vs 5 = u15_5
  generalize vs 10 = u15_10
  generalize vs 11 = u15_11
  generalize vs 16 = u15_16
  generalize vs 17 = u15_17
  generalize vs 22 = u15_22
  generalize vs 23 = u15_23
  generalize vs 28 = u15_28
  generalize vs 29 = u15_29
  generalize vs 34 = u15_34
  generalize vs 35 = u15_35
  generalize vs 36 = u15_36
  generalize vs 37 = u15_37
  clear hb hG hp hm hL vs L e0 e1 e2 e3 e6 e7 e8 e9 e12 e13 e14 e15 e18 e19 e20 e21 e24 e25 e26 e27 e30 e31 e32 e33 e38 e39 e40 X7_0 X9_0 X7_1 X9_1 X11_0 X13_0 X11_1 X13_1 X11_2 X13_2 X3_0 X5_0
  go_wp2
  have B16 : Hid (ab ((x + y)) < pw 13) := ab_addB Bx.out By.out (by omega) (by omega)
  have B17 : Hid (ab ((x - y)) < pw 13) := ab_subB Bx.out By.out (by omega) (by omega)
  have B18 : Hid (ab ((x * y)) < pw 24) := ab_mulM Bx.out By.out (by omega)
  have B19 : Hid (ab ((-x)) < pw 12) := ab_negB Bx.out
  have B20 : Hid (ab ((Int.natAbs x : Int)) < pw 12) := ab_absB Bx.out
  have X3_0 := E.bs.2.2.2.2.2.2.2.2.2.2.2.1
  have X5_0 := E.bs.2.2.2.2.2.2.2.2.2.2.1
  have hp : (plan [Fc.num x, Fc.num y, Fc.num (x + y), Fc.num x, Fc.num y, Fc.num (x + y), Fc.is (.bool true), Fc.is (.bool false), Fc.is (.bool false), Fc.num x, Fc.num y, Fc.num (x - y), Fc.num x, Fc.num y, Fc.num (x - y), Fc.is (.bool true), Fc.is (.bool false), Fc.is (.bool false), Fc.is (.bool false), Fc.num x, Fc.num y, Fc.num (x * y), Fc.num x, Fc.num y, Fc.num (x * y), Fc.is (.bool true), Fc.is (.bool false), Fc.is (.bool false), Fc.is (.bool false), Fc.num x, Fc.num (-x), Fc.num x, Fc.num (-x), Fc.is (.bool true), Fc.is (.bool false), Fc.is (.bool false), Fc.is (.bool false), Fc.num x, Fc.num (Int.natAbs x : Int), Fc.num x, Fc.num (Int.natAbs x : Int), Fc.is (.bool true), Fc.is (.bool false), Fc.is (.bool false)] [] []).Ok w15.heap.size w15.heap.size := plan_ok (by simp) (by simp) (by simp) (by omega)
  have hm := PMono.of hp
  refine region_steps (p := (plan [Fc.num x, Fc.num y, Fc.num (x + y), Fc.num x, Fc.num y, Fc.num (x + y), Fc.is (.bool true), Fc.is (.bool false), Fc.is (.bool false), Fc.num x, Fc.num y, Fc.num (x - y), Fc.num x, Fc.num y, Fc.num (x - y), Fc.is (.bool true), Fc.is (.bool false), Fc.is (.bool false), Fc.is (.bool false), Fc.num x, Fc.num y, Fc.num (x * y), Fc.num x, Fc.num y, Fc.num (x * y), Fc.is (.bool true), Fc.is (.bool false), Fc.is (.bool false), Fc.is (.bool false), Fc.num x, Fc.num (-x), Fc.num x, Fc.num (-x), Fc.is (.bool true), Fc.is (.bool false), Fc.is (.bool false), Fc.is (.bool false), Fc.num x, Fc.num (Int.natAbs x : Int), Fc.num x, Fc.num (Int.natAbs x : Int), Fc.is (.bool true), Fc.is (.bool false), Fc.is (.bool false)] [] [])) (B := w15.heap.size) (B0 := w15.heap.size) (w0 := w15) (by kernel_rfl) rfl rfl (plan_start (by simp) (Below.refl _ _)) ⟨?_, ?_, ?_, ?_, ?_, ?_, ?_, ?_, ?_, ?_, ?_, ?_, ?_, ?_, ?_, ?_, ?_, ?_, ?_, ?_, ?_, ?_, ?_, ?_, ?_, ?_, ?_, ?_, ?_, ?_, ?_, ?_, ?_, ?_, ?_, ?_, ?_, ?_, ?_, ?_, ?_, ?_, ?_, ?_, trivial⟩ ?_
  · exact g_load (z := x) hm ⟨by simp [plan], by simp [plan]⟩ trivial (src_out rfl rfl (fun w h => ⟨rfl, X3_0.mono h⟩)) (fun v w h => h)
  · exact g_load (z := y) hm ⟨by simp [plan], by simp [plan]⟩ trivial (src_out rfl rfl (fun w h => ⟨rfl, X5_0.mono h⟩)) (fun v w h => h)
  · exact g_call2 (F := (Fc.num x).P) (G := (Fc.num y).P) hm ⟨by simp [plan], by simp [plan]⟩ trivial enter_Add' (src_in 0 rfl rfl (by simp) rfl (fun v w h => h)) (src_in 1 rfl rfl (by simp) rfl (fun v w h => h)) (fun v v' w h h' => exK (AddV h h') B16.out (by omega))
  · exact g_load (z := x) hm ⟨by simp [plan], by simp [plan]⟩ trivial (src_out rfl rfl (fun w h => ⟨rfl, X3_0.mono h⟩)) (fun v w h => h)
  · exact g_load (z := y) hm ⟨by simp [plan], by simp [plan]⟩ trivial (src_out rfl rfl (fun w h => ⟨rfl, X5_0.mono h⟩)) (fun v w h => h)
  · exact g_call2 (F := (Fc.num x).P) (G := (Fc.num y).P) hm ⟨by simp [plan], by simp [plan]⟩ trivial enter_rAdd (src_in 3 rfl rfl (by simp) rfl (fun v w h => h)) (src_in 4 rfl rfl (by simp) rfl (fun v w h => h)) (fun v v' w h h' => exK (RAddV h h') B16.out (by omega))
  · exact g_call2 (F := (Fc.num (x + y)).P) (G := (Fc.num (x + y)).P) hm ⟨by simp [plan], by simp [plan]⟩ trivial enter_Same (src_in 2 rfl rfl (by simp) rfl (fun v w h => h)) (src_in 5 rfl rfl (by simp) rfl (fun v w h => h)) (fun v v' w h h' => exSame h h' rfl)
  · exact g_not (b := true) hm ⟨by simp [plan], by simp [plan]⟩ trivial (src_in 6 rfl rfl (by simp) rfl (fun v w h => h)) (fun _ => rfl)
  · exact g_move hm ⟨by simp [plan], by simp [plan]⟩ trivial (src_in 7 rfl rfl (by simp) rfl (fun v w h => h))
  · exact g_load (z := x) hm ⟨by simp [plan], by simp [plan]⟩ (gd_some rfl rfl (by simp) rfl (fun v w h => h)) (src_out rfl rfl (fun w h => ⟨rfl, X3_0.mono h⟩)) (fun v w h => h)
  · exact g_load (z := y) hm ⟨by simp [plan], by simp [plan]⟩ (gd_some rfl rfl (by simp) rfl (fun v w h => h)) (src_out rfl rfl (fun w h => ⟨rfl, X5_0.mono h⟩)) (fun v w h => h)
  · exact g_call2 (F := (Fc.num x).P) (G := (Fc.num y).P) hm ⟨by simp [plan], by simp [plan]⟩ (gd_some rfl rfl (by simp) rfl (fun v w h => h)) enter_Sub (src_in 9 rfl rfl (by simp) rfl (fun v w h => h)) (src_in 10 rfl rfl (by simp) rfl (fun v w h => h)) (fun v v' w h h' => exK (SubV h h') B17.out (by omega))
  · exact g_load (z := x) hm ⟨by simp [plan], by simp [plan]⟩ (gd_some rfl rfl (by simp) rfl (fun v w h => h)) (src_out rfl rfl (fun w h => ⟨rfl, X3_0.mono h⟩)) (fun v w h => h)
  · exact g_load (z := y) hm ⟨by simp [plan], by simp [plan]⟩ (gd_some rfl rfl (by simp) rfl (fun v w h => h)) (src_out rfl rfl (fun w h => ⟨rfl, X5_0.mono h⟩)) (fun v w h => h)
  · exact g_call2 (F := (Fc.num x).P) (G := (Fc.num y).P) hm ⟨by simp [plan], by simp [plan]⟩ (gd_some rfl rfl (by simp) rfl (fun v w h => h)) enter_rSub (src_in 12 rfl rfl (by simp) rfl (fun v w h => h)) (src_in 13 rfl rfl (by simp) rfl (fun v w h => h)) (fun v v' w h h' => exK (RSubV h h' (K := 12) (Int.lt_of_lt_of_le Bx.out (pw_le (by omega))) (Int.lt_of_lt_of_le By.out (pw_le (by omega))) (by omega)) B17.out (by omega))
  · exact g_call2 (F := (Fc.num (x - y)).P) (G := (Fc.num (x - y)).P) hm ⟨by simp [plan], by simp [plan]⟩ (gd_some rfl rfl (by simp) rfl (fun v w h => h)) enter_Same (src_in 11 rfl rfl (by simp) rfl (fun v w h => h)) (src_in 14 rfl rfl (by simp) rfl (fun v w h => h)) (fun v v' w h h' => exSame h h' rfl)
  · exact g_not (b := true) hm ⟨by simp [plan], by simp [plan]⟩ (gd_some rfl rfl (by simp) rfl (fun v w h => h)) (src_in 15 rfl rfl (by simp) rfl (fun v w h => h)) (fun _ => rfl)
  · exact g_pickF hm ⟨by simp [plan], by simp [plan]⟩ trivial (src_in 8 rfl rfl (by simp) rfl (fun v w h => h)) (src_in 16 rfl rfl (by simp) rfl (fun v w h => h))
  · exact g_move hm ⟨by simp [plan], by simp [plan]⟩ trivial (src_in 17 rfl rfl (by simp) rfl (fun v w h => h))
  · exact g_load (z := x) hm ⟨by simp [plan], by simp [plan]⟩ (gd_some rfl rfl (by simp) rfl (fun v w h => h)) (src_out rfl rfl (fun w h => ⟨rfl, X3_0.mono h⟩)) (fun v w h => h)
  · exact g_load (z := y) hm ⟨by simp [plan], by simp [plan]⟩ (gd_some rfl rfl (by simp) rfl (fun v w h => h)) (src_out rfl rfl (fun w h => ⟨rfl, X5_0.mono h⟩)) (fun v w h => h)
  · exact g_call2 (F := (Fc.num x).P) (G := (Fc.num y).P) hm ⟨by simp [plan], by simp [plan]⟩ (gd_some rfl rfl (by simp) rfl (fun v w h => h)) enter_Mul (src_in 19 rfl rfl (by simp) rfl (fun v w h => h)) (src_in 20 rfl rfl (by simp) rfl (fun v w h => h)) (fun v v' w h h' => exK (MulV h h') B18.out (by omega))
  · exact g_load (z := x) hm ⟨by simp [plan], by simp [plan]⟩ (gd_some rfl rfl (by simp) rfl (fun v w h => h)) (src_out rfl rfl (fun w h => ⟨rfl, X3_0.mono h⟩)) (fun v w h => h)
  · exact g_load (z := y) hm ⟨by simp [plan], by simp [plan]⟩ (gd_some rfl rfl (by simp) rfl (fun v w h => h)) (src_out rfl rfl (fun w h => ⟨rfl, X5_0.mono h⟩)) (fun v w h => h)
  · exact g_call2 (F := (Fc.num x).P) (G := (Fc.num y).P) hm ⟨by simp [plan], by simp [plan]⟩ (gd_some rfl rfl (by simp) rfl (fun v w h => h)) enter_rMul (src_in 22 rfl rfl (by simp) rfl (fun v w h => h)) (src_in 23 rfl rfl (by simp) rfl (fun v w h => h)) (fun v v' w h h' => exK (RMulV h h') B18.out (by omega))
  · exact g_call2 (F := (Fc.num (x * y)).P) (G := (Fc.num (x * y)).P) hm ⟨by simp [plan], by simp [plan]⟩ (gd_some rfl rfl (by simp) rfl (fun v w h => h)) enter_Same (src_in 21 rfl rfl (by simp) rfl (fun v w h => h)) (src_in 24 rfl rfl (by simp) rfl (fun v w h => h)) (fun v v' w h h' => exSame h h' rfl)
  · exact g_not (b := true) hm ⟨by simp [plan], by simp [plan]⟩ (gd_some rfl rfl (by simp) rfl (fun v w h => h)) (src_in 25 rfl rfl (by simp) rfl (fun v w h => h)) (fun _ => rfl)
  · exact g_pickF hm ⟨by simp [plan], by simp [plan]⟩ trivial (src_in 18 rfl rfl (by simp) rfl (fun v w h => h)) (src_in 26 rfl rfl (by simp) rfl (fun v w h => h))
  · exact g_move hm ⟨by simp [plan], by simp [plan]⟩ trivial (src_in 27 rfl rfl (by simp) rfl (fun v w h => h))
  · exact g_load (z := x) hm ⟨by simp [plan], by simp [plan]⟩ (gd_some rfl rfl (by simp) rfl (fun v w h => h)) (src_out rfl rfl (fun w h => ⟨rfl, X3_0.mono h⟩)) (fun v w h => h)
  · exact g_call1 (F := (Fc.num x).P) hm ⟨by simp [plan], by simp [plan]⟩ (gd_some rfl rfl (by simp) rfl (fun v w h => h)) enter_Neg (src_in 29 rfl rfl (by simp) rfl (fun v w h => h)) (fun v w h => exK (NegV h) B19.out (by omega))
  · exact g_load (z := x) hm ⟨by simp [plan], by simp [plan]⟩ (gd_some rfl rfl (by simp) rfl (fun v w h => h)) (src_out rfl rfl (fun w h => ⟨rfl, X3_0.mono h⟩)) (fun v w h => h)
  · exact g_call1 (F := (Fc.num x).P) hm ⟨by simp [plan], by simp [plan]⟩ (gd_some rfl rfl (by simp) rfl (fun v w h => h)) enter_rNeg (src_in 31 rfl rfl (by simp) rfl (fun v w h => h)) (fun v w h => exK (RNegV h) B19.out (by omega))
  · exact g_call2 (F := (Fc.num (-x)).P) (G := (Fc.num (-x)).P) hm ⟨by simp [plan], by simp [plan]⟩ (gd_some rfl rfl (by simp) rfl (fun v w h => h)) enter_Same (src_in 30 rfl rfl (by simp) rfl (fun v w h => h)) (src_in 32 rfl rfl (by simp) rfl (fun v w h => h)) (fun v v' w h h' => exSame h h' rfl)
  · exact g_not (b := true) hm ⟨by simp [plan], by simp [plan]⟩ (gd_some rfl rfl (by simp) rfl (fun v w h => h)) (src_in 33 rfl rfl (by simp) rfl (fun v w h => h)) (fun _ => rfl)
  · exact g_pickF hm ⟨by simp [plan], by simp [plan]⟩ trivial (src_in 28 rfl rfl (by simp) rfl (fun v w h => h)) (src_in 34 rfl rfl (by simp) rfl (fun v w h => h))
  · exact g_move hm ⟨by simp [plan], by simp [plan]⟩ trivial (src_in 35 rfl rfl (by simp) rfl (fun v w h => h))
  · exact g_load (z := x) hm ⟨by simp [plan], by simp [plan]⟩ (gd_some rfl rfl (by simp) rfl (fun v w h => h)) (src_out rfl rfl (fun w h => ⟨rfl, X3_0.mono h⟩)) (fun v w h => h)
  · exact g_call1 (F := (Fc.num x).P) hm ⟨by simp [plan], by simp [plan]⟩ (gd_some rfl rfl (by simp) rfl (fun v w h => h)) enter_Abs (src_in 37 rfl rfl (by simp) rfl (fun v w h => h)) (fun v w h => exK (AbsV h) B20.out (by omega))
  · exact g_load (z := x) hm ⟨by simp [plan], by simp [plan]⟩ (gd_some rfl rfl (by simp) rfl (fun v w h => h)) (src_out rfl rfl (fun w h => ⟨rfl, X3_0.mono h⟩)) (fun v w h => h)
  · exact g_call1 (F := (Fc.num x).P) hm ⟨by simp [plan], by simp [plan]⟩ (gd_some rfl rfl (by simp) rfl (fun v w h => h)) enter_rAbs (src_in 39 rfl rfl (by simp) rfl (fun v w h => h)) (fun v w h => exK (RAbsV h) B20.out (by omega))
  · exact g_call2 (F := (Fc.num (Int.natAbs x : Int)).P) (G := (Fc.num (Int.natAbs x : Int)).P) hm ⟨by simp [plan], by simp [plan]⟩ (gd_some rfl rfl (by simp) rfl (fun v w h => h)) enter_Same (src_in 38 rfl rfl (by simp) rfl (fun v w h => h)) (src_in 40 rfl rfl (by simp) rfl (fun v w h => h)) (fun v v' w h h' => exSame h h' rfl)
  · exact g_not (b := true) hm ⟨by simp [plan], by simp [plan]⟩ (gd_some rfl rfl (by simp) rfl (fun v w h => h)) (src_in 41 rfl rfl (by simp) rfl (fun v w h => h)) (fun _ => rfl)
  · exact g_pickF hm ⟨by simp [plan], by simp [plan]⟩ trivial (src_in 36 rfl rfl (by simp) rfl (fun v w h => h)) (src_in 42 rfl rfl (by simp) rfl (fun v w h => h))
  intro L vs w21 hL hG
  have e6 : vs 6 = .bool true := hG.val 6 (hL 6 (by simp))
  have e7 : vs 7 = .bool false := hG.val 7 (hL 7 (by simp))
  have e8 : vs 8 = .bool false := hG.val 8 (hL 8 (by simp))
  have e15 : vs 15 = .bool true := hG.val 15 (hL 15 (by simp))
  have e16 : vs 16 = .bool false := hG.val 16 (hL 16 (by simp))
  have e17 : vs 17 = .bool false := hG.val 17 (hL 17 (by simp))
  have e18 : vs 18 = .bool false := hG.val 18 (hL 18 (by simp))
  have e25 : vs 25 = .bool true := hG.val 25 (hL 25 (by simp))
  have e26 : vs 26 = .bool false := hG.val 26 (hL 26 (by simp))
  have e27 : vs 27 = .bool false := hG.val 27 (hL 27 (by simp))
  have e28 : vs 28 = .bool false := hG.val 28 (hL 28 (by simp))
  have e33 : vs 33 = .bool true := hG.val 33 (hL 33 (by simp))
  have e34 : vs 34 = .bool false := hG.val 34 (hL 34 (by simp))
  have e35 : vs 35 = .bool false := hG.val 35 (hL 35 (by simp))
  have e36 : vs 36 = .bool false := hG.val 36 (hL 36 (by simp))
  have e41 : vs 41 = .bool true := hG.val 41 (hL 41 (by simp))
  have e42 : vs 42 = .bool false := hG.val 42 (hL 42 (by simp))
  have e43 : vs 43 = .bool false := hG.val 43 (hL 43 (by simp))
  have hb := hG.below
  replace E := E.mono hb
  rw [lay_all hL]
  simp only [putAll, dstOf, List.length_cons, List.length_nil, Nat.zero_add, Nat.reduceAdd, List.getElem?_toArray, List.getElem?_cons_zero, List.getElem?_cons_succ, Option.bind_some, Act.put, List.setIfInBounds_toArray, List.set_cons_succ, List.set_cons_zero]
  rw [e6, e7, e8, e15, e16, e17, e18, e25, e26, e27, e28, e33, e34, e35, e36, e41, e42, e43]
  generalize vs 0 = u21_0
  generalize vs 1 = u21_1
  generalize vs 2 = u21_2
  generalize vs 3 = u21_3
  generalize vs 4 = u21_4
  generalize vs 5 = u21_5
  generalize vs 9 = u21_9
  generalize vs 10 = u21_10
  generalize vs 11 = u21_11
  generalize vs 12 = u21_12
  generalize vs 13 = u21_13
  generalize vs 14 = u21_14
  generalize vs 19 = u21_19
  generalize vs 20 = u21_20
  generalize vs 21 = u21_21
  generalize vs 22 = u21_22
  generalize vs 23 = u21_23
  generalize vs 24 = u21_24
  generalize vs 29 = u21_29
  generalize vs 30 = u21_30
  generalize vs 31 = u21_31
  generalize vs 32 = u21_32
  generalize vs 37 = u21_37
  generalize vs 38 = u21_38
  generalize vs 39 = u21_39
  generalize vs 40 = u21_40
  clear hb hG hp hm hL vs L e6 e7 e8 e15 e16 e17 e18 e25 e26 e27 e28 e33 e34 e35 e36 e41 e42 e43 X3_0 X5_0
  go_wp2
  have X3_0 := E.bs.2.2.2.2.2.2.2.2.2.2.2.1
  have X5_0 := E.bs.2.2.2.2.2.2.2.2.2.2.1
  have hp : (plan [Fc.is (.bool true), Fc.is (.bool true), Fc.num x, Fc.num y, Fc.is (.int .i64 (cmpI x y)), Fc.num x, Fc.num y, Fc.is (.int .i64 (cmpI x y)), Fc.is (.bool true), Fc.is (.bool true), Fc.is (.bool true), Fc.num x, Fc.is (.int .i64 (cmpI x 0)), Fc.num x, Fc.is (.int .i64 (cmpI x 0)), Fc.is (.bool true), Fc.is (.bool true), Fc.is (.bool true), Fc.num x, Fc.is (.int .i64 (bitsN x)), Fc.num x, Fc.is (.int .i64 (bitsN x)), Fc.is (.bool true), Fc.is (.bool true), Fc.is (.bool true)] [] []).Ok w21.heap.size w21.heap.size := plan_ok (by simp) (by simp) (by simp) (by omega)
  have hm := PMono.of hp
  refine region_steps (p := (plan [Fc.is (.bool true), Fc.is (.bool true), Fc.num x, Fc.num y, Fc.is (.int .i64 (cmpI x y)), Fc.num x, Fc.num y, Fc.is (.int .i64 (cmpI x y)), Fc.is (.bool true), Fc.is (.bool true), Fc.is (.bool true), Fc.num x, Fc.is (.int .i64 (cmpI x 0)), Fc.num x, Fc.is (.int .i64 (cmpI x 0)), Fc.is (.bool true), Fc.is (.bool true), Fc.is (.bool true), Fc.num x, Fc.is (.int .i64 (bitsN x)), Fc.num x, Fc.is (.int .i64 (bitsN x)), Fc.is (.bool true), Fc.is (.bool true), Fc.is (.bool true)] [] [])) (B := w21.heap.size) (B0 := w21.heap.size) (w0 := w21) (by kernel_rfl) rfl rfl (plan_start (by simp) (Below.refl _ _)) ⟨?_, ?_, ?_, ?_, ?_, ?_, ?_, ?_, ?_, ?_, ?_, ?_, ?_, ?_, ?_, ?_, ?_, ?_, ?_, ?_, ?_, ?_, ?_, ?_, ?_, trivial⟩ ?_
  · exact g_move hm ⟨by simp [plan], by simp [plan]⟩ trivial (src_out rfl rfl (fun _ _ => rfl))
  · exact g_move hm ⟨by simp [plan], by simp [plan]⟩ trivial (src_in 0 rfl rfl (by simp) rfl (fun v w h => h))
  · exact g_load (z := x) hm ⟨by simp [plan], by simp [plan]⟩ (gd_some rfl rfl (by simp) rfl (fun v w h => h)) (src_out rfl rfl (fun w h => ⟨rfl, X3_0.mono h⟩)) (fun v w h => h)
  · exact g_load (z := y) hm ⟨by simp [plan], by simp [plan]⟩ (gd_some rfl rfl (by simp) rfl (fun v w h => h)) (src_out rfl rfl (fun w h => ⟨rfl, X5_0.mono h⟩)) (fun v w h => h)
  · exact g_call2 (F := (Fc.num x).P) (G := (Fc.num y).P) hm ⟨by simp [plan], by simp [plan]⟩ (gd_some rfl rfl (by simp) rfl (fun v w h => h)) enter_Cmp (src_in 2 rfl rfl (by simp) rfl (fun v w h => h)) (src_in 3 rfl rfl (by simp) rfl (fun v w h => h)) (fun v v' w h h' => exCmp h h')
  · exact g_load (z := x) hm ⟨by simp [plan], by simp [plan]⟩ (gd_some rfl rfl (by simp) rfl (fun v w h => h)) (src_out rfl rfl (fun w h => ⟨rfl, X3_0.mono h⟩)) (fun v w h => h)
  · exact g_load (z := y) hm ⟨by simp [plan], by simp [plan]⟩ (gd_some rfl rfl (by simp) rfl (fun v w h => h)) (src_out rfl rfl (fun w h => ⟨rfl, X5_0.mono h⟩)) (fun v w h => h)
  · exact g_call2 (F := (Fc.num x).P) (G := (Fc.num y).P) hm ⟨by simp [plan], by simp [plan]⟩ (gd_some rfl rfl (by simp) rfl (fun v w h => h)) enter_rCmp (src_in 5 rfl rfl (by simp) rfl (fun v w h => h)) (src_in 6 rfl rfl (by simp) rfl (fun v w h => h)) (fun v v' w h h' => exRCmp h h')
  · exact g_two (u := .int .i64 (cmpI x y)) (v := .int .i64 (cmpI x y)) (r := .bool true) hm ⟨by simp [plan], by simp [plan]⟩ (gd_some rfl rfl (by simp) rfl (fun v w h => h)) (src_in 4 rfl rfl (by simp) rfl (fun v w h => h)) (src_in 7 rfl rfl (by simp) rfl (fun v w h => h)) (fun ρ w _ h h' => by simp [execOp, go_sem, h, h']) (fun _ => rfl)
  · exact g_pick hm ⟨by simp [plan], by simp [plan]⟩ trivial (src_in 1 rfl rfl (by simp) rfl (fun v w h => h)) (src_in 8 rfl rfl (by simp) rfl (fun v w h => h))
  · exact g_move hm ⟨by simp [plan], by simp [plan]⟩ trivial (src_in 9 rfl rfl (by simp) rfl (fun v w h => h))
  · exact g_load (z := x) hm ⟨by simp [plan], by simp [plan]⟩ (gd_some rfl rfl (by simp) rfl (fun v w h => h)) (src_out rfl rfl (fun w h => ⟨rfl, X3_0.mono h⟩)) (fun v w h => h)
  · exact g_call1 (F := (Fc.num x).P) hm ⟨by simp [plan], by simp [plan]⟩ (gd_some rfl rfl (by simp) rfl (fun v w h => h)) enter_Sign (src_in 11 rfl rfl (by simp) rfl (fun v w h => h)) (fun v w h => exSign h)
  · exact g_load (z := x) hm ⟨by simp [plan], by simp [plan]⟩ (gd_some rfl rfl (by simp) rfl (fun v w h => h)) (src_out rfl rfl (fun w h => ⟨rfl, X3_0.mono h⟩)) (fun v w h => h)
  · exact g_call1 (F := (Fc.num x).P) hm ⟨by simp [plan], by simp [plan]⟩ (gd_some rfl rfl (by simp) rfl (fun v w h => h)) enter_rSign (src_in 13 rfl rfl (by simp) rfl (fun v w h => h)) (fun v w h => exRSign h)
  · exact g_two (u := .int .i64 (cmpI x 0)) (v := .int .i64 (cmpI x 0)) (r := .bool true) hm ⟨by simp [plan], by simp [plan]⟩ (gd_some rfl rfl (by simp) rfl (fun v w h => h)) (src_in 12 rfl rfl (by simp) rfl (fun v w h => h)) (src_in 14 rfl rfl (by simp) rfl (fun v w h => h)) (fun ρ w _ h h' => by simp [execOp, go_sem, h, h']) (fun _ => rfl)
  · exact g_pick hm ⟨by simp [plan], by simp [plan]⟩ trivial (src_in 10 rfl rfl (by simp) rfl (fun v w h => h)) (src_in 15 rfl rfl (by simp) rfl (fun v w h => h))
  · exact g_move hm ⟨by simp [plan], by simp [plan]⟩ trivial (src_in 16 rfl rfl (by simp) rfl (fun v w h => h))
  · exact g_load (z := x) hm ⟨by simp [plan], by simp [plan]⟩ (gd_some rfl rfl (by simp) rfl (fun v w h => h)) (src_out rfl rfl (fun w h => ⟨rfl, X3_0.mono h⟩)) (fun v w h => h)
  · exact g_call1 (F := (Fc.num x).P) hm ⟨by simp [plan], by simp [plan]⟩ (gd_some rfl rfl (by simp) rfl (fun v w h => h)) enter_Bits (src_in 18 rfl rfl (by simp) rfl (fun v w h => h)) (fun v w h => exBits h)
  · exact g_load (z := x) hm ⟨by simp [plan], by simp [plan]⟩ (gd_some rfl rfl (by simp) rfl (fun v w h => h)) (src_out rfl rfl (fun w h => ⟨rfl, X3_0.mono h⟩)) (fun v w h => h)
  · exact g_call1 (F := (Fc.num x).P) hm ⟨by simp [plan], by simp [plan]⟩ (gd_some rfl rfl (by simp) rfl (fun v w h => h)) enter_rBits (src_in 20 rfl rfl (by simp) rfl (fun v w h => h)) (fun v w h => exRBits h)
  · exact g_two (u := .int .i64 (bitsN x)) (v := .int .i64 (bitsN x)) (r := .bool true) hm ⟨by simp [plan], by simp [plan]⟩ (gd_some rfl rfl (by simp) rfl (fun v w h => h)) (src_in 19 rfl rfl (by simp) rfl (fun v w h => h)) (src_in 21 rfl rfl (by simp) rfl (fun v w h => h)) (fun ρ w _ h h' => by simp [execOp, go_sem, h, h']) (fun _ => rfl)
  · exact g_pick hm ⟨by simp [plan], by simp [plan]⟩ trivial (src_in 17 rfl rfl (by simp) rfl (fun v w h => h)) (src_in 22 rfl rfl (by simp) rfl (fun v w h => h))
  · exact g_assign hm ⟨by simp [plan], by simp [plan]⟩ trivial (src_in 23 rfl rfl (by simp) rfl (fun v w h => h))
  intro L vs w22 hL hG
  have e0 : vs 0 = .bool true := hG.val 0 (hL 0 (by simp))
  have e1 : vs 1 = .bool true := hG.val 1 (hL 1 (by simp))
  have e4 : vs 4 = .int .i64 (cmpI x y) := hG.val 4 (hL 4 (by simp))
  have e7 : vs 7 = .int .i64 (cmpI x y) := hG.val 7 (hL 7 (by simp))
  have e8 : vs 8 = .bool true := hG.val 8 (hL 8 (by simp))
  have e9 : vs 9 = .bool true := hG.val 9 (hL 9 (by simp))
  have e10 : vs 10 = .bool true := hG.val 10 (hL 10 (by simp))
  have e12 : vs 12 = .int .i64 (cmpI x 0) := hG.val 12 (hL 12 (by simp))
  have e14 : vs 14 = .int .i64 (cmpI x 0) := hG.val 14 (hL 14 (by simp))
  have e15 : vs 15 = .bool true := hG.val 15 (hL 15 (by simp))
  have e16 : vs 16 = .bool true := hG.val 16 (hL 16 (by simp))
  have e17 : vs 17 = .bool true := hG.val 17 (hL 17 (by simp))
  have e19 : vs 19 = .int .i64 (bitsN x) := hG.val 19 (hL 19 (by simp))
  have e21 : vs 21 = .int .i64 (bitsN x) := hG.val 21 (hL 21 (by simp))
  have e22 : vs 22 = .bool true := hG.val 22 (hL 22 (by simp))
  have e23 : vs 23 = .bool true := hG.val 23 (hL 23 (by simp))
  have e24 : vs 24 = .bool true := hG.val 24 (hL 24 (by simp))
  have hb := hG.below
  replace E := E.mono hb
  rw [lay_all hL]
  simp only [putAll, dstOf, List.length_cons, List.length_nil, Nat.zero_add, Nat.reduceAdd, List.getElem?_toArray, List.getElem?_cons_zero, List.getElem?_cons_succ, Option.bind_some, Act.put, List.setIfInBounds_toArray, List.set_cons_succ, List.set_cons_zero]
  rw [e0, e1, e4, e7, e8, e9, e10, e12, e14, e15, e16, e17, e19, e21, e22, e23, e24]
  generalize vs 2 = u22_2
  generalize vs 3 = u22_3
  generalize vs 5 = u22_5
  generalize vs 6 = u22_6
  generalize vs 11 = u22_11
  generalize vs 13 = u22_13
  generalize vs 18 = u22_18
  generalize vs 20 = u22_20
  clear hb hG hp hm hL vs L e0 e1 e4 e7 e8 e9 e10 e12 e14 e15 e16 e17 e19 e21 e22 e23 e24 X3_0 X5_0
  go_wp2
  go_ret
  exact ⟨rfl, E.below⟩

end Go.Proofs.Ytplpammfbljaoaa
