/- Walk of the law on greatest common divisors. -/
import Derived.Test.YtplpammfbljaoaaLw
namespace Go.Proofs.Ytplpammfbljaoaa
open Go Go.RowKit

theorem gcd_zero_r (a : Int) : (Int.gcd a 0 : Int) = ab a := by unfold ab; simp [Int.gcd]
theorem gcd_ne {a b : Int} (h : b ≠ 0) : 0 < (Int.gcd a b : Int) := by
  have := Nat.gcd_pos_of_pos_right a.natAbs (n := b.natAbs) (by omega)
  exact Int.ofNat_lt.2 this

theorem ab_gcdB {x y : Int} {j k m : Nat} (hx : ab x < pw j) (hy : ab y < pw k) (hj : j ≤ m) (hk : k ≤ m) : ab (Int.gcd x y : Int) < pw m := by
  have h1 := pw_le hj
  have h2 := pw_le hk
  by_cases h : x = 0
  · subst h
    have e : Int.gcd 0 y = y.natAbs := by simp [Int.gcd]
    rw [e]
    unfold ab at *
    omega
  · have h3 : Nat.gcd x.natAbs y.natAbs ≤ x.natAbs := Nat.gcd_le_left _ (by omega)
    have e : Int.gcd x y = Nat.gcd x.natAbs y.natAbs := rfl
    rw [e]
    unfold ab at *
    omega

theorem bez_facts {a b s t : Int} {K : Nat} (hK : 1 ≤ K) (ha : ab a < pw K) (hb : ab b < pw K)
    (h : (b = 0 ∧ s = cmpI a 0 ∧ t = 0) ∨ (b ≠ 0 ∧ 0 ≤ s ∧ s < ab b / (Int.gcd a b : Int) ∧ s * a + t * b = (Int.gcd a b : Int))) :
    s * a + t * b = (Int.gcd a b : Int) ∧ (b ≠ 0 → 0 ≤ s ∧ s < ab b / (Int.gcd a b : Int)) ∧ ab s < pw K ∧ ab t < pw (K + K + 1) := by
  have hp := pw_pos (K + K + 1)
  have hp2 : 1 < pw K := by
    have := pw_le hK
    have h1 : (1 : Int) < pw 1 := by decide
    omega
  rcases h with ⟨rfl, rfl, rfl⟩ | ⟨h0, h1, h2, h3⟩
  · refine ⟨?_, fun h => absurd rfl h, ?_, by simpa [ab] using hp⟩
    · rw [gcd_zero_r]
      unfold cmpI ab
      split
      · omega
      · split <;> omega
    · unfold cmpI ab
      split
      · simp; omega
      · split <;> simp <;> omega
  · refine ⟨h3, fun _ => ⟨h1, h2⟩, ?_, ?_⟩
    · have h4 : ab b / (Int.gcd a b : Int) ≤ ab b := Int.ediv_le_self _ (ab_nonneg _)
      rw [ab_of h1]
      omega
    · have h4 : ab b / (Int.gcd a b : Int) ≤ ab b := Int.ediv_le_self _ (ab_nonneg _)
      have hs : ab s < pw K := by rw [ab_of h1]; omega
      have h5 : t * b = (Int.gcd a b : Int) - s * a := by omega
      have h6 : ab (t * b) < pw (K + K + 1) := by
        rw [h5]
        exact ab_subB (ab_gcdB ha hb (Nat.le_refl _) (Nat.le_refl _)) (ab_mulB hs ha) (by omega) (by omega)
      rw [ab_mul] at h6
      have h7 := Int.mul_le_mul_of_nonneg_left (ab_pos h0) (ab_nonneg t)
      omega

/-- Bezout's three numbers, as parts. -/
theorem exBezK {w : World} {v v' : Value} {a b : Int} (h : Num w v a) (h' : Num w v' b) {K : Nat} (ha : ab a < pw K) (hb : ab b < pw K) (hK : 1 ≤ K) (hK2 : K ≤ 400000) :
    Calls Try.prog 15 #[v, v'] w fun e w' => ∃ s t G : Int, G = (Int.gcd a b : Int) ∧ RThree w G s t e w' ∧ s * a + t * b = G ∧ (b ≠ 0 → 0 ≤ s ∧ s < ab b / G) ∧ ab s < pw K ∧ ab t < pw (K + K + 1) ∧ ab G < pw K :=
  (BezoutV h h' ha hb hK2).mono fun e w' hg' => by
    obtain ⟨hbl, v1, v2, v3, g1, u, x, rfl, n1, n2, n3, hgcd, hc⟩ := hg'
    obtain ⟨f1, f2, f3, f4⟩ := bez_facts hK ha hb (by rw [← hgcd]; exact hc)
    rw [← hgcd] at f1 f2
    obtain ⟨n, ao, k, c, rfl⟩ := n1.parts
    obtain ⟨n', ao', k', c', rfl⟩ := n2.parts
    obtain ⟨n'', ao'', k'', c'', rfl⟩ := n3.parts
    exact ⟨u, x, g1, hgcd, ⟨_, _, _, _, _, _, _, _, _, _, _, _, rfl, hbl, n1, n2, n3⟩, f1, f2, f3, f4, by rw [hgcd]; exact ab_gcdB ha hb (Nat.le_refl _) (Nat.le_refl _)⟩

theorem gcd_dvd_l (x y : Int) : x % (Int.gcd x y : Int) = 0 := Int.emod_eq_zero_of_dvd (Int.gcd_dvd_left ..)
theorem gcd_dvd_abs (x y : Int) : (Int.natAbs y : Int) % (Int.gcd x y : Int) = 0 := by
  have h : (Int.gcd x y : Int) ∣ y := Int.gcd_dvd_right ..
  exact Int.emod_eq_zero_of_dvd (Int.dvd_natAbs.2 h)
theorem gcd_times (x y z : Int) : (Int.gcd (x * z) (y * z) : Int) = (Int.gcd x y : Int) * (Int.natAbs z : Int) := by
  rw [Int.gcd_mul_right]; exact Int.natCast_mul ..
theorem gcd_none {x y : Int} (h : (Int.gcd x y : Int) = 0) : x = 0 ∧ y = 0 := by
  have := Int.gcd_eq_zero_iff.1 (Int.ofNat.inj h)
  exact this

set_option maxRecDepth 100000 in
set_option maxHeartbeats 16000000 in
theorem IntegerCommon_any (w : World) (n1 : Bool) (a1 : Option Addr) (k1 c1 : Nat) (xs1 : List Int) (h1 : Sl w a1 k1 c1 xs1) (hk1 : k1 ≤ 9223372036854775807) (n2 : Bool) (a2 : Option Addr) (k2 c2 : Nat) (xs2 : List Int) (h2 : Sl w a2 k2 c2 xs2) (hk2 : k2 ≤ 9223372036854775807) (n3 : Bool) (a3 : Option Addr) (k3 c3 : Nat) (xs3 : List Int) (h3 : Sl w a3 k3 c3 xs3) (hk3 : k3 ≤ 9223372036854775807) :
    Calls Try.prog 7 #[.agg #[.bool n1, .slice a1 k1 c1], .agg #[.bool n2, .slice a2 k2 c2], .agg #[.bool n3, .slice a3 k3 c3]] w fun e w' => e = .returned (.bool true) ∧ Below w.heap.size w w' := by
  obtain ⟨x, hx⟩ : ∃ x, x = sgn n1 (val (xs1.take 8)) := ⟨_, rfl⟩
  have Bx : Hid (ab x < pw 8) := by rw [hx]; exact Num.ofMade h1.digs
  have Hx := hidd hx
  clear hx
  obtain ⟨y, hy⟩ : ∃ y, y = sgn n2 (val (xs2.take 8)) := ⟨_, rfl⟩
  have By : Hid (ab y < pw 8) := by rw [hy]; exact Num.ofMade h2.digs
  have Hy := hidd hy
  clear hy
  obtain ⟨z, hz⟩ : ∃ z, z = sgn n3 (val (xs3.take 4)) := ⟨_, rfl⟩
  have Bz : Hid (ab z < pw 4) := by rw [hz]; exact Num.ofMade h3.digs
  have Hz := hidd hz
  clear hz
  go_enter Try.func7, Try.ntmps7
  go_upto_region 1 with (fail)
  obtain ⟨w0, hw0, E⟩ := raw_boxes3 w (n1 := n1) (n2 := n2) (n3 := n3) h1 h2 h3 24
  rw [← hw0]
  clear hw0
  go_wp2_with fail
  refine (examples_any _).mono ?_
  rintro e w1 ⟨rfl, hb⟩
  replace E := E.mono hb
  clear hb
  obtain ⟨⟨d0, d1, d2, d3⟩, hS⟩ := E.raws.1
  go_wp2_with fail
  refine (exKP (z := x) (by rw [Hx.out]; exact Made_any _ _ _ _ _ _ hS hk1 8 (by omega)) Bx.out (by omega)).mono ?_
  rintro e w2 ⟨n2', ao2, kk2, c2', rfl, hb, hN2⟩
  replace E := E.mono hb
  clear hb
  clear d0 d1 d2 d3 hS
  go_upto_region 5 with (fail)
  obtain ⟨w3, hw3, hb, p3_0⟩ := boxOne hN2 27
  rw [← hw3]
  clear hw3
  replace E := E.mono hb
  replace E := E.push p3_0
  clear hb p3_0
  obtain ⟨⟨d0, d1, d2, d3⟩, hS⟩ := E.raws.2.1
  go_wp2_with fail
  refine (exKP (z := y) (by rw [Hy.out]; exact Made_any _ _ _ _ _ _ hS hk2 8 (by omega)) By.out (by omega)).mono ?_
  rintro e w4 ⟨n4', ao4, kk4, c4', rfl, hb, hN4⟩
  replace E := E.mono hb
  clear hb
  clear d0 d1 d2 d3 hS
  go_upto_region 6 with (fail)
  obtain ⟨w5, hw5, hb, p5_0⟩ := boxOne hN4 27
  rw [← hw5]
  clear hw5
  replace E := E.mono hb
  replace E := E.push p5_0
  clear hb p5_0
  obtain ⟨⟨d0, d1, d2, d3⟩, hS⟩ := E.raws.2.2.1
  go_wp2_with fail
  refine (exKP (z := z) (by rw [Hz.out]; exact Made_any _ _ _ _ _ _ hS hk3 4 (by omega)) Bz.out (by omega)).mono ?_
  rintro e w6 ⟨n6', ao6, kk6, c6', rfl, hb, hN6⟩
  replace E := E.mono hb
  clear hb
  clear d0 d1 d2 d3 hS
  go_upto_region 7 with (fail)
  obtain ⟨w7, hw7, hb, p7_0⟩ := boxOne hN6 27
  rw [← hw7]
  clear hw7
  replace E := E.mono hb
  replace E := E.push p7_0
  clear hb p7_0
  obtain ⟨nd, aod, kkd, ccd, ⟨d0, d1, d2, d3⟩, hNd⟩ := E.bs.2.2.1
  obtain ⟨nf, aof, kkf, ccf, ⟨f0, f1, f2, f3⟩, hNf⟩ := E.bs.2.1
  go_wp2_with fail
  refine (exBezK hNd hNf Bx.out By.out (by omega) (by omega)).mono ?_
  rintro e w8 ⟨s, t, G, hG, ⟨n1', ao1, q1, c1', n2', ao2, q2, c2', n3', ao3, q3, c3', rfl, hb, N1, N2, N3⟩, f1, f2, f3, f4, f5⟩
  have HG := hidd hG
  have F1 := hidd f1
  have F2 := hidd f2
  have Bs := hidd f3
  have Bt := hidd f4
  have BG := hidd f5
  clear hG f1 f2 f3 f4 f5
  replace E := E.mono hb
  clear hb
  clear d0 d1 d2 d3 hNd f0 f1 f2 f3 hNf
  go_upto_region 8 with (fail)
  obtain ⟨w9, hw9, hb, p9_0, p9_1, p9_2⟩ := boxThree N1 N2 N3 27
  rw [← hw9]
  clear hw9
  replace E := E.mono hb
  replace E := E.push p9_0
  replace E := E.push p9_1
  replace E := E.push p9_2
  clear hb p9_0 p9_1 p9_2
  have E2 : Hid (G = (Int.gcd x y : Int)) := HG.out
  have E3 : Hid ((Int.gcd y x : Int) = G) := by show (Int.gcd y x : Int) = G; rw [HG.out, Int.gcd_comm]
  have T1 : Hid (¬ cmpI G 0 < 0) := by show ¬ cmpI G 0 < 0; rw [HG.out]; unfold cmpI; rw [if_neg (by omega)]; split <;> omega
  have B10 : Hid (ab ((s * x)) < pw 16) := ab_mulM Bs.out Bx.out (by omega)
  have B11 : Hid (ab ((t * y)) < pw 25) := ab_mulM Bt.out By.out (by omega)
  have B12 : Hid (ab (((s * x) + (t * y))) < pw 26) := ab_addB B10.out B11.out (by omega) (by omega)
  have B13 : Hid (ab ((Int.gcd x y : Int)) < pw 8) := ab_gcdB Bx.out By.out (by omega) (by omega)
  have B14 : Hid (ab ((Int.gcd y x : Int)) < pw 8) := ab_gcdB By.out Bx.out (by omega) (by omega)
  have X9_1 := E.bs.2.1
  have X3_0 := E.bs.2.2.2.2.2.1
  have X9_2 := E.bs.1
  have X5_0 := E.bs.2.2.2.2.1
  have X9_0 := E.bs.2.2.1
  have hp : (plan [Fc.num s, Fc.num x, Fc.num (s * x), Fc.num t, Fc.num y, Fc.num (t * y), Fc.num ((s * x) + (t * y)), Fc.num G, Fc.is (.bool true), Fc.is (.bool false), Fc.is (.bool false), Fc.num G, Fc.num x, Fc.num y, Fc.num (Int.gcd x y : Int), Fc.is (.bool true), Fc.is (.bool false), Fc.is (.bool false), Fc.is (.bool false), Fc.num y, Fc.num x, Fc.num (Int.gcd y x : Int), Fc.num G, Fc.is (.bool true), Fc.is (.bool false), Fc.is (.bool false), Fc.is (.bool false), Fc.num G, Fc.is (.int .i64 (cmpI G 0)), Fc.is (.bool false), Fc.is (.bool false)] [] []).Ok w9.heap.size w9.heap.size := plan_ok (by simp) (by simp) (by simp) (by omega)
  have hm := PMono.of hp
  refine region_steps (p := (plan [Fc.num s, Fc.num x, Fc.num (s * x), Fc.num t, Fc.num y, Fc.num (t * y), Fc.num ((s * x) + (t * y)), Fc.num G, Fc.is (.bool true), Fc.is (.bool false), Fc.is (.bool false), Fc.num G, Fc.num x, Fc.num y, Fc.num (Int.gcd x y : Int), Fc.is (.bool true), Fc.is (.bool false), Fc.is (.bool false), Fc.is (.bool false), Fc.num y, Fc.num x, Fc.num (Int.gcd y x : Int), Fc.num G, Fc.is (.bool true), Fc.is (.bool false), Fc.is (.bool false), Fc.is (.bool false), Fc.num G, Fc.is (.int .i64 (cmpI G 0)), Fc.is (.bool false), Fc.is (.bool false)] [] [])) (B := w9.heap.size) (B0 := w9.heap.size) (w0 := w9) (by kernel_rfl) rfl rfl (plan_start (by simp) (Below.refl _ _)) ⟨?_, ?_, ?_, ?_, ?_, ?_, ?_, ?_, ?_, ?_, ?_, ?_, ?_, ?_, ?_, ?_, ?_, ?_, ?_, ?_, ?_, ?_, ?_, ?_, ?_, ?_, ?_, ?_, ?_, ?_, ?_, trivial⟩ ?_
  · exact g_load (z := s) hm ⟨by simp [plan], by simp [plan]⟩ trivial (src_out rfl rfl (fun w h => ⟨rfl, X9_1.mono h⟩)) (fun v w h => h)
  · exact g_load (z := x) hm ⟨by simp [plan], by simp [plan]⟩ trivial (src_out rfl rfl (fun w h => ⟨rfl, X3_0.mono h⟩)) (fun v w h => h)
  · exact g_call2 (F := (Fc.num s).P) (G := (Fc.num x).P) hm ⟨by simp [plan], by simp [plan]⟩ trivial enter_Mul (src_in 0 rfl rfl (by simp) rfl (fun v w h => h)) (src_in 1 rfl rfl (by simp) rfl (fun v w h => h)) (fun v v' w h h' => exK (MulV h h') B10.out (by omega))
  · exact g_load (z := t) hm ⟨by simp [plan], by simp [plan]⟩ trivial (src_out rfl rfl (fun w h => ⟨rfl, X9_2.mono h⟩)) (fun v w h => h)
  · exact g_load (z := y) hm ⟨by simp [plan], by simp [plan]⟩ trivial (src_out rfl rfl (fun w h => ⟨rfl, X5_0.mono h⟩)) (fun v w h => h)
  · exact g_call2 (F := (Fc.num t).P) (G := (Fc.num y).P) hm ⟨by simp [plan], by simp [plan]⟩ trivial enter_Mul (src_in 3 rfl rfl (by simp) rfl (fun v w h => h)) (src_in 4 rfl rfl (by simp) rfl (fun v w h => h)) (fun v v' w h h' => exK (MulV h h') B11.out (by omega))
  · exact g_call2 (F := (Fc.num (s * x)).P) (G := (Fc.num (t * y)).P) hm ⟨by simp [plan], by simp [plan]⟩ trivial enter_Add' (src_in 2 rfl rfl (by simp) rfl (fun v w h => h)) (src_in 5 rfl rfl (by simp) rfl (fun v w h => h)) (fun v v' w h h' => exK (AddV h h') B12.out (by omega))
  · exact g_load (z := G) hm ⟨by simp [plan], by simp [plan]⟩ trivial (src_out rfl rfl (fun w h => ⟨rfl, X9_0.mono h⟩)) (fun v w h => h)
  · exact g_call2 (F := (Fc.num ((s * x) + (t * y))).P) (G := (Fc.num G).P) hm ⟨by simp [plan], by simp [plan]⟩ trivial enter_Same (src_in 6 rfl rfl (by simp) rfl (fun v w h => h)) (src_in 7 rfl rfl (by simp) rfl (fun v w h => h)) (fun v v' w h h' => exSame h h' F1.out)
  · exact g_not (b := true) hm ⟨by simp [plan], by simp [plan]⟩ trivial (src_in 8 rfl rfl (by simp) rfl (fun v w h => h)) (fun _ => rfl)
  · exact g_move hm ⟨by simp [plan], by simp [plan]⟩ trivial (src_in 9 rfl rfl (by simp) rfl (fun v w h => h))
  · exact g_load (z := G) hm ⟨by simp [plan], by simp [plan]⟩ (gd_some rfl rfl (by simp) rfl (fun v w h => h)) (src_out rfl rfl (fun w h => ⟨rfl, X9_0.mono h⟩)) (fun v w h => h)
  · exact g_load (z := x) hm ⟨by simp [plan], by simp [plan]⟩ (gd_some rfl rfl (by simp) rfl (fun v w h => h)) (src_out rfl rfl (fun w h => ⟨rfl, X3_0.mono h⟩)) (fun v w h => h)
  · exact g_load (z := y) hm ⟨by simp [plan], by simp [plan]⟩ (gd_some rfl rfl (by simp) rfl (fun v w h => h)) (src_out rfl rfl (fun w h => ⟨rfl, X5_0.mono h⟩)) (fun v w h => h)
  · exact g_call2 (F := (Fc.num x).P) (G := (Fc.num y).P) hm ⟨by simp [plan], by simp [plan]⟩ (gd_some rfl rfl (by simp) rfl (fun v w h => h)) enter_Gcd (src_in 12 rfl rfl (by simp) rfl (fun v w h => h)) (src_in 13 rfl rfl (by simp) rfl (fun v w h => h)) (fun v v' w h h' => exK (GcdV h h') B13.out (by omega))
  · exact g_call2 (F := (Fc.num G).P) (G := (Fc.num (Int.gcd x y : Int)).P) hm ⟨by simp [plan], by simp [plan]⟩ (gd_some rfl rfl (by simp) rfl (fun v w h => h)) enter_Same (src_in 11 rfl rfl (by simp) rfl (fun v w h => h)) (src_in 14 rfl rfl (by simp) rfl (fun v w h => h)) (fun v v' w h h' => exSame h h' E2.out)
  · exact g_not (b := true) hm ⟨by simp [plan], by simp [plan]⟩ (gd_some rfl rfl (by simp) rfl (fun v w h => h)) (src_in 15 rfl rfl (by simp) rfl (fun v w h => h)) (fun _ => rfl)
  · exact g_pickF hm ⟨by simp [plan], by simp [plan]⟩ trivial (src_in 10 rfl rfl (by simp) rfl (fun v w h => h)) (src_in 16 rfl rfl (by simp) rfl (fun v w h => h))
  · exact g_move hm ⟨by simp [plan], by simp [plan]⟩ trivial (src_in 17 rfl rfl (by simp) rfl (fun v w h => h))
  · exact g_load (z := y) hm ⟨by simp [plan], by simp [plan]⟩ (gd_some rfl rfl (by simp) rfl (fun v w h => h)) (src_out rfl rfl (fun w h => ⟨rfl, X5_0.mono h⟩)) (fun v w h => h)
  · exact g_load (z := x) hm ⟨by simp [plan], by simp [plan]⟩ (gd_some rfl rfl (by simp) rfl (fun v w h => h)) (src_out rfl rfl (fun w h => ⟨rfl, X3_0.mono h⟩)) (fun v w h => h)
  · exact g_call2 (F := (Fc.num y).P) (G := (Fc.num x).P) hm ⟨by simp [plan], by simp [plan]⟩ (gd_some rfl rfl (by simp) rfl (fun v w h => h)) enter_Gcd (src_in 19 rfl rfl (by simp) rfl (fun v w h => h)) (src_in 20 rfl rfl (by simp) rfl (fun v w h => h)) (fun v v' w h h' => exK (GcdV h h') B14.out (by omega))
  · exact g_load (z := G) hm ⟨by simp [plan], by simp [plan]⟩ (gd_some rfl rfl (by simp) rfl (fun v w h => h)) (src_out rfl rfl (fun w h => ⟨rfl, X9_0.mono h⟩)) (fun v w h => h)
  · exact g_call2 (F := (Fc.num (Int.gcd y x : Int)).P) (G := (Fc.num G).P) hm ⟨by simp [plan], by simp [plan]⟩ (gd_some rfl rfl (by simp) rfl (fun v w h => h)) enter_Same (src_in 21 rfl rfl (by simp) rfl (fun v w h => h)) (src_in 22 rfl rfl (by simp) rfl (fun v w h => h)) (fun v v' w h h' => exSame h h' E3.out)
  · exact g_not (b := true) hm ⟨by simp [plan], by simp [plan]⟩ (gd_some rfl rfl (by simp) rfl (fun v w h => h)) (src_in 23 rfl rfl (by simp) rfl (fun v w h => h)) (fun _ => rfl)
  · exact g_pickF hm ⟨by simp [plan], by simp [plan]⟩ trivial (src_in 18 rfl rfl (by simp) rfl (fun v w h => h)) (src_in 24 rfl rfl (by simp) rfl (fun v w h => h))
  · exact g_move hm ⟨by simp [plan], by simp [plan]⟩ trivial (src_in 25 rfl rfl (by simp) rfl (fun v w h => h))
  · exact g_load (z := G) hm ⟨by simp [plan], by simp [plan]⟩ (gd_some rfl rfl (by simp) rfl (fun v w h => h)) (src_out rfl rfl (fun w h => ⟨rfl, X9_0.mono h⟩)) (fun v w h => h)
  · exact g_call1 (F := (Fc.num G).P) hm ⟨by simp [plan], by simp [plan]⟩ (gd_some rfl rfl (by simp) rfl (fun v w h => h)) enter_Sign (src_in 27 rfl rfl (by simp) rfl (fun v w h => h)) (fun v w h => exSign h)
  · exact g_one (F := fun v _ => v = .int .i64 (cmpI G 0)) hm ⟨by simp [plan], by simp [plan]⟩ (gd_some rfl rfl (by simp) rfl (fun v w h => h)) (src_in 28 rfl rfl (by simp) rfl (fun v w h => h)) (fun ρ w hc h => ⟨.bool false, by simp [execOp, go_sem, h, hc, T1.out], rfl⟩)
  · exact g_pickF hm ⟨by simp [plan], by simp [plan]⟩ trivial (src_in 26 rfl rfl (by simp) rfl (fun v w h => h)) (src_in 29 rfl rfl (by simp) rfl (fun v w h => h))
  intro L vs w15 hL hG
  have e8 : vs 8 = .bool true := hG.val 8 (hL 8 (by simp))
  have e9 : vs 9 = .bool false := hG.val 9 (hL 9 (by simp))
  have e10 : vs 10 = .bool false := hG.val 10 (hL 10 (by simp))
  have e15 : vs 15 = .bool true := hG.val 15 (hL 15 (by simp))
  have e16 : vs 16 = .bool false := hG.val 16 (hL 16 (by simp))
  have e17 : vs 17 = .bool false := hG.val 17 (hL 17 (by simp))
  have e18 : vs 18 = .bool false := hG.val 18 (hL 18 (by simp))
  have e23 : vs 23 = .bool true := hG.val 23 (hL 23 (by simp))
  have e24 : vs 24 = .bool false := hG.val 24 (hL 24 (by simp))
  have e25 : vs 25 = .bool false := hG.val 25 (hL 25 (by simp))
  have e26 : vs 26 = .bool false := hG.val 26 (hL 26 (by simp))
  have e28 : vs 28 = .int .i64 (cmpI G 0) := hG.val 28 (hL 28 (by simp))
  have e29 : vs 29 = .bool false := hG.val 29 (hL 29 (by simp))
  have e30 : vs 30 = .bool false := hG.val 30 (hL 30 (by simp))
  have hb := hG.below
  replace E := E.mono hb
  rw [lay_all hL]
  simp only [putAll, dstOf, List.length_cons, List.length_nil, Nat.zero_add, Nat.reduceAdd, List.getElem?_toArray, List.getElem?_cons_zero, List.getElem?_cons_succ, Option.bind_some, Act.put, List.setIfInBounds_toArray, List.set_cons_succ, List.set_cons_zero]
  rw [e8, e9, e10, e15, e16, e17, e18, e23, e24, e25, e26, e28, e29, e30]
  generalize vs 0 = u15_0
  generalize vs 1 = u15_1
  generalize vs 2 = u15_2
  generalize vs 3 = u15_3
  generalize vs 4 = u15_4
  generalize vs 5 = u15_5
  generalize vs 6 = u15_6
  generalize vs 7 = u15_7
  generalize vs 11 = u15_11
  generalize vs 12 = u15_12
  generalize vs 13 = u15_13
  generalize vs 14 = u15_14
  generalize vs 19 = u15_19
  generalize vs 20 = u15_20
  generalize vs 21 = u15_21
  generalize vs 22 = u15_22
  generalize vs 27 = u15_27
  clear hb hG hp hm hL vs L e8 e9 e10 e15 e16 e17 e18 e23 e24 e25 e26 e28 e29 e30 X9_1 X3_0 X9_2 X5_0 X9_0
  by_cases hg0 : G = 0
  · obtain ⟨hx0, hy0⟩ := gcd_none (HG.out.symm.trans hg0)
    obtain ⟨nd, aod, kkd, ccd, ⟨d0, d1, d2, d3⟩, hNd⟩ := E.bs.2.2.1
    obtain rfl := hNd.len_zero.1.2 hg0
    obtain ⟨nf, aof, kkf, ccf, ⟨f0, f1, f2, f3⟩, hNf⟩ := E.bs.2.2.2.2.2.1
    obtain rfl := hNf.len_zero.1.2 hx0
    obtain ⟨nm, aom, kkm, ccm, ⟨m0, m1, m2, m3⟩, hNm⟩ := E.bs.2.2.2.2.1
    obtain rfl := hNm.len_zero.1.2 hy0
    clear hx0 hy0 hg0
    go_wp2
    go_ret
    exact ⟨rfl, E.below⟩
  · have Hg := hidd hg0
    have B16 : Hid (ab ((x / G)) < pw 9) := ab_divB Bx.out (by omega)
    have B17 : Hid (ab ((x % G)) < pw 8) := ab_modB Hg.out BG.out
    obtain ⟨nd, aod, kkd, ccd, ⟨d0, d1, d2, d3⟩, hNd⟩ := E.bs.2.2.2.2.2.1
    obtain ⟨nf, aof, kkf, ccf, ⟨f0, f1, f2, f3⟩, hNf⟩ := E.bs.2.2.1
    have hkf : ((kkf : Int) == 0) = false := by simp; exact fun h => Hg.out (hNf.len_zero.1.1 h)
    clear hg0
    go_wp2_with fail
    clear hkf
    refine (exDK hNd hNf Hg.out B16.out B17.out (by omega) (by omega)).mono ?_
    rintro e w18 ⟨n18, ao18, k18, c18, n18', ao18', k18', c18', rfl, hb, hq18, hr18⟩
    replace E := E.mono hb
    clear hb
    clear d0 d1 d2 d3 hNd f0 f1 f2 f3 hNf
    go_upto_region 13 with (fail)
    obtain ⟨w19, hw19, hb, p19_0, p19_1⟩ := boxTwo hq18 hr18 27
    rw [← hw19]
    clear hw19
    replace E := E.mono hb
    replace E := E.push p19_0
    replace E := E.push p19_1
    clear hb p19_0 p19_1
    have B20 : Hid (ab ((Int.natAbs y : Int)) < pw 8) := ab_absB By.out
    have B21 : Hid (ab (((Int.natAbs y : Int) / G)) < pw 9) := ab_divB B20.out (by omega)
    have B22 : Hid (ab (((Int.natAbs y : Int) % G)) < pw 8) := ab_modB Hg.out BG.out
    have X5_0 := E.bs.2.2.2.2.2.2.1
    have X9_0 := E.bs.2.2.2.2.1
    have hp : (plan [Fc.num y, Fc.num (Int.natAbs y : Int), Fc.num G, Fc.tup ((Int.natAbs y : Int) / G) ((Int.natAbs y : Int) % G), Fc.tup ((Int.natAbs y : Int) / G) ((Int.natAbs y : Int) % G), Fc.num ((Int.natAbs y : Int) / G), Fc.num ((Int.natAbs y : Int) % G), Fc.is (.int .i64 0), Fc.any, Fc.any, Fc.any, Fc.any, Fc.is (.int .i64 0)] [] [(8, 10, ((Int.natAbs y : Int) / G)), (9, 11, ((Int.natAbs y : Int) % G))]).Ok w19.heap.size w19.heap.size := plan_ok (by simp) (by simp) (by simp) (by omega)
    have hm := PMono.of hp
    refine region_steps (p := (plan [Fc.num y, Fc.num (Int.natAbs y : Int), Fc.num G, Fc.tup ((Int.natAbs y : Int) / G) ((Int.natAbs y : Int) % G), Fc.tup ((Int.natAbs y : Int) / G) ((Int.natAbs y : Int) % G), Fc.num ((Int.natAbs y : Int) / G), Fc.num ((Int.natAbs y : Int) % G), Fc.is (.int .i64 0), Fc.any, Fc.any, Fc.any, Fc.any, Fc.is (.int .i64 0)] [] [(8, 10, ((Int.natAbs y : Int) / G)), (9, 11, ((Int.natAbs y : Int) % G))])) (B := w19.heap.size) (B0 := w19.heap.size) (w0 := w19) (by kernel_rfl) rfl rfl (plan_start (by simp) (Below.refl _ _)) ⟨?_, ?_, ?_, ?_, ?_, ?_, ?_, ?_, ?_, ?_, ?_, ?_, ?_, trivial⟩ ?_
    · exact g_load (z := y) hm ⟨by simp [plan], by simp [plan]⟩ trivial (src_out rfl rfl (fun w h => ⟨rfl, X5_0.mono h⟩)) (fun v w h => h)
    · exact g_call1 (F := (Fc.num y).P) hm ⟨by simp [plan], by simp [plan]⟩ trivial enter_Abs (src_in 0 rfl rfl (by simp) rfl (fun v w h => h)) (fun v w h => exK (AbsV h) B20.out (by omega))
    · exact g_load (z := G) hm ⟨by simp [plan], by simp [plan]⟩ trivial (src_out rfl rfl (fun w h => ⟨rfl, X9_0.mono h⟩)) (fun v w h => h)
    · exact g_call2 (F := (Fc.num (Int.natAbs y : Int)).P) (G := (Fc.num G).P) hm ⟨by simp [plan], by simp [plan]⟩ trivial enter_DivMod' (src_in 1 rfl rfl (by simp) rfl (fun v w h => h)) (src_in 2 rfl rfl (by simp) rfl (fun v w h => h)) (fun v v' w h h' => exDT h h' Hg.out B21.out B22.out (by omega) (by omega))
    · exact g_move hm ⟨by simp [plan], by simp [plan]⟩ trivial (src_in 3 rfl rfl (by simp) rfl (fun v w h => h))
    · exact g_extract hm ⟨by simp [plan], by simp [plan]⟩ trivial (src_in 4 rfl rfl (by simp) rfl (fun v w h => by obtain ⟨v1, v2, e, h1, h2⟩ := h; exact ⟨_, v1, e, rfl, h1⟩))
    · exact g_extract hm ⟨by simp [plan], by simp [plan]⟩ trivial (src_in 4 rfl rfl (by simp) rfl (fun v w h => by obtain ⟨v1, v2, e, h1, h2⟩ := h; exact ⟨_, v2, e, rfl, h2⟩))
    · exact g_extract hm ⟨by simp [plan], by simp [plan]⟩ trivial (src_in 4 rfl rfl (by simp) rfl (fun v w h => by obtain ⟨v1, v2, e, h1, h2⟩ := h; exact ⟨_, _, e, rfl, rfl⟩))
    · exact st_alloc (k := 10) (z := ((Int.natAbs y : Int) / G)) hp (by simp [plan]) rfl (fun _ _ => trivial) (by simp [plan]) (by simp [plan])
    · exact st_alloc (k := 11) (z := ((Int.natAbs y : Int) % G)) hp (by simp [plan]) rfl (fun _ _ => trivial) (by simp [plan]) (by simp [plan])
    · exact st_storeNew (i0 := 8) (j := 5) (z := ((Int.natAbs y : Int) / G)) hp rfl (by simp [plan]) rfl (by simp) rfl rfl (by simp) rfl (fun v w h => h) (fun _ _ => trivial) (by simp [plan]) (by simp [plan])
    · exact st_storeNew (i0 := 9) (j := 6) (z := ((Int.natAbs y : Int) % G)) hp rfl (by simp [plan]) rfl (by simp) rfl rfl (by simp) rfl (fun v w h => h) (fun _ _ => trivial) (by simp [plan]) (by simp [plan])
    · exact g_assign hm ⟨by simp [plan], by simp [plan]⟩ trivial (src_in 7 rfl rfl (by simp) rfl (fun v w h => h))
    intro L vs w23 hL hG
    have e7 : vs 7 = .int .i64 0 := hG.val 7 (hL 7 (by simp))
    obtain ⟨b23_8, e8, _, x8⟩ := hG.new (8, 10, ((Int.natAbs y : Int) / G)) (by simp [plan]) (hL 8 (by simp))
    have x8' : BoxNum w23 b23_8 ((Int.natAbs y : Int) / G) := by have h := x8; simp only [hL 10 (by simp), if_true] at h; exact h
    obtain ⟨b23_9, e9, _, x9⟩ := hG.new (9, 11, ((Int.natAbs y : Int) % G)) (by simp [plan]) (hL 9 (by simp))
    have x9' : BoxNum w23 b23_9 ((Int.natAbs y : Int) % G) := by have h := x9; simp only [hL 11 (by simp), if_true] at h; exact h
    have e12 : vs 12 = .int .i64 0 := hG.val 12 (hL 12 (by simp))
    have hb := hG.below
    replace E := E.mono hb
    replace E := E.push x8'
    replace E := E.push x9'
    rw [lay_all hL]
    simp only [putAll, dstOf, List.length_cons, List.length_nil, Nat.zero_add, Nat.reduceAdd, List.getElem?_toArray, List.getElem?_cons_zero, List.getElem?_cons_succ, Option.bind_some, Act.put, List.setIfInBounds_toArray, List.set_cons_succ, List.set_cons_zero]
    rw [e7, e8, e9, e12]
    generalize vs 0 = u23_0
    generalize vs 1 = u23_1
    generalize vs 2 = u23_2
    generalize vs 3 = u23_3
    generalize vs 4 = u23_4
    generalize vs 5 = u23_5
    generalize vs 6 = u23_6
    clear hb hG hp hm hL vs L e7 e8 e9 e12 x8 x9 x8' x9' X5_0 X9_0
    have D1 : Hid (x % G = 0) := by show x % G = 0; rw [HG.out]; exact gcd_dvd_l x y
    have D2 : Hid ((Int.natAbs y : Int) % G = 0) := by show (Int.natAbs y : Int) % G = 0; rw [HG.out]; exact gcd_dvd_abs x y
    obtain ⟨nd, aod, kkd, ccd, ⟨d0, d1, d2, d3⟩, hNd⟩ := E.bs.2.2.1
    obtain rfl := hNd.len_zero.1.2 D1.out
    obtain ⟨nf, aof, kkf, ccf, ⟨f0, f1, f2, f3⟩, hNf⟩ := E.bs.1
    obtain rfl := hNf.len_zero.1.2 D2.out
    have E4 : Hid ((Int.gcd (x * z) (y * z) : Int) = (G * (Int.natAbs z : Int))) := by show (Int.gcd (x * z) (y * z) : Int) = G * (Int.natAbs z : Int); rw [HG.out]; exact gcd_times x y z
    obtain ⟨nm, aom, kkm, ccm, ⟨m0, m1, m2, m3⟩, hNm⟩ := E.bs.2.2.2.2.2.2.2.2.1
    by_cases hy0 : y = 0
    · obtain rfl := hNm.len_zero.1.2 hy0
      clear hy0
      go_wp2
      clear d0 d1 d2 d3 hNd f0 f1 f2 f3 hNf m0 m1 m2 m3 hNm
      have B24 : Hid (ab ((x * z)) < pw 12) := ab_mulM Bx.out Bz.out (by omega)
      have B25 : Hid (ab ((y * z)) < pw 12) := ab_mulM By.out Bz.out (by omega)
      have B26 : Hid (ab ((Int.gcd (x * z) (y * z) : Int)) < pw 12) := ab_gcdB B24.out B25.out (by omega) (by omega)
      have B27 : Hid (ab ((Int.natAbs z : Int)) < pw 4) := ab_absB Bz.out
      have B28 : Hid (ab ((G * (Int.natAbs z : Int))) < pw 12) := ab_mulM BG.out B27.out (by omega)
      have X3_0 := E.bs.2.2.2.2.2.2.2.2.2.1
      have X7_0 := E.bs.2.2.2.2.2.2.2.1
      have X5_0 := E.bs.2.2.2.2.2.2.2.2.1
      have X9_0 := E.bs.2.2.2.2.2.2.1
      have hp : (plan [Fc.is (.bool true), Fc.is (.bool true), Fc.num x, Fc.num z, Fc.num (x * z), Fc.num y, Fc.num z, Fc.num (y * z), Fc.num (Int.gcd (x * z) (y * z) : Int), Fc.num G, Fc.num z, Fc.num (Int.natAbs z : Int), Fc.num (G * (Int.natAbs z : Int)), Fc.is (.bool true), Fc.is (.bool true), Fc.is (.bool true)] [] []).Ok w23.heap.size w23.heap.size := plan_ok (by simp) (by simp) (by simp) (by omega)
      have hm := PMono.of hp
      refine region_steps (p := (plan [Fc.is (.bool true), Fc.is (.bool true), Fc.num x, Fc.num z, Fc.num (x * z), Fc.num y, Fc.num z, Fc.num (y * z), Fc.num (Int.gcd (x * z) (y * z) : Int), Fc.num G, Fc.num z, Fc.num (Int.natAbs z : Int), Fc.num (G * (Int.natAbs z : Int)), Fc.is (.bool true), Fc.is (.bool true), Fc.is (.bool true)] [] [])) (B := w23.heap.size) (B0 := w23.heap.size) (w0 := w23) (by kernel_rfl) rfl rfl (plan_start (by simp) (Below.refl _ _)) ⟨?_, ?_, ?_, ?_, ?_, ?_, ?_, ?_, ?_, ?_, ?_, ?_, ?_, ?_, ?_, ?_, trivial⟩ ?_
      · exact g_move hm ⟨by simp [plan], by simp [plan]⟩ trivial (src_out rfl rfl (fun _ _ => rfl))
      · exact g_move hm ⟨by simp [plan], by simp [plan]⟩ trivial (src_in 0 rfl rfl (by simp) rfl (fun v w h => h))
      · exact g_load (z := x) hm ⟨by simp [plan], by simp [plan]⟩ (gd_some rfl rfl (by simp) rfl (fun v w h => h)) (src_out rfl rfl (fun w h => ⟨rfl, X3_0.mono h⟩)) (fun v w h => h)
      · exact g_load (z := z) hm ⟨by simp [plan], by simp [plan]⟩ (gd_some rfl rfl (by simp) rfl (fun v w h => h)) (src_out rfl rfl (fun w h => ⟨rfl, X7_0.mono h⟩)) (fun v w h => h)
      · exact g_call2 (F := (Fc.num x).P) (G := (Fc.num z).P) hm ⟨by simp [plan], by simp [plan]⟩ (gd_some rfl rfl (by simp) rfl (fun v w h => h)) enter_Mul (src_in 2 rfl rfl (by simp) rfl (fun v w h => h)) (src_in 3 rfl rfl (by simp) rfl (fun v w h => h)) (fun v v' w h h' => exK (MulV h h') B24.out (by omega))
      · exact g_load (z := y) hm ⟨by simp [plan], by simp [plan]⟩ (gd_some rfl rfl (by simp) rfl (fun v w h => h)) (src_out rfl rfl (fun w h => ⟨rfl, X5_0.mono h⟩)) (fun v w h => h)
      · exact g_load (z := z) hm ⟨by simp [plan], by simp [plan]⟩ (gd_some rfl rfl (by simp) rfl (fun v w h => h)) (src_out rfl rfl (fun w h => ⟨rfl, X7_0.mono h⟩)) (fun v w h => h)
      · exact g_call2 (F := (Fc.num y).P) (G := (Fc.num z).P) hm ⟨by simp [plan], by simp [plan]⟩ (gd_some rfl rfl (by simp) rfl (fun v w h => h)) enter_Mul (src_in 5 rfl rfl (by simp) rfl (fun v w h => h)) (src_in 6 rfl rfl (by simp) rfl (fun v w h => h)) (fun v v' w h h' => exK (MulV h h') B25.out (by omega))
      · exact g_call2 (F := (Fc.num (x * z)).P) (G := (Fc.num (y * z)).P) hm ⟨by simp [plan], by simp [plan]⟩ (gd_some rfl rfl (by simp) rfl (fun v w h => h)) enter_Gcd (src_in 4 rfl rfl (by simp) rfl (fun v w h => h)) (src_in 7 rfl rfl (by simp) rfl (fun v w h => h)) (fun v v' w h h' => exK (GcdV h h') B26.out (by omega))
      · exact g_load (z := G) hm ⟨by simp [plan], by simp [plan]⟩ (gd_some rfl rfl (by simp) rfl (fun v w h => h)) (src_out rfl rfl (fun w h => ⟨rfl, X9_0.mono h⟩)) (fun v w h => h)
      · exact g_load (z := z) hm ⟨by simp [plan], by simp [plan]⟩ (gd_some rfl rfl (by simp) rfl (fun v w h => h)) (src_out rfl rfl (fun w h => ⟨rfl, X7_0.mono h⟩)) (fun v w h => h)
      · exact g_call1 (F := (Fc.num z).P) hm ⟨by simp [plan], by simp [plan]⟩ (gd_some rfl rfl (by simp) rfl (fun v w h => h)) enter_Abs (src_in 10 rfl rfl (by simp) rfl (fun v w h => h)) (fun v w h => exK (AbsV h) B27.out (by omega))
      · exact g_call2 (F := (Fc.num G).P) (G := (Fc.num (Int.natAbs z : Int)).P) hm ⟨by simp [plan], by simp [plan]⟩ (gd_some rfl rfl (by simp) rfl (fun v w h => h)) enter_Mul (src_in 9 rfl rfl (by simp) rfl (fun v w h => h)) (src_in 11 rfl rfl (by simp) rfl (fun v w h => h)) (fun v v' w h h' => exK (MulV h h') B28.out (by omega))
      · exact g_call2 (F := (Fc.num (Int.gcd (x * z) (y * z) : Int)).P) (G := (Fc.num (G * (Int.natAbs z : Int))).P) hm ⟨by simp [plan], by simp [plan]⟩ (gd_some rfl rfl (by simp) rfl (fun v w h => h)) enter_Same (src_in 8 rfl rfl (by simp) rfl (fun v w h => h)) (src_in 12 rfl rfl (by simp) rfl (fun v w h => h)) (fun v v' w h h' => exSame h h' E4.out)
      · exact g_pick hm ⟨by simp [plan], by simp [plan]⟩ trivial (src_in 1 rfl rfl (by simp) rfl (fun v w h => h)) (src_in 13 rfl rfl (by simp) rfl (fun v w h => h))
      · exact g_assign hm ⟨by simp [plan], by simp [plan]⟩ trivial (src_in 14 rfl rfl (by simp) rfl (fun v w h => h))
      intro L vs w29 hL hG
      have e0 : vs 0 = .bool true := hG.val 0 (hL 0 (by simp))
      have e1 : vs 1 = .bool true := hG.val 1 (hL 1 (by simp))
      have e13 : vs 13 = .bool true := hG.val 13 (hL 13 (by simp))
      have e14 : vs 14 = .bool true := hG.val 14 (hL 14 (by simp))
      have e15 : vs 15 = .bool true := hG.val 15 (hL 15 (by simp))
      have hb := hG.below
      replace E := E.mono hb
      rw [lay_all hL]
      simp only [putAll, dstOf, List.length_cons, List.length_nil, Nat.zero_add, Nat.reduceAdd, List.getElem?_toArray, List.getElem?_cons_zero, List.getElem?_cons_succ, Option.bind_some, Act.put, List.setIfInBounds_toArray, List.set_cons_succ, List.set_cons_zero]
      rw [e0, e1, e13, e14, e15]
      generalize vs 2 = u29_2
      generalize vs 3 = u29_3
      generalize vs 4 = u29_4
      generalize vs 5 = u29_5
      generalize vs 6 = u29_6
      generalize vs 7 = u29_7
      generalize vs 8 = u29_8
      generalize vs 9 = u29_9
      generalize vs 10 = u29_10
      generalize vs 11 = u29_11
      generalize vs 12 = u29_12
      clear hb hG hp hm hL vs L e0 e1 e13 e14 e15 X3_0 X7_0 X5_0 X9_0
      go_wp2
      go_ret
      exact ⟨rfl, E.below⟩
    · have hkm : 0 < kkm := by have := hNm.len_zero.1; omega
      have Hy0 : Hid (y ≠ 0) := hy0
      clear hy0
      have S1 : decide (cmpI s 0 < 0) = false := by have := (F2.out Hy0.out).1; rw [decide_eq_false_iff_not]; unfold cmpI; rw [if_neg (by omega)]; split <;> omega
      have S2 : decide (cmpI s ((Int.natAbs y : Int) / G) ≥ 0) = false := by have := (F2.out Hy0.out).2; unfold ab at this; rw [decide_eq_false_iff_not]; unfold cmpI; rw [if_pos this]; omega
      have HS1 := hidd S1
      have HS2 := hidd S2
      clear S1 S2
      obtain ⟨np, aop, kkp, ccp, ⟨p0, p1, p2, p3⟩, hNp⟩ := E.bs.2.2.2.2.2.1
      obtain ⟨nr, aor, kkr, ccr, ⟨r0, r1, r2, r3⟩, hNr⟩ := E.bs.2.1
      go_wp2_with fail
      refine (exSign hNp).mono ?_
      rintro e w30 ⟨_, rfl, hb, rfl⟩
      replace E := E.mono hb
      clear hb
      clear d0 d1 d2 d3 hNd f0 f1 f2 f3 hNf m0 m1 m2 m3 hNm
      clear p0 p1 p2 p3 r0 r1 r2 r3 hNp hNr
      obtain ⟨np, aop, kkp, ccp, ⟨p0, p1, p2, p3⟩, hNp⟩ := E.bs.2.2.2.2.2.1
      obtain ⟨nr, aor, kkr, ccr, ⟨r0, r1, r2, r3⟩, hNr⟩ := E.bs.2.1
      have HS := HS1.out
      go_wp2_with fail
      clear HS
      refine (exCmp hNp hNr).mono ?_
      rintro e w31 ⟨_, rfl, hb, rfl⟩
      replace E := E.mono hb
      clear hb
      clear p0 p1 p2 p3 hNp r0 r1 r2 r3 hNr
      have HS := HS2.out
      go_wp2
      clear HS
      have B32 : Hid (ab ((x * z)) < pw 12) := ab_mulM Bx.out Bz.out (by omega)
      have B33 : Hid (ab ((y * z)) < pw 12) := ab_mulM By.out Bz.out (by omega)
      have B34 : Hid (ab ((Int.gcd (x * z) (y * z) : Int)) < pw 12) := ab_gcdB B32.out B33.out (by omega) (by omega)
      have B35 : Hid (ab ((Int.natAbs z : Int)) < pw 4) := ab_absB Bz.out
      have B36 : Hid (ab ((G * (Int.natAbs z : Int))) < pw 12) := ab_mulM BG.out B35.out (by omega)
      have X3_0 := E.bs.2.2.2.2.2.2.2.2.2.1
      have X7_0 := E.bs.2.2.2.2.2.2.2.1
      have X5_0 := E.bs.2.2.2.2.2.2.2.2.1
      have X9_0 := E.bs.2.2.2.2.2.2.1
      have hp : (plan [Fc.is (.bool true), Fc.is (.bool true), Fc.num x, Fc.num z, Fc.num (x * z), Fc.num y, Fc.num z, Fc.num (y * z), Fc.num (Int.gcd (x * z) (y * z) : Int), Fc.num G, Fc.num z, Fc.num (Int.natAbs z : Int), Fc.num (G * (Int.natAbs z : Int)), Fc.is (.bool true), Fc.is (.bool true), Fc.is (.bool true)] [] []).Ok w31.heap.size w31.heap.size := plan_ok (by simp) (by simp) (by simp) (by omega)
      have hm := PMono.of hp
      refine region_steps (p := (plan [Fc.is (.bool true), Fc.is (.bool true), Fc.num x, Fc.num z, Fc.num (x * z), Fc.num y, Fc.num z, Fc.num (y * z), Fc.num (Int.gcd (x * z) (y * z) : Int), Fc.num G, Fc.num z, Fc.num (Int.natAbs z : Int), Fc.num (G * (Int.natAbs z : Int)), Fc.is (.bool true), Fc.is (.bool true), Fc.is (.bool true)] [] [])) (B := w31.heap.size) (B0 := w31.heap.size) (w0 := w31) (by kernel_rfl) rfl rfl (plan_start (by simp) (Below.refl _ _)) ⟨?_, ?_, ?_, ?_, ?_, ?_, ?_, ?_, ?_, ?_, ?_, ?_, ?_, ?_, ?_, ?_, trivial⟩ ?_
      · exact g_move hm ⟨by simp [plan], by simp [plan]⟩ trivial (src_out rfl rfl (fun _ _ => rfl))
      · exact g_move hm ⟨by simp [plan], by simp [plan]⟩ trivial (src_in 0 rfl rfl (by simp) rfl (fun v w h => h))
      · exact g_load (z := x) hm ⟨by simp [plan], by simp [plan]⟩ (gd_some rfl rfl (by simp) rfl (fun v w h => h)) (src_out rfl rfl (fun w h => ⟨rfl, X3_0.mono h⟩)) (fun v w h => h)
      · exact g_load (z := z) hm ⟨by simp [plan], by simp [plan]⟩ (gd_some rfl rfl (by simp) rfl (fun v w h => h)) (src_out rfl rfl (fun w h => ⟨rfl, X7_0.mono h⟩)) (fun v w h => h)
      · exact g_call2 (F := (Fc.num x).P) (G := (Fc.num z).P) hm ⟨by simp [plan], by simp [plan]⟩ (gd_some rfl rfl (by simp) rfl (fun v w h => h)) enter_Mul (src_in 2 rfl rfl (by simp) rfl (fun v w h => h)) (src_in 3 rfl rfl (by simp) rfl (fun v w h => h)) (fun v v' w h h' => exK (MulV h h') B32.out (by omega))
      · exact g_load (z := y) hm ⟨by simp [plan], by simp [plan]⟩ (gd_some rfl rfl (by simp) rfl (fun v w h => h)) (src_out rfl rfl (fun w h => ⟨rfl, X5_0.mono h⟩)) (fun v w h => h)
      · exact g_load (z := z) hm ⟨by simp [plan], by simp [plan]⟩ (gd_some rfl rfl (by simp) rfl (fun v w h => h)) (src_out rfl rfl (fun w h => ⟨rfl, X7_0.mono h⟩)) (fun v w h => h)
      · exact g_call2 (F := (Fc.num y).P) (G := (Fc.num z).P) hm ⟨by simp [plan], by simp [plan]⟩ (gd_some rfl rfl (by simp) rfl (fun v w h => h)) enter_Mul (src_in 5 rfl rfl (by simp) rfl (fun v w h => h)) (src_in 6 rfl rfl (by simp) rfl (fun v w h => h)) (fun v v' w h h' => exK (MulV h h') B33.out (by omega))
      · exact g_call2 (F := (Fc.num (x * z)).P) (G := (Fc.num (y * z)).P) hm ⟨by simp [plan], by simp [plan]⟩ (gd_some rfl rfl (by simp) rfl (fun v w h => h)) enter_Gcd (src_in 4 rfl rfl (by simp) rfl (fun v w h => h)) (src_in 7 rfl rfl (by simp) rfl (fun v w h => h)) (fun v v' w h h' => exK (GcdV h h') B34.out (by omega))
      · exact g_load (z := G) hm ⟨by simp [plan], by simp [plan]⟩ (gd_some rfl rfl (by simp) rfl (fun v w h => h)) (src_out rfl rfl (fun w h => ⟨rfl, X9_0.mono h⟩)) (fun v w h => h)
      · exact g_load (z := z) hm ⟨by simp [plan], by simp [plan]⟩ (gd_some rfl rfl (by simp) rfl (fun v w h => h)) (src_out rfl rfl (fun w h => ⟨rfl, X7_0.mono h⟩)) (fun v w h => h)
      · exact g_call1 (F := (Fc.num z).P) hm ⟨by simp [plan], by simp [plan]⟩ (gd_some rfl rfl (by simp) rfl (fun v w h => h)) enter_Abs (src_in 10 rfl rfl (by simp) rfl (fun v w h => h)) (fun v w h => exK (AbsV h) B35.out (by omega))
      · exact g_call2 (F := (Fc.num G).P) (G := (Fc.num (Int.natAbs z : Int)).P) hm ⟨by simp [plan], by simp [plan]⟩ (gd_some rfl rfl (by simp) rfl (fun v w h => h)) enter_Mul (src_in 9 rfl rfl (by simp) rfl (fun v w h => h)) (src_in 11 rfl rfl (by simp) rfl (fun v w h => h)) (fun v v' w h h' => exK (MulV h h') B36.out (by omega))
      · exact g_call2 (F := (Fc.num (Int.gcd (x * z) (y * z) : Int)).P) (G := (Fc.num (G * (Int.natAbs z : Int))).P) hm ⟨by simp [plan], by simp [plan]⟩ (gd_some rfl rfl (by simp) rfl (fun v w h => h)) enter_Same (src_in 8 rfl rfl (by simp) rfl (fun v w h => h)) (src_in 12 rfl rfl (by simp) rfl (fun v w h => h)) (fun v v' w h h' => exSame h h' E4.out)
      · exact g_pick hm ⟨by simp [plan], by simp [plan]⟩ trivial (src_in 1 rfl rfl (by simp) rfl (fun v w h => h)) (src_in 13 rfl rfl (by simp) rfl (fun v w h => h))
      · exact g_assign hm ⟨by simp [plan], by simp [plan]⟩ trivial (src_in 14 rfl rfl (by simp) rfl (fun v w h => h))
      intro L vs w37 hL hG
      have e0 : vs 0 = .bool true := hG.val 0 (hL 0 (by simp))
      have e1 : vs 1 = .bool true := hG.val 1 (hL 1 (by simp))
      have e13 : vs 13 = .bool true := hG.val 13 (hL 13 (by simp))
      have e14 : vs 14 = .bool true := hG.val 14 (hL 14 (by simp))
      have e15 : vs 15 = .bool true := hG.val 15 (hL 15 (by simp))
      have hb := hG.below
      replace E := E.mono hb
      rw [lay_all hL]
      simp only [putAll, dstOf, List.length_cons, List.length_nil, Nat.zero_add, Nat.reduceAdd, List.getElem?_toArray, List.getElem?_cons_zero, List.getElem?_cons_succ, Option.bind_some, Act.put, List.setIfInBounds_toArray, List.set_cons_succ, List.set_cons_zero]
      rw [e0, e1, e13, e14, e15]
      generalize vs 2 = u37_2
      generalize vs 3 = u37_3
      generalize vs 4 = u37_4
      generalize vs 5 = u37_5
      generalize vs 6 = u37_6
      generalize vs 7 = u37_7
      generalize vs 8 = u37_8
      generalize vs 9 = u37_9
      generalize vs 10 = u37_10
      generalize vs 11 = u37_11
      generalize vs 12 = u37_12
      clear hb hG hp hm hL vs L e0 e1 e13 e14 e15 X3_0 X7_0 X5_0 X9_0
      go_wp2
      go_ret
      exact ⟨rfl, E.below⟩

end Go.Proofs.Ytplpammfbljaoaa
