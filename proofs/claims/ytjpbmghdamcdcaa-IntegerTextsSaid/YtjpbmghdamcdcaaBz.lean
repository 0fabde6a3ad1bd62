/- The arithmetic of Bezout's coefficients. -/
import Derived.Test.YtjpbmghdamcdcaaX
namespace Go.Proofs.Ytjpbmghdamcdcaa

/-- The absolute value. -/
def ab (z : Int) : Int := (z.natAbs : Int)

theorem ab_nonneg (z : Int) : 0 ≤ ab z := by unfold ab; omega
theorem ab_mul (x y : Int) : ab (x * y) = ab x * ab y := by unfold ab; rw [Int.natAbs_mul]; rfl
theorem ab_sub (x y : Int) : ab (x - y) ≤ ab x + ab y := by unfold ab; omega
theorem ab_pos {z : Int} (h : z ≠ 0) : 1 ≤ ab z := by unfold ab; omega
theorem ab_of {z : Int} (h : 0 ≤ z) : ab z = z := by unfold ab; omega

/-- What the loop holds of the numbers. -/
def BezInv (a b r rr u uu : Int) : Prop :=
  (∃ k, r = u * a + k * b) ∧ (∃ k, rr = uu * a + k * b) ∧ Int.gcd r rr = Int.gcd a b ∧ ab u ≤ 3 * ab b ∧ ab uu ≤ 3 * ab b ∧ (ab r ≤ ab a ∨ ab r ≤ ab b) ∧ ab rr ≤ ab b ∧
    ((u = 1 ∧ uu = 0 ∧ r = a ∧ rr = b) ∨ (u = 0 ∧ uu = 1 ∧ r = b ∧ 0 ≤ rr) ∨ (0 < r ∧ 0 ≤ rr ∧ ab uu * r + ab u * rr ≤ 3 * ab b))

theorem bez_start {a b : Int} (hb : b ≠ 0) : BezInv a b a b 1 0 := by
  have := ab_pos hb
  exact ⟨⟨0, by omega⟩, ⟨1, by omega⟩, rfl, by unfold ab at *; omega, by unfold ab at *; omega, .inl (Int.le_refl _), Int.le_refl _, .inl ⟨rfl, rfl, rfl, rfl⟩⟩

theorem gcd_step' (x y : Int) : Int.gcd y (x % y) = Int.gcd x y := by
  have h := Int.mul_ediv_add_emod x y
  rw [Int.gcd_comm x y]
  have e : x % y = x - y * (x / y) := by omega
  rw [e, Int.sub_eq_add_neg, ← Int.mul_neg, Int.gcd_add_mul_left_right]

theorem bez_step {a b r rr u uu : Int} (hb : b ≠ 0) (h : BezInv a b r rr u uu) (h0 : rr ≠ 0) :
    BezInv a b rr (r % rr) uu (u - r / rr * uu) ∧ ab (r % rr) < ab rr ∧ ab (r / rr * uu) ≤ 6 * ab b ∧ ab (r / rr) ≤ ab r := by
  obtain ⟨⟨k, hk⟩, ⟨k', hk'⟩, hg, hu, huu, hr, hrr, hph⟩ := h
  have hdm := Int.mul_ediv_add_emod r rr
  have hm0 := Int.emod_nonneg r h0
  have hm1 : r % rr < ab rr := by unfold ab; exact Int.emod_lt r h0
  have hq : ab (r / rr) ≤ ab r := by
    unfold ab
    have := Int.natAbs_ediv_le_natAbs r rr
    omega
  have hab := ab_pos hb
  obtain ⟨q, hqe⟩ : ∃ q, q = r / rr := ⟨_, rfl⟩
  obtain ⟨s, hse⟩ : ∃ s, s = r % rr := ⟨_, rfl⟩
  have hgs : Int.gcd rr s = Int.gcd a b := by rw [hse, gcd_step', hg]
  rw [← hqe] at hdm hq ⊢
  rw [← hse] at hdm hm0 hm1 ⊢
  have hs : ab s = s := ab_of hm0
  have hk2 : ∃ k, s = (u - q * uu) * a + k * b := by
    refine ⟨k - q * k', ?_⟩
    have e1 : (u - q * uu) * a + (k - q * k') * b = (u * a + k * b) - q * (uu * a + k' * b) := by
      simp only [Int.sub_mul, Int.mul_add, Int.mul_assoc]; omega
    rw [e1, ← hk, ← hk', Int.mul_comm q rr]
    omega
  have hW := ab_sub u (q * uu)
  rw [ab_mul] at hW
  have hu0 := ab_nonneg u
  have hv0 := ab_nonneg uu
  have hw0 := ab_nonneg (u - q * uu)
  have hq0 := ab_nonneg q
  suffices hc : ab (u - q * uu) ≤ 3 * ab b ∧ ((uu = 0 ∧ u - q * uu = 1 ∧ rr = b ∧ 0 ≤ s) ∨ (0 < rr ∧ 0 ≤ s ∧ ab (u - q * uu) * rr + ab uu * s ≤ 3 * ab b)) by
    refine ⟨⟨⟨k', hk'⟩, hk2, hgs, huu, hc.1, .inr hrr, by omega, .inr ?_⟩, by omega, ?_, hq⟩
    · rcases hc.2 with ⟨h1, h2, h3, h4⟩ | h1
      · exact .inl ⟨h1, h2, h3, h4⟩
      · exact .inr h1
    · have h1 := ab_sub u (u - q * uu)
      rw [show u - (u - q * uu) = q * uu from by omega] at h1
      omega
  rcases hph with ⟨rfl, rfl, rfl, rfl⟩ | ⟨rfl, rfl, rfl, h4⟩ | ⟨h1, h2, h3⟩
  · simp only [Int.mul_zero, Int.sub_zero]
    have e1 : ab 1 = 1 := rfl
    refine ⟨by omega, .inl ⟨trivial, trivial, trivial, hm0⟩⟩
  · have hrp : 0 < rr := by omega
    have hrra : ab rr = rr := ab_of (by omega)
    have e1 : ab (0 - q * 1) = ab q := by unfold ab; omega
    have e2 : ab 1 = 1 := rfl
    rw [e1, e2]
    have key : ab q * rr + s ≤ 3 * ab r := by
      rcases (by omega : 0 ≤ q ∨ q < 0) with hq | hq
      · rw [ab_of hq]
        have : ab r = r := by
          apply ab_of
          have := Int.mul_nonneg (show 0 ≤ rr by omega) hq
          omega
        rw [Int.mul_comm q rr]; omega
      · have e3 : ab q = -q := by unfold ab; omega
        rw [e3, Int.neg_mul, Int.mul_comm q rr]
        have : -r ≤ ab r := by unfold ab; omega
        omega
    have h5 : ab q ≤ ab q * rr := by
      have := Int.mul_le_mul_of_nonneg_left (show 1 ≤ rr by omega) hq0
      omega
    exact ⟨by omega, .inr ⟨hrp, hm0, by omega⟩⟩
  · have hrp : 0 < rr := by omega
    have hqn : 0 ≤ q := by rw [hqe]; exact Int.ediv_nonneg (by omega) (by omega)
    rw [ab_of hqn] at hW
    have p1 := Int.mul_nonneg (show 0 ≤ ab u + q * ab uu - ab (u - q * uu) by omega) (show 0 ≤ rr by omega)
    generalize ab (u - q * uu) = W at *
    generalize ab u = U at *
    generalize ab uu = V at *
    have e4 : V * r = V * (rr * q) + V * s := by rw [← Int.mul_add, hdm]
    have e5 : (U + q * V - W) * rr = U * rr + V * (rr * q) - W * rr := by
      rw [Int.sub_mul, Int.add_mul]
      congr 2
      rw [Int.mul_comm q V, Int.mul_assoc, Int.mul_comm q rr]
    have key : W * rr + V * s ≤ 3 * ab b := by omega
    have p2 := Int.mul_nonneg hv0 hm0
    have p3 := Int.mul_le_mul_of_nonneg_left (show 1 ≤ rr by omega) hw0
    exact ⟨by omega, .inr ⟨hrp, hm0, key⟩⟩

/-- Behind the loop. -/
theorem bez_end {a b r u uu : Int} (hb : b ≠ 0) (h : BezInv a b r 0 u uu) : ab r = (Int.gcd a b : Int) ∧ 0 < ab r ∧ (∃ k, ab r = u * a + k * b) ∧ ab u ≤ 3 * ab b := by
  obtain ⟨⟨k, hk⟩, ⟨k', hk'⟩, hg, hu, huu, hr, hrr, hph⟩ := h
  have hga : ab r = (Int.gcd a b : Int) := by
    rw [← hg, Int.gcd_zero_right]; rfl
  have hgp : 0 < Int.gcd a b := Int.gcd_pos_of_ne_zero_right _ hb
  refine ⟨hga, by omega, ?_, hu⟩
  rcases (by omega : 0 ≤ r ∨ r < 0) with h0 | h0
  · exact ⟨k, by rw [ab_of h0]; exact hk⟩
  · rcases hph with ⟨_, _, _, h4⟩ | ⟨h1, h2, h3, h4⟩ | ⟨h1, _, _⟩
    · exact absurd h4.symm hb
    · refine ⟨-1, ?_⟩
      have : ab r = -r := by unfold ab; omega
      rw [this, h1, h3]; omega
    · omega

/-- The coefficient is made least. -/
theorem bez_last {a b g u : Int} (hb : b ≠ 0) (hg : g = (Int.gcd a b : Int)) (hu : ∃ k, g = u * a + k * b) :
    0 < ab b / g ∧ 0 ≤ u % (ab b / g) ∧ u % (ab b / g) < ab b / g ∧ (g - u % (ab b / g) * a) / b * b = g - u % (ab b / g) * a := by
  have hgp : 0 < Int.gcd a b := Int.gcd_pos_of_ne_zero_right _ hb
  have hg0 : 0 < g := by omega
  have hgb : g ∣ b := by rw [hg]; exact Int.gcd_dvd_right ..
  have hga : g ∣ a := by rw [hg]; exact Int.gcd_dvd_left ..
  obtain ⟨c, hc⟩ := hgb
  obtain ⟨d, hd⟩ := hga
  have hcab : ab b / g = ab c := by
    rw [hc, ab_mul, ab_of (show 0 ≤ g by omega), Int.mul_ediv_cancel_left _ (by omega)]
  have hc0 : c ≠ 0 := by intro e; rw [e, Int.mul_zero] at hc; exact hb hc
  have hcp := ab_pos hc0
  rw [hcab]
  refine ⟨by omega, Int.emod_nonneg _ (by omega), Int.emod_lt_of_pos _ (by omega), ?_⟩
  apply Int.ediv_mul_cancel
  obtain ⟨k, hk⟩ := hu
  have hdm := Int.mul_ediv_add_emod u (ab c)
  obtain ⟨sg, hsg⟩ : ∃ sg, ab c = sg * c := by
    rcases (by omega : 0 ≤ c ∨ c < 0) with h | h
    · exact ⟨1, by rw [ab_of h]; omega⟩
    · exact ⟨-1, by unfold ab; omega⟩
  refine ⟨k + sg * (u / ab c) * d, ?_⟩
  have e1 : u % ab c = u - ab c * (u / ab c) := by omega
  rw [e1, hk, Int.sub_mul]
  have e2 : ab c * (u / ab c) * a = b * (sg * (u / ab c) * d) := by
    rw [hd, hc]
    generalize u / ab c = t
    rw [hsg]
    simp only [Int.mul_comm, Int.mul_left_comm]
  rw [e2, Int.mul_add, Int.mul_comm b k]
  omega

end Go.Proofs.Ytjpbmghdamcdcaa
