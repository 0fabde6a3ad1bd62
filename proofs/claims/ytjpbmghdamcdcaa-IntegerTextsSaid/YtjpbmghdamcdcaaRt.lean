/- Roots: the arithmetic of Newton's steps. Nothing of the program is used. -/
import Derived.Test.YtjpbmghdamcdcaaNw
set_option linter.unusedSimpArgs false
namespace Go.Proofs.Ytjpbmghdamcdcaa
open Go.RowKit

/-- Bernoulli. -/
theorem bern (r s : Int) (hr : 0 ≤ r) (hs : 0 ≤ s) : ∀ k : Nat, (((k + 1 : Nat) : Int) * r - (k : Int) * s) * s ^ k ≤ r ^ (k + 1)
  | 0 => by simp [Int.pow_succ]
  | k + 1 => by
    have ih := Int.mul_le_mul_of_nonneg_left (bern r s hr hs k) hr
    have hp : 0 ≤ s ^ k := Int.pow_nonneg hs
    have hsq : 0 ≤ s ^ k * (((k : Int) + 1) * ((r - s) * (r - s))) := Int.mul_nonneg hp (Int.mul_nonneg (by omega) (by
      rcases Int.le_total 0 (r - s) with h | h
      · exact Int.mul_nonneg h h
      · have := Int.mul_nonneg (show 0 ≤ -(r - s) by omega) (show 0 ≤ -(r - s) by omega)
        rwa [Int.neg_mul_neg] at this))
    rw [Int.pow_succ r (k + 1), Int.pow_succ s k]
    have e1 : ((k + 1 : Nat) : Int) = (k : Int) + 1 := rfl
    have e2 : ((k + 1 + 1 : Nat) : Int) = (k : Int) + 1 + 1 := rfl
    rw [e1] at ih ⊢
    rw [e2]
    generalize (k : Int) = c at *
    generalize s ^ k = p at *
    generalize r ^ (k + 1) = q at *
    simp only [Int.mul_add, Int.add_mul, Int.mul_sub, Int.sub_mul, Int.mul_one, Int.one_mul, Int.mul_comm, Int.mul_left_comm, Int.mul_assoc] at *
    omega

/-- A step does not go below the root. -/
theorem newt_ge {X S r : Int} {K : Nat} (hK : 1 ≤ K) (hS : 1 ≤ S) (hr : 0 ≤ r) (h : r ^ K ≤ X) : r ≤ newt X S K := by
  obtain ⟨k, rfl⟩ : ∃ k, K = k + 1 := ⟨K - 1, by omega⟩
  unfold newt
  rw [Nat.add_sub_cancel]
  have hb := bern r S hr (by omega) k
  have hp : 0 < S ^ k := Int.pow_pos (by omega)
  have h1 : ((k + 1 : Nat) : Int) * r - (k : Int) * S ≤ X / S ^ k := by
    refine (Int.le_ediv_iff_mul_le hp).2 ?_
    omega
  refine (Int.le_ediv_iff_mul_le (by omega)).2 ?_
  rw [Int.mul_comm r]
  have e : ((k + 1 : Nat) : Int) - 1 = k := by omega
  rw [e]
  omega

/-- A step from above goes down. -/
theorem newt_lt {X S : Int} {K : Nat} (hK : 1 ≤ K) (hS : 1 ≤ S) (h : X < S ^ K) : newt X S K < S := by
  obtain ⟨k, rfl⟩ : ∃ k, K = k + 1 := ⟨K - 1, by omega⟩
  unfold newt
  rw [Nat.add_sub_cancel]
  have hp : 0 < S ^ k := Int.pow_pos (by omega)
  have h1 : X / S ^ k < S := Int.ediv_lt_of_lt_mul hp (by rw [Int.mul_comm, ← Int.pow_succ]; exact h)
  refine Int.ediv_lt_of_lt_mul (by omega) ?_
  rw [Int.mul_comm S]
  have e : ((k + 1 : Nat) : Int) - 1 = k := by omega
  have e2 : ((k + 1 : Nat) : Int) = (k : Int) + 1 := rfl
  rw [e, e2, Int.add_mul]
  omega

/-- The greatest number whose power is not greater. -/
def IsRoot (X : Int) (K : Nat) (r : Int) : Prop := 0 ≤ r ∧ r ^ K ≤ X ∧ X < (r + 1) ^ K

theorem pow_mono {a b : Int} (ha : 0 ≤ a) (h : a ≤ b) : ∀ k : Nat, a ^ k ≤ b ^ k
  | 0 => by simp
  | k + 1 => by
    rw [Int.pow_succ, Int.pow_succ]
    have h1 := Int.mul_le_mul_of_nonneg_right (pow_mono ha h k) ha
    have h2 := Int.mul_le_mul_of_nonneg_left h (show 0 ≤ b ^ k from Int.pow_nonneg (by omega))
    omega

theorem pow_lt_cancel {a b : Int} {k : Nat} (hb : 0 ≤ b) (h : a ^ k < b ^ k) : a < b :=
  Int.not_le.1 fun hle => absurd (pow_mono hb hle k) (by omega)

theorem IsRoot.unique {X r r' : Int} {K : Nat} (h : IsRoot X K r) (h' : IsRoot X K r') : r = r' := by
  have h1 := pow_lt_cancel (k := K) (show 0 ≤ r' + 1 by have := h'.1; omega) (Int.lt_of_le_of_lt h.2.1 h'.2.2)
  have h2 := pow_lt_cancel (k := K) (show 0 ≤ r + 1 by have := h.1; omega) (Int.lt_of_le_of_lt h'.2.1 h.2.2)
  omega

/-- Where a step does not go down the root is found. -/
theorem newt_end {X S : Int} {K : Nat} (hK : 1 ≤ K) (hS : 1 ≤ S) (hup : X < (S + 1) ^ K) (h : S ≤ newt X S K) : IsRoot X K S :=
  ⟨by omega, Int.not_lt.1 fun hn => absurd (newt_lt hK hS hn) (by omega), hup⟩

/-- A step from above stays above. -/
theorem newt_up {X S : Int} {K : Nat} (hK : 1 ≤ K) (hS : 1 ≤ S) : X < (newt X S K + 1) ^ K ∨ newt X S K + 1 < 0 := by
  rcases Int.lt_or_le (newt X S K + 1) 0 with h | h
  · exact .inr h
  · refine .inl (Int.not_le.1 fun hn => ?_)
    have := newt_ge hK hS h hn
    omega

theorem newt_nonneg {X S : Int} {K : Nat} (hK : 1 ≤ K) (hS : 1 ≤ S) (hX : 0 ≤ X) : 0 ≤ newt X S K := by
  unfold newt
  refine Int.ediv_nonneg ?_ (by omega)
  have h1 := Int.mul_nonneg (show 0 ≤ (K : Int) - 1 by omega) (show 0 ≤ S by omega)
  have h2 := Int.ediv_nonneg hX (Int.le_of_lt (show 0 < S ^ (K - 1) from Int.pow_pos (by omega)))
  omega

/-- The first bound: by the root of the upper half. -/
theorem half_up {X X' F p : Int} {K : Nat} (hp : 0 < p) (hX' : X' = X / p ^ K) (hF : IsRoot X' K F) : X < ((F + 1) * p) ^ K := by
  have hpk : 0 < p ^ K := Int.pow_pos hp
  rw [Int.mul_pow]
  have h1 := hF.2.2
  have h2 := Int.mul_ediv_add_emod X (p ^ K)
  have h3 := Int.emod_lt_of_pos X hpk
  have h4 := Int.mul_le_mul_of_nonneg_right (show X' + 1 ≤ (F + 1) ^ K by omega) (Int.le_of_lt hpk)
  rw [Int.add_mul, Int.one_mul, hX', Int.mul_comm] at h4
  omega

/-- .. and how great it is. -/
theorem half_bd {X X' F p : Int} {K : Nat} (hp : 0 < p) (hX : 0 ≤ X) (hX' : X' = X / p ^ K) (hF : IsRoot X' K F) : ((F + 1) * p) ^ K ≤ 2 ^ K * X + p ^ K := by
  have hpk : 0 < p ^ K := Int.pow_pos hp
  have h2k : (0 : Int) < 2 ^ K := pow_two_pos K
  rw [Int.mul_pow]
  rcases (by have := hF.1; omega : F = 0 ∨ 1 ≤ F) with h | h
  · subst h
    simp only [Int.zero_add, Int.one_pow, Int.one_mul]
    have := Int.mul_nonneg (Int.le_of_lt h2k) hX
    omega
  · have h1 := pow_mono (show 0 ≤ F + 1 by omega) (show F + 1 ≤ 2 * F by omega) K
    rw [Int.mul_pow] at h1
    have h3 := Int.mul_le_mul_of_nonneg_left hF.2.1 (Int.le_of_lt h2k)
    have h4 := Int.mul_le_mul_of_nonneg_right (Int.le_trans h1 h3) (Int.le_of_lt hpk)
    have h5 := Int.mul_ediv_add_emod X (p ^ K)
    have h6 := Int.emod_nonneg X (Int.ne_of_gt hpk)
    have h7 : 2 ^ K * X' * p ^ K ≤ 2 ^ K * X := by
      rw [Int.mul_assoc]
      refine Int.mul_le_mul_of_nonneg_left ?_ (Int.le_of_lt h2k)
      rw [hX', Int.mul_comm]; omega
    omega

end Go.Proofs.Ytjpbmghdamcdcaa
