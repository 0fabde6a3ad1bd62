/- Pn, Pd, Pe, Pg, Pf. -/
import Derived.Test.YthgpcgijhmgenaaDoorBs1
import Derived.Lib.BitFns
import Derived.Lib.Walk
import Derived.Lib.Small
/- Walks: the length of a word, its leading zeros. -/
namespace Go.Proofs.YthgpcgijhmgenaaDoor
open Go Go.RowKit

/-- The table's byte at what is left of a word, and what was cut off before. -/
theorem len_tab {x : Int} (s : Nat) {y : Int} (h0 : 0 ≤ x) (hx : x < 18446744073709551616) (hy : y = x / 2 ^ s) (h1 : y < 256) (hs : s = 0 ∨ (2 : Int) ^ s ≤ x) : (s : Int) + Lib.len8 (y % 256) = (Lib.bitLen x.toNat : Int) := by
  obtain ⟨n, rfl⟩ := Int.eq_ofNat_of_zero_le h0
  have e : y = ((n / 2 ^ s : Nat) : Int) := by rw [hy, Int.natCast_ediv, Int.natCast_pow]; rfl
  have h2 : 0 ≤ y := by rw [e]; exact Int.natCast_nonneg _
  rw [show y % 256 = y by omega, Lib.len8_of y h2 (by omega), e, Int.toNat_natCast, Int.toNat_natCast]
  rcases hs with hs | hs
  · subst hs; simp
  · have h2 : 2 ^ s ≤ n := by exact_mod_cast hs
    rw [Lib.bitLen_shift s n h2 (by omega)]
    omega
theorem len_out {x : Int} (s : Nat) {y : Int} (h : y.toNat < Lib.len8tab.size) (h56 : s ≤ 56) (h0 : 0 ≤ x) (hx : x < 18446744073709551616) (hy : y = x / 2 ^ s) (hy0 : 0 ≤ y) (h1 : y < 256) (hs : s = 0 ∨ (2 : Int) ^ s ≤ x) :
    wrap64 ((s : Int) + wrap64 (((Lib.len8tab[y.toNat]'h).toNat : Nat) : Int)) = (Lib.bitLen x.toNat : Int) := by
  have e := len_tab s h0 hx hy h1 hs
  have e1 : y % 256 = y := by omega
  have e2 : Lib.len8 y = (((Lib.len8tab[y.toNat]'h).toNat : Nat) : Int) := by simp [Lib.len8, h]
  have e3 := Lib.bitLen_le8' y hy0 (by omega)
  have e4 := Lib.len8_of y hy0 (by omega)
  rw [e1, e2] at e
  rw [e2] at e4
  generalize (((Lib.len8tab[y.toNat]'h).toNat : Nat) : Int) = b at *
  simp only [wrap64]
  omega
set_option maxRecDepth 1000000 in
set_option maxHeartbeats 1000000 in
theorem len64_any (x : Int) (w : World) (h0 : 0 ≤ x) (h1 : x < 18446744073709551616) :
    Calls Tryd.prog 97 #[.int .u64 x] w fun e w' => e = .returned (.int .i64 (Lib.bitLen x.toNat)) ∧ w' = w := by
  have hsz : ((Lib.len8tab.size : Nat) : Int) = 256 := by rw [Lib.len8tab_size]; rfl
  go_enter Tryd.func97, Tryd.ntmps97
  go_wp2
  all_goals first | (go_ret; refine ⟨congrArg Ending.returned (congrArg (Value.int IntKind.i64) ?_), rfl⟩) | (exfalso; omega)
  · exact len_out 56 _ (by omega) h0 h1 (by omega) (by omega) (by omega) (.inr (by omega))
  · exact len_out 48 _ (by omega) h0 h1 (by omega) (by omega) (by omega) (.inr (by omega))
  · exact len_out 40 _ (by omega) h0 h1 (by omega) (by omega) (by omega) (.inr (by omega))
  · exact len_out 32 _ (by omega) h0 h1 (by omega) (by omega) (by omega) (.inr (by omega))
  · exact len_out 24 _ (by omega) h0 h1 (by omega) (by omega) (by omega) (.inr (by omega))
  · exact len_out 16 _ (by omega) h0 h1 (by omega) (by omega) (by omega) (.inr (by omega))
  · exact len_out 8 _ (by omega) h0 h1 (by omega) (by omega) (by omega) (.inr (by omega))
  · have e := len_out 0 (x := x) (y := x) (by omega) (by omega) h0 h1 (by omega) h0 (by omega) (.inl rfl)
    simpa using e
theorem lead64_any (x : Int) (w : World) (h0 : 0 ≤ x) (h1 : x < 18446744073709551616) :
    Calls Tryd.prog 92 #[.int .u64 x] w fun e w' => e = .returned (.int .i64 (64 - Lib.bitLen x.toNat)) ∧ w' = w := by
  have hb : Lib.bitLen x.toNat ≤ 64 := Lib.bitLen_le x.toNat 64 (by omega) (by omega)
  have hw : IntKind.i64.wrap (64 - (Lib.bitLen x.toNat : Int)) = 64 - (Lib.bitLen x.toNat : Int) := IntWalk.i64_in _ (by omega)
  have hw2 : wrap64 (64 - (Lib.bitLen x.toNat : Int)) = 64 - (Lib.bitLen x.toNat : Int) := by simp only [wrap64]; omega
  go_enter Tryd.func92, Tryd.ntmps92
  go_wp2_with (go_at_call 97; refine (len64_any x w h0 h1).mono ?_; rintro e w' ⟨rfl, rfl⟩)
  go_ret
  exact ⟨by first | rfl | rw [hw2], rfl⟩
end Go.Proofs.YthgpcgijhmgenaaDoor

/- Division of two digits by a number of two digits, digit for digit: nothing of the program is used. -/
namespace Go.Proofs.YthgpcgijhmgenaaDoor
open Go Go.RowKit

section
variable {U Y y1 y0 B u q r : Nat}
/-- The digit of a quotient lies below the base. -/
theorem kd_lt (hU : U < Y) (hu : u < B) : (U * B + u) / Y < B := by
  rw [Nat.div_lt_iff_lt_mul (by omega)]
  have h := Nat.mul_le_mul_right B (show U + 1 ≤ Y by omega)
  rw [Nat.add_mul, Nat.one_mul, Nat.mul_comm Y B] at h
  omega
theorem kd_split (hY : Y = y1 * B + y0) (hq : q * y1 + r = U) : U * B + u = q * y1 * B + (B * r + u) ∧ q * Y = q * y1 * B + q * y0 := by
  constructor
  · rw [← hq, Nat.add_mul, Nat.mul_comm r B, Nat.add_assoc]
  · rw [hY, Nat.mul_add, Nat.mul_assoc]
/-- The estimate is not too small. -/
theorem kd_start (hY : Y = y1 * B + y0) (h1 : 0 < y1) (hu : u < B) : (U * B + u) / Y ≤ U / y1 := by
  have hB : 0 < B := by omega
  have hYB : y1 * B ≤ Y := by omega
  have h2 : (U * B + u) / Y ≤ (U * B + u) / (y1 * B) := Nat.div_le_div_left hYB (Nat.mul_pos h1 hB)
  have h3 : (U * B + u) / (B * y1) = U / y1 := by rw [← Nat.div_div_eq_div_mul, Nat.mul_comm U B, Nat.mul_add_div hB, Nat.div_eq_of_lt hu, Nat.add_zero]
  rw [Nat.mul_comm y1 B, h3] at h2
  exact h2
/-- .. and too great by two at most. -/
theorem kd_top (hY : Y = y1 * B + y0) (h0 : y0 < B) (h1 : B ≤ 2 * y1) (hU : U < Y) : U / y1 ≤ B + 1 := by
  have hp : 0 < y1 := by omega
  refine Nat.le_of_lt_succ ((Nat.div_lt_iff_lt_mul hp).2 ?_)
  rw [show (B + 1 + 1) * y1 = y1 * B + 2 * y1 by rw [Nat.add_mul, Nat.add_mul, Nat.mul_comm B y1]; omega]
  omega
theorem kd_true (hY : Y = y1 * B + y0) (hq : q * y1 + r = U) (hU : U < Y) (hu : u < B) (h : B ≤ q ∨ B * r + u < q * y0) : (U * B + u) / Y ≤ q - 1 ∧ 0 < q := by
  have h3 : (U * B + u) / Y < q := by
    rcases h with h | h
    · exact Nat.lt_of_lt_of_le (kd_lt hU hu) h
    · obtain ⟨e1, e2⟩ := kd_split (u := u) hY hq
      rw [Nat.div_lt_iff_lt_mul (by omega)]
      omega
  generalize (U * B + u) / Y = t at *
  omega
theorem kd_false (hY : Y = y1 * B + y0) (hq : q * y1 + r = U) (hU : U < Y) (hl : (U * B + u) / Y ≤ q) (h : q * y0 ≤ B * r + u) : q = (U * B + u) / Y := by
  obtain ⟨e1, e2⟩ := kd_split (u := u) hY hq
  have h3 : q ≤ (U * B + u) / Y := (Nat.le_div_iff_mul_le (by omega)).2 (by omega)
  omega
theorem kd_big (hY : Y = y1 * B + y0) (hq : q * y1 + r = U) (hU : U < Y) (h0 : y0 < B) (hl : (U * B + u) / Y ≤ q) (hr : B ≤ r) (hqB : q ≤ B) : q = (U * B + u) / Y := by
  refine kd_false hY hq hU hl ?_
  have h1 := Nat.mul_le_mul hqB (Nat.le_of_lt h0)
  have h2 := Nat.mul_le_mul_left B hr
  omega
/-- Two digits make the quotient, and the remainder. -/
theorem kd_two {v : Nat} (hY : 0 < Y) : (U * B + u) / Y * B + ((U * B + u) % Y * B + v) / Y = ((U * B + u) * B + v) / Y ∧ ((U * B + u) % Y * B + v) % Y = ((U * B + u) * B + v) % Y := by
  generalize U * B + u = W
  have h := Nat.div_add_mod W Y
  have e : W * B + v = Y * (W / Y * B) + (W % Y * B + v) := by
    conv => lhs; rw [← h]
    rw [Nat.add_mul, Nat.mul_assoc, Nat.add_assoc]
  rw [e, Nat.mul_add_div hY, Nat.mul_add_mod]
  exact ⟨rfl, rfl⟩
/-- Shifting both leaves the quotient, and shifts the remainder. -/
theorem kd_shift {a y s : Nat} (_hy : 0 < y) : a * 2 ^ s / (y * 2 ^ s) = a / y ∧ a * 2 ^ s % (y * 2 ^ s) / 2 ^ s = a % y := by
  have hp := Nat.two_pow_pos s
  constructor
  · exact Nat.mul_div_mul_right a y hp
  · rw [Nat.mul_mod_mul_right, Nat.mul_div_cancel _ hp]
end
end Go.Proofs.YthgpcgijhmgenaaDoor

/- What math/bits.Div64 divides: both numbers shifted. -/
namespace Go.Proofs.YthgpcgijhmgenaaDoor
open Go Go.RowKit

theorem bitLen_top {y : Nat} (h0 : 0 < y) (h : y < 18446744073709551616) : y < 2 ^ Lib.bitLen y ∧ 2 ^ (Lib.bitLen y - 1) ≤ y ∧ 0 < Lib.bitLen y ∧ Lib.bitLen y ≤ 64 := by
  have h64 : y < 2 ^ 64 := h
  have hle : Lib.bitLen y ≤ 64 := Lib.bitLen_le y 64 (by omega) h64
  have hpos : 0 < Lib.bitLen y := by rw [Lib.bitLen_half y (by omega) h64]; omega
  refine ⟨?_, ?_, hpos, hle⟩
  · rcases Nat.lt_or_ge y (2 ^ Lib.bitLen y) with h1 | h1
    · exact h1
    · exfalso
      have h2 := Lib.bitLen_shift (Lib.bitLen y) y h1 h64
      have h3 : 0 < y / 2 ^ Lib.bitLen y := Nat.div_pos h1 (Nat.two_pow_pos _)
      have h4 : y / 2 ^ Lib.bitLen y < 2 ^ 64 := Nat.lt_of_le_of_lt (Nat.div_le_self _ _) h64
      have h5 := Lib.bitLen_half _ (by omega) h4
      omega
  · rcases Nat.lt_or_ge y (2 ^ (Lib.bitLen y - 1)) with h1 | h1
    · have := Lib.bitLen_le y (Lib.bitLen y - 1) (by omega) h1
      omega
    · exact h1
/-- The divisor, shifted: its highest digit is 1. -/
theorem dv_norm {y : Nat} (h0 : 0 < y) (h : y < 18446744073709551616) : 9223372036854775808 ≤ y * 2 ^ (64 - Lib.bitLen y) ∧ y * 2 ^ (64 - Lib.bitLen y) < 18446744073709551616 ∧ 64 - Lib.bitLen y < 64 := by
  obtain ⟨h1, h2, h3, h4⟩ := bitLen_top h0 h
  have e1 : 2 ^ Lib.bitLen y * 2 ^ (64 - Lib.bitLen y) = 18446744073709551616 := by rw [← Nat.pow_add, show Lib.bitLen y + (64 - Lib.bitLen y) = 64 by omega]
  have e2 : 2 ^ (Lib.bitLen y - 1) * 2 ^ (64 - Lib.bitLen y) = 9223372036854775808 := by rw [← Nat.pow_add, show Lib.bitLen y - 1 + (64 - Lib.bitLen y) = 63 by omega]
  have hp := Nat.two_pow_pos (64 - Lib.bitLen y)
  refine ⟨?_, ?_, by omega⟩
  · rw [← e2]; exact Nat.mul_le_mul_right _ h2
  · rw [← e1]; exact (Nat.mul_lt_mul_right hp).2 h1
/-- The number, shifted: its two words. -/
theorem dv_split {a b s : Nat} (hs : s < 64) : (a * 18446744073709551616 + b) * 2 ^ s = (a * 2 ^ s + b / 2 ^ (64 - s)) * 18446744073709551616 + b * 2 ^ s % 18446744073709551616 := by
  have e : 18446744073709551616 = 2 ^ (64 - s) * 2 ^ s := by rw [← Nat.pow_add, show 64 - s + s = 64 by omega]
  have e1 : b * 2 ^ s % 18446744073709551616 = b % 2 ^ (64 - s) * 2 ^ s := by
    conv => lhs; rw [e]
    exact Nat.mul_mod_mul_right _ _ _
  have e2 : b / 2 ^ (64 - s) * 18446744073709551616 + b % 2 ^ (64 - s) * 2 ^ s = b * 2 ^ s := by
    conv => lhs; rw [e]
    rw [← Nat.mul_assoc, ← Nat.add_mul, Nat.mul_comm (b / 2 ^ (64 - s)), Nat.div_add_mod]
  rw [e1, Nat.add_mul, Nat.add_mul, Nat.add_assoc, e2, Nat.mul_right_comm]
theorem dv_lt {a b y s : Nat} (h : a < y) (hb : b < 18446744073709551616) (hs : s < 64) : a * 2 ^ s + b / 2 ^ (64 - s) < y * 2 ^ s ∧ b / 2 ^ (64 - s) < 2 ^ s := by
  have e : 18446744073709551616 = 2 ^ s * 2 ^ (64 - s) := by rw [← Nat.pow_add, show s + (64 - s) = 64 by omega]
  have h1 : b / 2 ^ (64 - s) < 2 ^ s := (Nat.div_lt_iff_lt_mul (Nat.two_pow_pos _)).2 (by rw [← e]; exact hb)
  have h2 := Nat.mul_le_mul_right (2 ^ s) (show a + 1 ≤ y by omega)
  rw [Nat.add_mul, Nat.one_mul] at h2
  exact ⟨by omega, h1⟩
end Go.Proofs.YthgpcgijhmgenaaDoor

/- Walk: math/bits.Div64. -/
namespace Go.Proofs.YthgpcgijhmgenaaDoor
open Go Go.RowKit

theorem fr_nil {w W : World} (h : Below w.heap.size w W) : Fr w [] W := ⟨h, fun _ h => by simp at h, by simp⟩
theorem dv_words {X U V u1 u0 : Nat} (h : X = U * 18446744073709551616 + V) (h2 : u1 = V / 4294967296) (h3 : u0 = V % 4294967296) : X = (U * 4294967296 + u1) * 4294967296 + u0 := by
  have e : V = u1 * 4294967296 + u0 := by omega
  rw [Nat.add_mul, Nat.mul_assoc, show 4294967296 * 4294967296 = 18446744073709551616 from rfl, h, e, Nat.add_assoc]
theorem u64N {n : Nat} (h : n < 18446744073709551616) : IntKind.u64.wrap (n : Int) = (n : Int) := by rw [u64_wrap]; omega
theorem u64M (n : Nat) : IntKind.u64.wrap (n : Int) = ((n % 18446744073709551616 : Nat) : Int) := by rw [u64_wrap]; omega
theorem shlN (y t : Nat) : (y : Int) * 2 ^ t = ((y * 2 ^ t : Nat) : Int) := by rw [Int.natCast_mul, Int.natCast_pow]; rfl
theorem shrN (y t : Nat) : (y : Int) / 2 ^ t = ((y / 2 ^ t : Nat) : Int) := by rw [Int.natCast_ediv, Int.natCast_pow]; rfl
theorem orN {x y t : Nat} (hx : x * 2 ^ t + y < 18446744073709551616) (hy : y < 2 ^ t) : bits .or .u64 ((x * 2 ^ t : Nat) : Int) (y : Int) = ((x * 2 ^ t + y : Nat) : Int) := by
  have h := (or_u64 t ((x * 2 ^ t : Nat) : Int) (y : Int) (by omega) (by omega) (by omega) (by omega) (by exact_mod_cast hy) (by rw [Int.natCast_mul, Int.natCast_pow]; exact Int.mul_emod_left _ _)).1
  rw [h, Int.natCast_add]
set_option maxRecDepth 100000 in
set_option maxHeartbeats 4000000 in
theorem div64_core (a b y A QA RA : Nat) (hA : A = a * 18446744073709551616 + b) (hQA : A / y = QA) (hRA : A % y = RA) (w : World) (h0 : 0 < a) (h1 : a < y) (h2 : y < 18446744073709551616) (h4 : b < 18446744073709551616) :
    Calls Tryd.prog 89 #[.int .u64 a, .int .u64 b, .int .u64 y] w fun e w' => e = .returned (.tuple #[.int .u64 (QA : Int), .int .u64 (RA : Int)]) ∧ Below w.heap.size w w' := by
  obtain ⟨t, ht⟩ : ∃ t, t = 64 - Lib.bitLen y := ⟨_, rfl⟩
  obtain ⟨n1, n2, n3⟩ := dv_norm (y := y) (by omega) h2
  have n4 := (bitLen_top (y := y) (by omega) h2).2.2.2
  rw [← ht] at n1 n2 n3
  have l1 := dv_lt (s := t) h1 h4 n3
  have l2 := dv_split (a := a) (b := b) n3
  rw [← hA] at l2
  have l3 := kd_shift (a := A) (y := y) (s := t) (by omega)
  obtain ⟨s, hs⟩ : ∃ s : Int, s = (t : Int) := ⟨_, rfl⟩
  have HL := lead64_any (y : Int) w (by omega) (by omega)
  rw [Int.toNat_natCast, show (64 : Int) - (Lib.bitLen y : Int) = s by omega] at HL
  have e1 : s.toNat = t := by omega
  have e2 : (64 - s).toNat = 64 - t := by omega
  obtain ⟨Y, hY⟩ : ∃ Y, Y = y * 2 ^ t := ⟨_, rfl⟩
  obtain ⟨U, hU⟩ : ∃ U, U = a * 2 ^ t + b / 2 ^ (64 - t) := ⟨_, rfl⟩
  obtain ⟨V, hV⟩ : ∃ V, V = b * 2 ^ t % 18446744073709551616 := ⟨_, rfl⟩
  rw [← hY] at n1 n2 l1 l3
  rw [← hU] at l1 l2
  rw [← hV] at l2
  have k1 : IntKind.u64.wrap ((y : Int) * 2 ^ s.toNat) = (Y : Int) := by rw [e1, shlN, u64N (by omega), hY]
  have k4 : bits .or .u64 (IntKind.u64.wrap ((a : Int) * 2 ^ s.toNat)) ((b : Int) / 2 ^ (64 - s).toNat) = (U : Int) := by
    have hle : a * 2 ^ t ≤ U := by rw [hU]; exact Nat.le_add_right _ _
    have hlt : a * 2 ^ t < 18446744073709551616 := by omega
    rw [e1, e2, shlN, shrN, u64N hlt, orN (by rw [← hU]; omega) l1.2, hU]
  have k5 : IntKind.u64.wrap ((b : Int) * 2 ^ s.toNat) = (V : Int) := by rw [e1, shlN, u64M, hV]
  have hVb : V < 18446744073709551616 := by rw [hV]; exact Nat.mod_lt _ (by decide)
  obtain ⟨y1, hy1⟩ : ∃ y1, y1 = Y / 4294967296 := ⟨_, rfl⟩
  obtain ⟨y0, hy0⟩ : ∃ y0, y0 = Y % 4294967296 := ⟨_, rfl⟩
  obtain ⟨u1, hu1⟩ : ∃ u1, u1 = V / 4294967296 := ⟨_, rfl⟩
  obtain ⟨u0, hu0⟩ : ∃ u0, u0 = V % 4294967296 := ⟨_, rfl⟩
  have k2 : (Y : Int) / 4294967296 = (y1 : Int) := by omega
  have k3 : bits .and .u64 (Y : Int) 4294967295 = (y0 : Int) := by rw [Mul64.maskN Y n2, hy0]
  have k6 : (V : Int) / 4294967296 = (u1 : Int) := by omega
  have k7 : bits .and .u64 (V : Int) 4294967295 = (u0 : Int) := by rw [Mul64.maskN V hVb, hu0]
  have k8 : ¬ (y1 : Int) = 0 := by omega
  have t1 : ((y : Int) == 0) = false := by simp; omega
  have t2 : decide (y ≤ a) = false := by simp; omega
  have t3 : ((a : Int) == 0) = false := by simp; omega
  have hsb : 0 ≤ s ∧ s < 64 := by omega
  have HT := hidd (show t < 64 ∧ s.toNat = t ∧ s = (t : Int) from ⟨n3, e1, hs⟩)
  have l4 : A * 2 ^ t = (U * 4294967296 + u1) * 4294967296 + u0 := dv_words l2 hu1 hu0
  rw [l4] at l3
  have HL3 : Hid (((U * 4294967296 + u1) * 4294967296 + u0) / Y = QA ∧ ((U * 4294967296 + u1) * 4294967296 + u0) % Y / 2 ^ t = RA) := ⟨l3.1.trans hQA, l3.2.trans hRA⟩
  have HU1 : Hid (U < Y) := l1.1
  have HYY := hidd (show Y = y1 * 4294967296 + y0 by omega)
  have HB := hidd (show y0 < 4294967296 ∧ 2147483648 ≤ y1 ∧ y1 < 4294967296 ∧ u1 < 4294967296 ∧ u0 < 4294967296 ∧ U < Y ∧ Y < 18446744073709551616 ∧ V = u1 * 4294967296 + u0 by omega)
  have HPOS := hidd (show 0 < y1 ∧ 0 < Y by omega)
  clear n1 n2 n3 n4 l1 l2 l3 l4 hA hQA hRA e1 e2 hs ht hU hV hVb hY hy1 hy0 hu1 hu0 h0 h1 h2 h4
  go_enter Tryd.func89, Tryd.ntmps89
  go_wp2_with (go_at_call 92; refine HL.mono ?_; rintro e w' ⟨rfl, hw⟩; rw [hw]; clear hw w')
  obtain ⟨Q1, hQ1⟩ : ∃ qa, qa = U / y1 := ⟨_, rfl⟩
  obtain ⟨R1, hR1⟩ : ∃ ra, ra = U % y1 := ⟨_, rfl⟩
  have HQ1 : Hid (Q1 * y1 + R1 = U) := by show _ = _; rw [hQ1, hR1, Nat.mul_comm]; exact Nat.div_add_mod _ _
  have HR1 : Hid (R1 < y1) := by show _ < _; rw [hR1]; exact Nat.mod_lt _ HPOS.out.1
  have GQ1 : Hid ((U * 4294967296 + u1) / Y ≤ Q1) := by show _ ≤ _; rw [hQ1]; exact kd_start HYY.out HPOS.out.1 (by have := HB.out; omega)
  have TQ1 : Hid (Q1 ≤ 4294967297) := by show _ ≤ _; rw [hQ1]; exact kd_top HYY.out HB.out.1 (by have := HB.out; omega) HU1.out
  have DQ1 : Hid ((U : Int) / y1 = (Q1 : Int)) := by show _ = _; rw [hQ1]; exact (Int.natCast_ediv _ _).symm
  clear hQ1 hR1
  go_loopw [15, 16] (fun vq vr W => ∃ qa ra : Nat, vq = .int .u64 qa ∧ vr = .int .u64 ra ∧ qa * y1 + ra = U ∧ (U * 4294967296 + u1) / Y ≤ qa ∧ qa ≤ 4294967297 ∧ ra < 4294967296 ∧ Below w.heap.size w W) (fun vq _ _ => (intOf vq).toNat)
  case atStart =>
    have x1 := HQ1.out
    have x2 := HR1.out
    have x3 := HB.out
    have x4 := TQ1.out
    have x6 := HU1.out
    obtain ⟨P, hP⟩ : ∃ P, P = Q1 * y1 := ⟨_, rfl⟩
    have hP2 : (Q1 : Int) * y1 = (P : Int) := by rw [hP]; exact (Int.natCast_mul _ _).symm
    rw [← hP] at x1
    have e1 : IntKind.u64.wrap (Q1 : Int) = Q1 := u64N (by omega)
    have e2 : IntKind.u64.wrap (P : Int) = P := u64N (by omega)
    have e3 : IntKind.u64.wrap ((U : Int) - P) = (R1 : Int) := by rw [show (U : Int) - P = (R1 : Int) by omega]; exact u64N (by omega)
    rw [DQ1.out, e1, hP2, e2, e3]
    exact ⟨Q1, R1, rfl, rfl, HQ1.out, GQ1.out, TQ1.out, by omega, Below.refl _ _⟩
  case round =>
    obtain ⟨qa, ra, rfl, rfl, hq, hl, hq2, hr, hbw⟩ := hrel
    have E := fr_nil hbw
    have X := hidd (And.intro hq (And.intro hl (And.intro hq2 hr)))
    clear hq hl hq2 hr hbw HQ1 HR1 GQ1 TQ1 DQ1
    by_cases hb : 4294967296 ≤ qa
    · have TT : Hid (4294967296 ≤ qa ∨ 4294967296 * ra + u1 < qa * y0) := .inl hb
      have b1 := hidd (show (4294967296 : Int) ≤ (qa : Int) by omega)
      clear hb
      go_upto_region 17 with (fail)
      refine region_fr (C := [Fq.is (.int .u64 (qa : Int)), Fq.is (.bool true), Fq.is (.bool true), Fq.is (undef), Fq.is (undef), Fq.is (undef), Fq.is (undef), Fq.is (undef), Fq.is (undef), Fq.is (undef), Fq.is (undef), Fq.is (.bool true)]) (ks := []) (new := []) E rfl (by kernel_rfl) rfl rfl (fun hp => ⟨?_, ?_, ?_, ?_, ?_, ?_, ?_, ?_, ?_, ?_, ?_, ?_, trivial⟩) ?_
      · exact q_move hp (free_of rfl) trivial (sq_out (s := 15) rfl rfl (fun _ _ => rfl))
      · exact q_one (F := fun v _ => v = .int .u64 (qa : Int)) hp (free_of rfl) trivial (sq_in 0 rfl rfl (by simp) rfl (fun v w h => h)) (fun ρ w hc h => ⟨.bool true, by simp [execOp, go_sem, h, hc, b1.out], rfl⟩)
      · exact q_move hp (free_of rfl) trivial (sq_in 1 rfl rfl (by simp) rfl (fun v w h => h))
      · exact q_skip hp (free_of rfl) rfl (gq_some rfl rfl (by simp) rfl (fun v w h => h)) (fun _ => rfl)
      · exact q_skip hp (free_of rfl) rfl (gq_some rfl rfl (by simp) rfl (fun v w h => h)) (fun _ => rfl)
      · exact q_skip hp (free_of rfl) rfl (gq_some rfl rfl (by simp) rfl (fun v w h => h)) (fun _ => rfl)
      · exact q_skip hp (free_of rfl) rfl (gq_some rfl rfl (by simp) rfl (fun v w h => h)) (fun _ => rfl)
      · exact q_skip hp (free_of rfl) rfl (gq_some rfl rfl (by simp) rfl (fun v w h => h)) (fun _ => rfl)
      · exact q_skip hp (free_of rfl) rfl (gq_some rfl rfl (by simp) rfl (fun v w h => h)) (fun _ => rfl)
      · exact q_skip hp (free_of rfl) rfl (gq_some rfl rfl (by simp) rfl (fun v w h => h)) (fun _ => rfl)
      · exact q_skip hp (free_of rfl) rfl (gq_some rfl rfl (by simp) rfl (fun v w h => h)) (fun _ => rfl)
      · exact q_two (F := fun v _ => v = .bool true) (G := fun v _ => v = .bool true) hp (free_of rfl) trivial (sq_in 2 rfl rfl (by simp) rfl (fun v w h => h)) (sq_const (fun _ => rfl)) (fun ρ w hc h h' => ⟨_, by simp [execOp, go_sem, h, h'], rfl⟩)
      intro L vs w1 nb hL hC hn E1
      have e0 : vs 0 = .int .u64 (qa : Int) := hC 0 (by simp)
      have e1 : vs 1 = .bool true := hC 1 (by simp)
      have e2 : vs 2 = .bool true := hC 2 (by simp)
      have e3 : vs 3 = undef := hC 3 (by simp)
      have e4 : vs 4 = undef := hC 4 (by simp)
      have e5 : vs 5 = undef := hC 5 (by simp)
      have e6 : vs 6 = undef := hC 6 (by simp)
      have e7 : vs 7 = undef := hC 7 (by simp)
      have e8 : vs 8 = undef := hC 8 (by simp)
      have e9 : vs 9 = undef := hC 9 (by simp)
      have e10 : vs 10 = undef := hC 10 (by simp)
      have e11 : vs 11 = .bool true := hC 11 (by simp)
      have E : Fr w [] w1 := E1
      rw [lay_all hL]
      simp only [putAll, dstOf, List.length_cons, List.length_nil, Nat.zero_add, Nat.reduceAdd, List.getElem?_toArray, List.getElem?_cons_zero, List.getElem?_cons_succ, Option.bind_some, Act.put, List.setIfInBounds_toArray, List.set_cons_succ, List.set_cons_zero]
      rw [e0, e1, e2, e3, e4, e5, e6, e7, e8, e9, e10, e11]
      clear e0 e1 e2 e3 e4 e5 e6 e7 e8 e9 e10 e11 hC hn E1 hL vs L nb
      clear b1
      have KT := kd_true HYY.out X.out.1 HU1.out (by have := HB.out; omega) TT.out
      obtain ⟨za, hz⟩ : ∃ za, za = qa - 1 := ⟨_, rfl⟩
      obtain ⟨v9a, hv⟩ : ∃ v9a, v9a = ra + y1 := ⟨_, rfl⟩
      have c1 := hidd (show IntKind.u64.wrap ((qa : Int) - 1) = (za : Int) by rw [show (qa : Int) - 1 = (za : Int) by omega]; exact u64N (by have := X.out; omega))
      have c2 := hidd (show IntKind.u64.wrap ((ra : Int) + y1) = (v9a : Int) by rw [show (ra : Int) + y1 = (v9a : Int) by omega]; exact u64N (by have := X.out; have := HB.out; omega))
      have ZE : Hid (za * y1 + v9a = U ∧ (U * 4294967296 + u1) / Y ≤ za ∧ za ≤ 4294967296 ∧ za < qa) := by
        have x1 := X.out
        have e : qa * y1 = za * y1 + y1 := by rw [show qa = za + 1 by omega, Nat.add_mul, Nat.one_mul]
        refine ⟨by omega, by rw [hz]; exact KT.1, by omega, by omega⟩
      clear hz hv KT TT X
      go_upto_region 18 with (fail)
      refine region_fr (C := [Fq.is (.int .u64 (qa : Int)), Fq.is (.int .u64 (za : Int)), Fq.is (.int .u64 (za : Int))]) (ks := []) (new := []) E rfl (by kernel_rfl) rfl rfl (fun hp => ⟨?_, ?_, ?_, trivial⟩) ?_
      · exact q_moveB 2 3 hp (free_of rfl) trivial rfl rfl rfl rfl (fun _ => rfl)
      · exact q_one (F := fun v _ => v = .int .u64 (qa : Int)) hp (free_of rfl) trivial (sq_in 0 rfl rfl (by simp) rfl (fun v w h => h)) (fun ρ w hc h => ⟨.int .u64 (za : Int), by simp [execOp, go_sem, h, hc, c1.out], rfl⟩)
      · exact q_assign hp (free_of rfl) trivial (sq_in 1 rfl rfl (by simp) rfl (fun v w h => h))
      intro L vs w2 nb hL hC hn E2
      have e0 : vs 0 = .int .u64 (qa : Int) := hC 0 (by simp)
      have e1 : vs 1 = .int .u64 (za : Int) := hC 1 (by simp)
      have e2 : vs 2 = .int .u64 (za : Int) := hC 2 (by simp)
      have E : Fr w [] w2 := E2
      rw [lay_all hL]
      simp only [putAll, dstOf, List.length_cons, List.length_nil, Nat.zero_add, Nat.reduceAdd, List.getElem?_toArray, List.getElem?_cons_zero, List.getElem?_cons_succ, Option.bind_some, Act.put, List.setIfInBounds_toArray, List.set_cons_succ, List.set_cons_zero]
      rw [e0, e1, e2]
      clear e0 e1 e2 hC hn E2 hL vs L nb
      go_upto_region 19 with (fail)
      refine region_fr (C := [Fq.is (.int .u64 (ra : Int)), Fq.is (.int .u64 (y1 : Int)), Fq.is (.int .u64 (v9a : Int)), Fq.is (.int .u64 (v9a : Int))]) (ks := []) (new := []) E rfl (by kernel_rfl) rfl rfl (fun hp => ⟨?_, ?_, ?_, ?_, trivial⟩) ?_
      · exact q_moveB 3 3 hp (free_of rfl) trivial rfl rfl rfl rfl (fun _ => rfl)
      · exact q_move hp (free_of rfl) trivial (sq_out (s := 9) rfl rfl (fun _ _ => rfl))
      · exact q_two (F := fun v _ => v = .int .u64 (ra : Int)) (G := fun v _ => v = .int .u64 (y1 : Int)) hp (free_of rfl) trivial (sq_in 0 rfl rfl (by simp) rfl (fun v w h => h)) (sq_in 1 rfl rfl (by simp) rfl (fun v w h => h)) (fun ρ w hc h h' => ⟨.int .u64 (v9a : Int), by simp [execOp, go_sem, h, h', c2.out], rfl⟩)
      · exact q_assign hp (free_of rfl) trivial (sq_in 2 rfl rfl (by simp) rfl (fun v w h => h))
      intro L vs w3 nb hL hC hn E3
      have e0 : vs 0 = .int .u64 (ra : Int) := hC 0 (by simp)
      have e1 : vs 1 = .int .u64 (y1 : Int) := hC 1 (by simp)
      have e2 : vs 2 = .int .u64 (v9a : Int) := hC 2 (by simp)
      have e3 : vs 3 = .int .u64 (v9a : Int) := hC 3 (by simp)
      have E : Fr w [] w3 := E3
      rw [lay_all hL]
      simp only [putAll, dstOf, List.length_cons, List.length_nil, Nat.zero_add, Nat.reduceAdd, List.getElem?_toArray, List.getElem?_cons_zero, List.getElem?_cons_succ, Option.bind_some, Act.put, List.setIfInBounds_toArray, List.set_cons_succ, List.set_cons_zero]
      rw [e0, e1, e2, e3]
      clear e0 e1 e2 e3 hC hn E3 hL vs L nb
      clear c1 c2
      by_cases hv : 4294967296 ≤ v9a
      · have b1 := hidd (show (4294967296 : Int) ≤ (v9a : Int) by omega)
        have DONE : Hid (za = (U * 4294967296 + u1) / Y) := kd_big HYY.out ZE.out.1 HU1.out HB.out.1 ZE.out.2.1 hv ZE.out.2.2.1
        clear ZE hv
        go_upto_region 20 with (fail)
        refine region_fr (C := [Fq.is (.int .u64 (v9a : Int)), Fq.is (.bool true)]) (ks := []) (new := []) E rfl (by kernel_rfl) rfl rfl (fun hp => ⟨?_, ?_, trivial⟩) ?_
        · exact q_move hp (free_of rfl) trivial (sq_out (s := 16) rfl rfl (fun _ _ => rfl))
        · exact q_one (F := fun v _ => v = .int .u64 (v9a : Int)) hp (free_of rfl) trivial (sq_in 0 rfl rfl (by simp) rfl (fun v w h => h)) (fun ρ w hc h => ⟨.bool true, by simp [execOp, go_sem, h, hc, b1.out], rfl⟩)
        intro L vs w4 nb hL hC hn E4
        have e0 : vs 0 = .int .u64 (v9a : Int) := hC 0 (by simp)
        have e1 : vs 1 = .bool true := hC 1 (by simp)
        have E : Fr w [] w4 := E4
        rw [lay_all hL]
        simp only [putAll, dstOf, List.length_cons, List.length_nil, Nat.zero_add, Nat.reduceAdd, List.getElem?_toArray, List.getElem?_cons_zero, List.getElem?_cons_succ, Option.bind_some, Act.put, List.setIfInBounds_toArray, List.set_cons_succ, List.set_cons_zero]
        rw [e0, e1]
        clear e0 e1 hC hn E4 hL vs L nb
        clear b1
        have DONE1 := DONE
        clear DONE
        obtain ⟨F, hF⟩ : ∃ F, F = (U * 4294967296 + u1) % Y := ⟨_, rfl⟩
        have HF := hidd hF
        have HU2 : Hid (F < Y) := by show _ < _; rw [hF]; exact Nat.mod_lt _ HPOS.out.2
        obtain ⟨X1, hX1⟩ : ∃ X1 : Int, IntKind.u64.wrap ((U : Int) * 4294967296) = X1 := ⟨_, rfl⟩
        obtain ⟨X2, hX2⟩ : ∃ X2 : Int, IntKind.u64.wrap (X1 + u1) = X2 := ⟨_, rfl⟩
        obtain ⟨X3, hX3⟩ : ∃ X3 : Int, IntKind.u64.wrap ((za : Int) * Y) = X3 := ⟨_, rfl⟩
        obtain ⟨G, hG⟩ : ∃ G, G = za * Y := ⟨_, rfl⟩
        have g1 : (za : Int) * Y = (G : Int) := by rw [hG]; exact (Int.natCast_mul _ _).symm
        have g2 : IntKind.u64.wrap (X2 - X3) = (F : Int) := by
          have x1 := Nat.div_add_mod (U * 4294967296 + u1) Y
          rw [← DONE1.out, ← hF, Nat.mul_comm, ← hG] at x1
          have x2 := HU2.out
          have x3 := HB.out
          rw [g1] at hX3
          rw [← hX2, ← hX1, ← hX3]
          simp only [u64_wrap]
          omega
        have W1 := hidd hX1
        have W2 := hidd hX2
        have W3 := hidd hX3
        have W4 := hidd g2
        clear hF hG g1 hX1 hX2 hX3 g2
        go_upto_region 21 with (fail)
        refine region_fr (C := [Fq.is (.int .u64 (U : Int)), Fq.is (.int .u64 X1), Fq.is (.int .u64 (u1 : Int)), Fq.is (.int .u64 X2), Fq.is (.int .u64 (za : Int)), Fq.is (.int .u64 (Y : Int)), Fq.is (.int .u64 X3), Fq.is (.int .u64 (F : Int)), Fq.is (.int .u64 (F : Int))]) (ks := []) (new := []) E rfl (by kernel_rfl) rfl rfl (fun hp => ⟨?_, ?_, ?_, ?_, ?_, ?_, ?_, ?_, ?_, trivial⟩) ?_
        · exact q_move hp (free_of rfl) trivial (sq_out (s := 11) rfl rfl (fun _ _ => rfl))
        · exact q_one (F := fun v _ => v = .int .u64 (U : Int)) hp (free_of rfl) trivial (sq_in 0 rfl rfl (by simp) rfl (fun v w h => h)) (fun ρ w hc h => ⟨.int .u64 X1, by simp [execOp, go_sem, h, hc, W1.out], rfl⟩)
        · exact q_move hp (free_of rfl) trivial (sq_out (s := 13) rfl rfl (fun _ _ => rfl))
        · exact q_two (F := fun v _ => v = .int .u64 X1) (G := fun v _ => v = .int .u64 (u1 : Int)) hp (free_of rfl) trivial (sq_in 1 rfl rfl (by simp) rfl (fun v w h => h)) (sq_in 2 rfl rfl (by simp) rfl (fun v w h => h)) (fun ρ w hc h h' => ⟨.int .u64 X2, by simp [execOp, go_sem, h, h', W2.out], rfl⟩)
        · exact q_move hp (free_of rfl) trivial (sq_out (s := 15) rfl rfl (fun _ _ => rfl))
        · exact q_move hp (free_of rfl) trivial (sq_out (s := 2) rfl rfl (fun _ _ => rfl))
        · exact q_two (F := fun v _ => v = .int .u64 (za : Int)) (G := fun v _ => v = .int .u64 (Y : Int)) hp (free_of rfl) trivial (sq_in 4 rfl rfl (by simp) rfl (fun v w h => h)) (sq_in 5 rfl rfl (by simp) rfl (fun v w h => h)) (fun ρ w hc h h' => ⟨.int .u64 X3, by simp [execOp, go_sem, h, h', W3.out], rfl⟩)
        · exact q_two (F := fun v _ => v = .int .u64 X2) (G := fun v _ => v = .int .u64 X3) hp (free_of rfl) trivial (sq_in 3 rfl rfl (by simp) rfl (fun v w h => h)) (sq_in 6 rfl rfl (by simp) rfl (fun v w h => h)) (fun ρ w hc h h' => ⟨.int .u64 (F : Int), by simp [execOp, go_sem, h, h', W4.out], rfl⟩)
        · exact q_assign hp (free_of rfl) trivial (sq_in 7 rfl rfl (by simp) rfl (fun v w h => h))
        intro L vs w5 nb hL hC hn E5
        have e0 : vs 0 = .int .u64 (U : Int) := hC 0 (by simp)
        have e1 : vs 1 = .int .u64 X1 := hC 1 (by simp)
        have e2 : vs 2 = .int .u64 (u1 : Int) := hC 2 (by simp)
        have e3 : vs 3 = .int .u64 X2 := hC 3 (by simp)
        have e4 : vs 4 = .int .u64 (za : Int) := hC 4 (by simp)
        have e5 : vs 5 = .int .u64 (Y : Int) := hC 5 (by simp)
        have e6 : vs 6 = .int .u64 X3 := hC 6 (by simp)
        have e7 : vs 7 = .int .u64 (F : Int) := hC 7 (by simp)
        have e8 : vs 8 = .int .u64 (F : Int) := hC 8 (by simp)
        have E : Fr w [] w5 := E5
        rw [lay_all hL]
        simp only [putAll, dstOf, List.length_cons, List.length_nil, Nat.zero_add, Nat.reduceAdd, List.getElem?_toArray, List.getElem?_cons_zero, List.getElem?_cons_succ, Option.bind_some, Act.put, List.setIfInBounds_toArray, List.set_cons_succ, List.set_cons_zero]
        rw [e0, e1, e2, e3, e4, e5, e6, e7, e8]
        clear e0 e1 e2 e3 e4 e5 e6 e7 e8 hC hn E5 hL vs L nb
        clear W1 W2 W3 W4
        obtain ⟨Q2, hQ2⟩ : ∃ qa, qa = F / y1 := ⟨_, rfl⟩
        obtain ⟨R2, hR2⟩ : ∃ ra, ra = F % y1 := ⟨_, rfl⟩
        have HQ2 : Hid (Q2 * y1 + R2 = F) := by show _ = _; rw [hQ2, hR2, Nat.mul_comm]; exact Nat.div_add_mod _ _
        have HR2 : Hid (R2 < y1) := by show _ < _; rw [hR2]; exact Nat.mod_lt _ HPOS.out.1
        have GQ2 : Hid ((F * 4294967296 + u0) / Y ≤ Q2) := by show _ ≤ _; rw [hQ2]; exact kd_start HYY.out HPOS.out.1 (by have := HB.out; omega)
        have TQ2 : Hid (Q2 ≤ 4294967297) := by show _ ≤ _; rw [hQ2]; exact kd_top HYY.out HB.out.1 (by have := HB.out; omega) HU2.out
        have DQ2 : Hid ((F : Int) / y1 = (Q2 : Int)) := by show _ = _; rw [hQ2]; exact (Int.natCast_ediv _ _).symm
        clear hQ2 hR2
        have HZ := hidd (show ¬ (y1 : Int) = 0 by have := HPOS.out; omega)
        have HZN := hidd (show ¬ y1 = 0 by have := HPOS.out; omega)
        have HQW := hidd (show IntKind.u64.wrap (Q2 : Int) = (Q2 : Int) from u64N (by have := TQ2.out; omega))
        go_upto_region 22 with (fail)
        refine region_fr (C := [Fq.is (.int .u64 (F : Int)), Fq.is (.int .u64 (y1 : Int)), Fq.is (.int .u64 (Q2 : Int)), Fq.is (.int .u64 (Q2 : Int))]) (ks := []) (new := []) E rfl (by kernel_rfl) rfl rfl (fun hp => ⟨?_, ?_, ?_, ?_, trivial⟩) ?_
        · exact q_move hp (free_of rfl) trivial (sq_out (s := 17) rfl rfl (fun _ _ => rfl))
        · exact q_move hp (free_of rfl) trivial (sq_out (s := 9) rfl rfl (fun _ _ => rfl))
        · exact q_two (F := fun v _ => v = .int .u64 (F : Int)) (G := fun v _ => v = .int .u64 (y1 : Int)) hp (free_of rfl) trivial (sq_in 0 rfl rfl (by simp) rfl (fun v w h => h)) (sq_in 1 rfl rfl (by simp) rfl (fun v w h => h)) (fun ρ w hc h h' => ⟨.int .u64 (Q2 : Int), by simp [execOp, go_sem, h, h', HZN.out, DQ2.out, HQW.out], rfl⟩)
        · exact q_assign hp (free_of rfl) trivial (sq_in 2 rfl rfl (by simp) rfl (fun v w h => h))
        intro L vs w6 nb hL hC hn E6
        have e0 : vs 0 = .int .u64 (F : Int) := hC 0 (by simp)
        have e1 : vs 1 = .int .u64 (y1 : Int) := hC 1 (by simp)
        have e2 : vs 2 = .int .u64 (Q2 : Int) := hC 2 (by simp)
        have e3 : vs 3 = .int .u64 (Q2 : Int) := hC 3 (by simp)
        have E : Fr w [] w6 := E6
        rw [lay_all hL]
        simp only [putAll, dstOf, List.length_cons, List.length_nil, Nat.zero_add, Nat.reduceAdd, List.getElem?_toArray, List.getElem?_cons_zero, List.getElem?_cons_succ, Option.bind_some, Act.put, List.setIfInBounds_toArray, List.set_cons_succ, List.set_cons_zero]
        rw [e0, e1, e2, e3]
        clear e0 e1 e2 e3 hC hn E6 hL vs L nb
        clear HZ HZN HQW DQ2
        obtain ⟨P2, hP2⟩ : ∃ P, P = Q2 * y1 := ⟨_, rfl⟩
        have W1 := hidd (show IntKind.u64.wrap ((Q2 : Int) * y1) = (P2 : Int) by rw [show (Q2 : Int) * y1 = (P2 : Int) by rw [hP2]; exact (Int.natCast_mul _ _).symm]; exact u64N (by have := HQ2.out; have := HU2.out; have := HB.out; omega))
        have W2 := hidd (show IntKind.u64.wrap ((F : Int) - P2) = (R2 : Int) by rw [show (F : Int) - P2 = (R2 : Int) by have := HQ2.out; omega]; exact u64N (by have := HR2.out; have := HB.out; omega))
        clear hP2
        go_upto_region 23 with (fail)
        refine region_fr (C := [Fq.is (.int .u64 (F : Int)), Fq.is (.int .u64 (Q2 : Int)), Fq.is (.int .u64 (y1 : Int)), Fq.is (.int .u64 (P2 : Int)), Fq.is (.int .u64 (R2 : Int)), Fq.is (.int .u64 (R2 : Int))]) (ks := []) (new := []) E rfl (by kernel_rfl) rfl rfl (fun hp => ⟨?_, ?_, ?_, ?_, ?_, ?_, trivial⟩) ?_
        · exact q_move hp (free_of rfl) trivial (sq_out (s := 17) rfl rfl (fun _ _ => rfl))
        · exact q_move hp (free_of rfl) trivial (sq_out (s := 18) rfl rfl (fun _ _ => rfl))
        · exact q_move hp (free_of rfl) trivial (sq_out (s := 9) rfl rfl (fun _ _ => rfl))
        · exact q_two (F := fun v _ => v = .int .u64 (Q2 : Int)) (G := fun v _ => v = .int .u64 (y1 : Int)) hp (free_of rfl) trivial (sq_in 1 rfl rfl (by simp) rfl (fun v w h => h)) (sq_in 2 rfl rfl (by simp) rfl (fun v w h => h)) (fun ρ w hc h h' => ⟨.int .u64 (P2 : Int), by simp [execOp, go_sem, h, h', W1.out], rfl⟩)
        · exact q_two (F := fun v _ => v = .int .u64 (F : Int)) (G := fun v _ => v = .int .u64 (P2 : Int)) hp (free_of rfl) trivial (sq_in 0 rfl rfl (by simp) rfl (fun v w h => h)) (sq_in 3 rfl rfl (by simp) rfl (fun v w h => h)) (fun ρ w hc h h' => ⟨.int .u64 (R2 : Int), by simp [execOp, go_sem, h, h', W2.out], rfl⟩)
        · exact q_assign hp (free_of rfl) trivial (sq_in 4 rfl rfl (by simp) rfl (fun v w h => h))
        intro L vs w7 nb hL hC hn E7
        have e0 : vs 0 = .int .u64 (F : Int) := hC 0 (by simp)
        have e1 : vs 1 = .int .u64 (Q2 : Int) := hC 1 (by simp)
        have e2 : vs 2 = .int .u64 (y1 : Int) := hC 2 (by simp)
        have e3 : vs 3 = .int .u64 (P2 : Int) := hC 3 (by simp)
        have e4 : vs 4 = .int .u64 (R2 : Int) := hC 4 (by simp)
        have e5 : vs 5 = .int .u64 (R2 : Int) := hC 5 (by simp)
        have E : Fr w [] w7 := E7
        rw [lay_all hL]
        simp only [putAll, dstOf, List.length_cons, List.length_nil, Nat.zero_add, Nat.reduceAdd, List.getElem?_toArray, List.getElem?_cons_zero, List.getElem?_cons_succ, Option.bind_some, Act.put, List.setIfInBounds_toArray, List.set_cons_succ, List.set_cons_zero]
        rw [e0, e1, e2, e3, e4, e5]
        clear e0 e1 e2 e3 e4 e5 hC hn E7 hL vs L nb
        clear W1 W2
        go_wp2
        go_loopw [18, 16] (fun vq vr W => ∃ qb rb : Nat, vq = .int .u64 qb ∧ vr = .int .u64 rb ∧ qb * y1 + rb = F ∧ (F * 4294967296 + u0) / Y ≤ qb ∧ qb ≤ 4294967297 ∧ rb < 4294967296 ∧ Below w.heap.size w W) (fun vq _ _ => (intOf vq).toNat)
        case atStart =>
          exact ⟨Q2, R2, rfl, rfl, HQ2.out, GQ2.out, TQ2.out, by have := HR2.out; have := HB.out; omega, E.below⟩
        case round =>
          obtain ⟨qb, rb, rfl, rfl, hq, hl, hq2, hr, hbw⟩ := hrel
          have E := fr_nil hbw
          have X := hidd (And.intro hq (And.intro hl (And.intro hq2 hr)))
          clear hq hl hq2 hr hbw HQ2 HR2 GQ2 TQ2
          by_cases hb : 4294967296 ≤ qb
          · have TT : Hid (4294967296 ≤ qb ∨ 4294967296 * rb + u0 < qb * y0) := .inl hb
            have b1 := hidd (show (4294967296 : Int) ≤ (qb : Int) by omega)
            clear hb
            go_upto_region 24 with (fail)
            refine region_fr (C := [Fq.is (.int .u64 (qb : Int)), Fq.is (.bool true), Fq.is (.bool true), Fq.is (undef), Fq.is (undef), Fq.is (undef), Fq.is (undef), Fq.is (undef), Fq.is (undef), Fq.is (undef), Fq.is (undef), Fq.is (.bool true)]) (ks := []) (new := []) E rfl (by kernel_rfl) rfl rfl (fun hp => ⟨?_, ?_, ?_, ?_, ?_, ?_, ?_, ?_, ?_, ?_, ?_, ?_, trivial⟩) ?_
            · exact q_move hp (free_of rfl) trivial (sq_out (s := 18) rfl rfl (fun _ _ => rfl))
            · exact q_one (F := fun v _ => v = .int .u64 (qb : Int)) hp (free_of rfl) trivial (sq_in 0 rfl rfl (by simp) rfl (fun v w h => h)) (fun ρ w hc h => ⟨.bool true, by simp [execOp, go_sem, h, hc, b1.out], rfl⟩)
            · exact q_move hp (free_of rfl) trivial (sq_in 1 rfl rfl (by simp) rfl (fun v w h => h))
            · exact q_skip hp (free_of rfl) rfl (gq_some rfl rfl (by simp) rfl (fun v w h => h)) (fun _ => rfl)
            · exact q_skip hp (free_of rfl) rfl (gq_some rfl rfl (by simp) rfl (fun v w h => h)) (fun _ => rfl)
            · exact q_skip hp (free_of rfl) rfl (gq_some rfl rfl (by simp) rfl (fun v w h => h)) (fun _ => rfl)
            · exact q_skip hp (free_of rfl) rfl (gq_some rfl rfl (by simp) rfl (fun v w h => h)) (fun _ => rfl)
            · exact q_skip hp (free_of rfl) rfl (gq_some rfl rfl (by simp) rfl (fun v w h => h)) (fun _ => rfl)
            · exact q_skip hp (free_of rfl) rfl (gq_some rfl rfl (by simp) rfl (fun v w h => h)) (fun _ => rfl)
            · exact q_skip hp (free_of rfl) rfl (gq_some rfl rfl (by simp) rfl (fun v w h => h)) (fun _ => rfl)
            · exact q_skip hp (free_of rfl) rfl (gq_some rfl rfl (by simp) rfl (fun v w h => h)) (fun _ => rfl)
            · exact q_two (F := fun v _ => v = .bool true) (G := fun v _ => v = .bool true) hp (free_of rfl) trivial (sq_in 2 rfl rfl (by simp) rfl (fun v w h => h)) (sq_const (fun _ => rfl)) (fun ρ w hc h h' => ⟨_, by simp [execOp, go_sem, h, h'], rfl⟩)
            intro L vs w8 nb hL hC hn E8
            have e0 : vs 0 = .int .u64 (qb : Int) := hC 0 (by simp)
            have e1 : vs 1 = .bool true := hC 1 (by simp)
            have e2 : vs 2 = .bool true := hC 2 (by simp)
            have e3 : vs 3 = undef := hC 3 (by simp)
            have e4 : vs 4 = undef := hC 4 (by simp)
            have e5 : vs 5 = undef := hC 5 (by simp)
            have e6 : vs 6 = undef := hC 6 (by simp)
            have e7 : vs 7 = undef := hC 7 (by simp)
            have e8 : vs 8 = undef := hC 8 (by simp)
            have e9 : vs 9 = undef := hC 9 (by simp)
            have e10 : vs 10 = undef := hC 10 (by simp)
            have e11 : vs 11 = .bool true := hC 11 (by simp)
            have E : Fr w [] w8 := E8
            rw [lay_all hL]
            simp only [putAll, dstOf, List.length_cons, List.length_nil, Nat.zero_add, Nat.reduceAdd, List.getElem?_toArray, List.getElem?_cons_zero, List.getElem?_cons_succ, Option.bind_some, Act.put, List.setIfInBounds_toArray, List.set_cons_succ, List.set_cons_zero]
            rw [e0, e1, e2, e3, e4, e5, e6, e7, e8, e9, e10, e11]
            clear e0 e1 e2 e3 e4 e5 e6 e7 e8 e9 e10 e11 hC hn E8 hL vs L nb
            clear b1
            have KT := kd_true HYY.out X.out.1 HU2.out (by have := HB.out; omega) TT.out
            obtain ⟨zb, hz⟩ : ∃ zb, zb = qb - 1 := ⟨_, rfl⟩
            obtain ⟨v9b, hv⟩ : ∃ v9b, v9b = rb + y1 := ⟨_, rfl⟩
            have c1 := hidd (show IntKind.u64.wrap ((qb : Int) - 1) = (zb : Int) by rw [show (qb : Int) - 1 = (zb : Int) by omega]; exact u64N (by have := X.out; omega))
            have c2 := hidd (show IntKind.u64.wrap ((rb : Int) + y1) = (v9b : Int) by rw [show (rb : Int) + y1 = (v9b : Int) by omega]; exact u64N (by have := X.out; have := HB.out; omega))
            have ZE : Hid (zb * y1 + v9b = F ∧ (F * 4294967296 + u0) / Y ≤ zb ∧ zb ≤ 4294967296 ∧ zb < qb) := by
              have x1 := X.out
              have e : qb * y1 = zb * y1 + y1 := by rw [show qb = zb + 1 by omega, Nat.add_mul, Nat.one_mul]
              refine ⟨by omega, by rw [hz]; exact KT.1, by omega, by omega⟩
            clear hz hv KT TT X
            go_upto_region 25 with (fail)
            refine region_fr (C := [Fq.is (.int .u64 (qb : Int)), Fq.is (.int .u64 (zb : Int)), Fq.is (.int .u64 (zb : Int))]) (ks := []) (new := []) E rfl (by kernel_rfl) rfl rfl (fun hp => ⟨?_, ?_, ?_, trivial⟩) ?_
            · exact q_moveB 2 3 hp (free_of rfl) trivial rfl rfl rfl rfl (fun _ => rfl)
            · exact q_one (F := fun v _ => v = .int .u64 (qb : Int)) hp (free_of rfl) trivial (sq_in 0 rfl rfl (by simp) rfl (fun v w h => h)) (fun ρ w hc h => ⟨.int .u64 (zb : Int), by simp [execOp, go_sem, h, hc, c1.out], rfl⟩)
            · exact q_assign hp (free_of rfl) trivial (sq_in 1 rfl rfl (by simp) rfl (fun v w h => h))
            intro L vs w9 nb hL hC hn E9
            have e0 : vs 0 = .int .u64 (qb : Int) := hC 0 (by simp)
            have e1 : vs 1 = .int .u64 (zb : Int) := hC 1 (by simp)
            have e2 : vs 2 = .int .u64 (zb : Int) := hC 2 (by simp)
            have E : Fr w [] w9 := E9
            rw [lay_all hL]
            simp only [putAll, dstOf, List.length_cons, List.length_nil, Nat.zero_add, Nat.reduceAdd, List.getElem?_toArray, List.getElem?_cons_zero, List.getElem?_cons_succ, Option.bind_some, Act.put, List.setIfInBounds_toArray, List.set_cons_succ, List.set_cons_zero]
            rw [e0, e1, e2]
            clear e0 e1 e2 hC hn E9 hL vs L nb
            go_upto_region 26 with (fail)
            refine region_fr (C := [Fq.is (.int .u64 (rb : Int)), Fq.is (.int .u64 (y1 : Int)), Fq.is (.int .u64 (v9b : Int)), Fq.is (.int .u64 (v9b : Int))]) (ks := []) (new := []) E rfl (by kernel_rfl) rfl rfl (fun hp => ⟨?_, ?_, ?_, ?_, trivial⟩) ?_
            · exact q_moveB 3 3 hp (free_of rfl) trivial rfl rfl rfl rfl (fun _ => rfl)
            · exact q_move hp (free_of rfl) trivial (sq_out (s := 9) rfl rfl (fun _ _ => rfl))
            · exact q_two (F := fun v _ => v = .int .u64 (rb : Int)) (G := fun v _ => v = .int .u64 (y1 : Int)) hp (free_of rfl) trivial (sq_in 0 rfl rfl (by simp) rfl (fun v w h => h)) (sq_in 1 rfl rfl (by simp) rfl (fun v w h => h)) (fun ρ w hc h h' => ⟨.int .u64 (v9b : Int), by simp [execOp, go_sem, h, h', c2.out], rfl⟩)
            · exact q_assign hp (free_of rfl) trivial (sq_in 2 rfl rfl (by simp) rfl (fun v w h => h))
            intro L vs w10 nb hL hC hn E10
            have e0 : vs 0 = .int .u64 (rb : Int) := hC 0 (by simp)
            have e1 : vs 1 = .int .u64 (y1 : Int) := hC 1 (by simp)
            have e2 : vs 2 = .int .u64 (v9b : Int) := hC 2 (by simp)
            have e3 : vs 3 = .int .u64 (v9b : Int) := hC 3 (by simp)
            have E : Fr w [] w10 := E10
            rw [lay_all hL]
            simp only [putAll, dstOf, List.length_cons, List.length_nil, Nat.zero_add, Nat.reduceAdd, List.getElem?_toArray, List.getElem?_cons_zero, List.getElem?_cons_succ, Option.bind_some, Act.put, List.setIfInBounds_toArray, List.set_cons_succ, List.set_cons_zero]
            rw [e0, e1, e2, e3]
            clear e0 e1 e2 e3 hC hn E10 hL vs L nb
            clear c1 c2
            by_cases hv : 4294967296 ≤ v9b
            · have b1 := hidd (show (4294967296 : Int) ≤ (v9b : Int) by omega)
              have DONE : Hid (zb = (F * 4294967296 + u0) / Y) := kd_big HYY.out ZE.out.1 HU2.out HB.out.1 ZE.out.2.1 hv ZE.out.2.2.1
              clear ZE hv
              go_upto_region 27 with (fail)
              refine region_fr (C := [Fq.is (.int .u64 (v9b : Int)), Fq.is (.bool true)]) (ks := []) (new := []) E rfl (by kernel_rfl) rfl rfl (fun hp => ⟨?_, ?_, trivial⟩) ?_
              · exact q_move hp (free_of rfl) trivial (sq_out (s := 16) rfl rfl (fun _ _ => rfl))
              · exact q_one (F := fun v _ => v = .int .u64 (v9b : Int)) hp (free_of rfl) trivial (sq_in 0 rfl rfl (by simp) rfl (fun v w h => h)) (fun ρ w hc h => ⟨.bool true, by simp [execOp, go_sem, h, hc, b1.out], rfl⟩)
              intro L vs w11 nb hL hC hn E11
              have e0 : vs 0 = .int .u64 (v9b : Int) := hC 0 (by simp)
              have e1 : vs 1 = .bool true := hC 1 (by simp)
              have E : Fr w [] w11 := E11
              rw [lay_all hL]
              simp only [putAll, dstOf, List.length_cons, List.length_nil, Nat.zero_add, Nat.reduceAdd, List.getElem?_toArray, List.getElem?_cons_zero, List.getElem?_cons_succ, Option.bind_some, Act.put, List.setIfInBounds_toArray, List.set_cons_succ, List.set_cons_zero]
              rw [e0, e1]
              clear e0 e1 hC hn E11 hL vs L nb
              clear b1
              obtain ⟨R9, hR9⟩ : ∃ rb, rb = (F * 4294967296 + u0) % Y := ⟨_, rfl⟩
              have K2 := kd_two (U := U) (B := 4294967296) (u := u1) (v := u0) HPOS.out.2
              rw [← HF.out, ← DONE1.out, ← DONE.out, ← hR9] at K2
              have HA : Hid (za * 4294967296 + zb = QA ∧ R9 / 2 ^ t = RA) := ⟨K2.1.trans HL3.out.1, by rw [K2.2]; exact HL3.out.2⟩
              have hz1 : za < 4294967296 := by rw [DONE1.out]; exact kd_lt HU1.out (by have := HB.out; omega)
              have hz2 : zb < 4294967296 := by rw [DONE.out]; exact kd_lt HU2.out (by have := HB.out; omega)
              obtain ⟨G, hG⟩ : ∃ G, G = zb * Y := ⟨_, rfl⟩
              have hdm := Nat.div_add_mod (F * 4294967296 + u0) Y
              rw [← DONE.out, ← hR9, Nat.mul_comm, ← hG] at hdm
              have hRY : R9 < Y := by rw [hR9]; exact Nat.mod_lt _ HPOS.out.2
              obtain ⟨A1, hA1⟩ : ∃ A1 : Int, IntKind.u64.wrap ((za : Int) * 4294967296) = A1 := ⟨_, rfl⟩
              obtain ⟨B1, hB1⟩ : ∃ B1 : Int, IntKind.u64.wrap ((F : Int) * 4294967296) = B1 := ⟨_, rfl⟩
              obtain ⟨B2, hB2⟩ : ∃ B2 : Int, IntKind.u64.wrap (B1 + u0) = B2 := ⟨_, rfl⟩
              obtain ⟨C1, hC1⟩ : ∃ C1 : Int, IntKind.u64.wrap ((zb : Int) * Y) = C1 := ⟨_, rfl⟩
              have f1 : IntKind.u64.wrap (A1 + zb) = ((za * 4294967296 + zb : Nat) : Int) := by rw [← hA1]; simp only [u64_wrap]; omega
              have hg2 : (zb : Int) * Y = (G : Int) := by rw [hG]; exact (Int.natCast_mul _ _).symm
              have f2 : IntKind.u64.wrap (B2 - C1) = (R9 : Int) := by
                rw [hg2] at hC1
                have x3 := HB.out
                rw [← hB2, ← hB1, ← hC1]
                simp only [u64_wrap]
                omega
              have f3 : (R9 : Int) / 2 ^ s.toNat = ((R9 / 2 ^ t : Nat) : Int) := by rw [HT.out.2.1, shrN]
              rw [HA.out.1] at f1
              rw [HA.out.2] at f3
              obtain ⟨RR, hRR⟩ : ∃ RR : Int, RR = (R9 : Int) := ⟨_, rfl⟩
              rw [← hRR] at f2 f3
              have HS0 := hidd (show 0 ≤ s ∧ s < 64 by have := HT.out; omega)
              have W1 := hidd hA1
              have W2 := hidd f1
              have W3 := hidd hB1
              have W4 := hidd hB2
              have W5 := hidd hC1
              have W6 := hidd f2
              have W7 := hidd f3
              have W8 := hidd (show ¬ s < 0 by have := HS0.out; omega)
              clear hA1 f1 hB1 hB2 hC1 f2 f3 hg2 hdm hRY hG hz1 hz2 hR9 K2 HA hRR DONE DONE1 HL3 HYY HB HU1 HU2 HF HPOS HT
              go_upto_region 28 with (fail)
              refine region_fr (C := [Fq.is (.int .u64 (za : Int)), Fq.is (.int .u64 A1), Fq.is (.int .u64 (zb : Int)), Fq.is (.int .u64 (QA : Int)), Fq.is (.int .u64 (F : Int)), Fq.is (.int .u64 B1), Fq.is (.int .u64 (u0 : Int)), Fq.is (.int .u64 B2), Fq.is (.int .u64 (zb : Int)), Fq.is (.int .u64 (Y : Int)), Fq.is (.int .u64 C1), Fq.is (.int .u64 RR), Fq.is (.int .u64 s), Fq.is (.int .u64 (RA : Int)), Fq.is (.int .u64 (QA : Int)), Fq.is (.int .u64 (RA : Int))]) (ks := []) (new := []) E rfl (by kernel_rfl) rfl rfl (fun hp => ⟨?_, ?_, ?_, ?_, ?_, ?_, ?_, ?_, ?_, ?_, ?_, ?_, ?_, ?_, ?_, ?_, trivial⟩) ?_
              · exact q_move hp (free_of rfl) trivial (sq_out (s := 15) rfl rfl (fun _ _ => rfl))
              · exact q_one (F := fun v _ => v = .int .u64 (za : Int)) hp (free_of rfl) trivial (sq_in 0 rfl rfl (by simp) rfl (fun v w h => h)) (fun ρ w hc h => ⟨.int .u64 A1, by simp [execOp, go_sem, h, hc, W1.out], rfl⟩)
              · exact q_move hp (free_of rfl) trivial (sq_out (s := 18) rfl rfl (fun _ _ => rfl))
              · exact q_two (F := fun v _ => v = .int .u64 A1) (G := fun v _ => v = .int .u64 (zb : Int)) hp (free_of rfl) trivial (sq_in 1 rfl rfl (by simp) rfl (fun v w h => h)) (sq_in 2 rfl rfl (by simp) rfl (fun v w h => h)) (fun ρ w hc h h' => ⟨.int .u64 (QA : Int), by simp [execOp, go_sem, h, h', W2.out], rfl⟩)
              · exact q_move hp (free_of rfl) trivial (sq_out (s := 17) rfl rfl (fun _ _ => rfl))
              · exact q_one (F := fun v _ => v = .int .u64 (F : Int)) hp (free_of rfl) trivial (sq_in 4 rfl rfl (by simp) rfl (fun v w h => h)) (fun ρ w hc h => ⟨.int .u64 B1, by simp [execOp, go_sem, h, hc, W3.out], rfl⟩)
              · exact q_move hp (free_of rfl) trivial (sq_out (s := 14) rfl rfl (fun _ _ => rfl))
              · exact q_two (F := fun v _ => v = .int .u64 B1) (G := fun v _ => v = .int .u64 (u0 : Int)) hp (free_of rfl) trivial (sq_in 5 rfl rfl (by simp) rfl (fun v w h => h)) (sq_in 6 rfl rfl (by simp) rfl (fun v w h => h)) (fun ρ w hc h h' => ⟨.int .u64 B2, by simp [execOp, go_sem, h, h', W4.out], rfl⟩)
              · exact q_move hp (free_of rfl) trivial (sq_out (s := 18) rfl rfl (fun _ _ => rfl))
              · exact q_move hp (free_of rfl) trivial (sq_out (s := 2) rfl rfl (fun _ _ => rfl))
              · exact q_two (F := fun v _ => v = .int .u64 (zb : Int)) (G := fun v _ => v = .int .u64 (Y : Int)) hp (free_of rfl) trivial (sq_in 8 rfl rfl (by simp) rfl (fun v w h => h)) (sq_in 9 rfl rfl (by simp) rfl (fun v w h => h)) (fun ρ w hc h h' => ⟨.int .u64 C1, by simp [execOp, go_sem, h, h', W5.out], rfl⟩)
              · exact q_two (F := fun v _ => v = .int .u64 B2) (G := fun v _ => v = .int .u64 C1) hp (free_of rfl) trivial (sq_in 7 rfl rfl (by simp) rfl (fun v w h => h)) (sq_in 10 rfl rfl (by simp) rfl (fun v w h => h)) (fun ρ w hc h h' => ⟨.int .u64 RR, by simp [execOp, go_sem, h, h', W6.out], rfl⟩)
              · exact q_move hp (free_of rfl) trivial (sq_out (s := 8) rfl rfl (fun _ _ => rfl))
              · exact q_two (F := fun v _ => v = .int .u64 RR) (G := fun v _ => v = .int .u64 s) hp (free_of rfl) trivial (sq_in 11 rfl rfl (by simp) rfl (fun v w h => h)) (sq_in 12 rfl rfl (by simp) rfl (fun v w h => h)) (fun ρ w hc h h' => ⟨.int .u64 (RA : Int), by simp [execOp, go_sem, h, h', W7.out], rfl⟩)
              · exact q_assign hp (free_of rfl) trivial (sq_in 3 rfl rfl (by simp) rfl (fun v w h => h))
              · exact q_assign hp (free_of rfl) trivial (sq_in 13 rfl rfl (by simp) rfl (fun v w h => h))
              intro L vs w12 nb hL hC hn E12
              have e0 : vs 0 = .int .u64 (za : Int) := hC 0 (by simp)
              have e1 : vs 1 = .int .u64 A1 := hC 1 (by simp)
              have e2 : vs 2 = .int .u64 (zb : Int) := hC 2 (by simp)
              have e3 : vs 3 = .int .u64 (QA : Int) := hC 3 (by simp)
              have e4 : vs 4 = .int .u64 (F : Int) := hC 4 (by simp)
              have e5 : vs 5 = .int .u64 B1 := hC 5 (by simp)
              have e6 : vs 6 = .int .u64 (u0 : Int) := hC 6 (by simp)
              have e7 : vs 7 = .int .u64 B2 := hC 7 (by simp)
              have e8 : vs 8 = .int .u64 (zb : Int) := hC 8 (by simp)
              have e9 : vs 9 = .int .u64 (Y : Int) := hC 9 (by simp)
              have e10 : vs 10 = .int .u64 C1 := hC 10 (by simp)
              have e11 : vs 11 = .int .u64 RR := hC 11 (by simp)
              have e12 : vs 12 = .int .u64 s := hC 12 (by simp)
              have e13 : vs 13 = .int .u64 (RA : Int) := hC 13 (by simp)
              have e14 : vs 14 = .int .u64 (QA : Int) := hC 14 (by simp)
              have e15 : vs 15 = .int .u64 (RA : Int) := hC 15 (by simp)
              have E : Fr w [] w12 := E12
              rw [lay_all hL]
              simp only [putAll, dstOf, List.length_cons, List.length_nil, Nat.zero_add, Nat.reduceAdd, List.getElem?_toArray, List.getElem?_cons_zero, List.getElem?_cons_succ, Option.bind_some, Act.put, List.setIfInBounds_toArray, List.set_cons_succ, List.set_cons_zero]
              rw [e0, e1, e2, e3, e4, e5, e6, e7, e8, e9, e10, e11, e12, e13, e14, e15]
              clear e0 e1 e2 e3 e4 e5 e6 e7 e8 e9 e10 e11 e12 e13 e14 e15 hC hn E12 hL vs L nb
              clear W1 W2 W3 W4 W5 W6 W7 W8 HS0
              go_wp2
              exact bodyPost_ret (v := .tuple #[.int .u64 (QA : Int), .int .u64 (RA : Int)]) (by simp [results, Tryd.results89, go_sem]) rfl ⟨rfl, E.below⟩
            · have b1 := hidd (show ¬ (4294967296 : Int) ≤ (v9b : Int) by omega)
              have HV : Hid (v9b < 4294967296) := by show _ < _; omega
              clear hv
              go_upto_region 27 with (fail)
              refine region_fr (C := [Fq.is (.int .u64 (v9b : Int)), Fq.is (.bool false)]) (ks := []) (new := []) E rfl (by kernel_rfl) rfl rfl (fun hp => ⟨?_, ?_, trivial⟩) ?_
              · exact q_move hp (free_of rfl) trivial (sq_out (s := 16) rfl rfl (fun _ _ => rfl))
              · exact q_one (F := fun v _ => v = .int .u64 (v9b : Int)) hp (free_of rfl) trivial (sq_in 0 rfl rfl (by simp) rfl (fun v w h => h)) (fun ρ w hc h => ⟨.bool false, by simp [execOp, go_sem, h, hc, b1.out], rfl⟩)
              intro L vs w13 nb hL hC hn E13
              have e0 : vs 0 = .int .u64 (v9b : Int) := hC 0 (by simp)
              have e1 : vs 1 = .bool false := hC 1 (by simp)
              have E : Fr w [] w13 := E13
              rw [lay_all hL]
              simp only [putAll, dstOf, List.length_cons, List.length_nil, Nat.zero_add, Nat.reduceAdd, List.getElem?_toArray, List.getElem?_cons_zero, List.getElem?_cons_succ, Option.bind_some, Act.put, List.setIfInBounds_toArray, List.set_cons_succ, List.set_cons_zero]
              rw [e0, e1]
              clear e0 e1 hC hn E13 hL vs L nb
              clear b1
              go_wp2
              go_roundw
              case rel => exact ⟨zb, v9b, rfl, rfl, ZE.out.1, ZE.out.2.1, by have := ZE.out.2.2.1; omega, HV.out, E.below⟩
              case measure => have := ZE.out.2.2.2; simp [intOf]; omega
          · have b1 := hidd (show ¬ (4294967296 : Int) ≤ (qb : Int) by omega)
            obtain ⟨P, hP⟩ : ∃ P, P = qb * y0 := ⟨_, rfl⟩
            obtain ⟨S, hS⟩ : ∃ S, S = 4294967296 * rb + u0 := ⟨_, rfl⟩
            obtain ⟨N, hN⟩ : ∃ N, N = 4294967296 * rb := ⟨_, rfl⟩
            have hPb : P < 18446744073709551616 := by
              rw [hP]
              have h1 := Nat.mul_le_mul (show qb ≤ 4294967295 by omega) (show y0 ≤ 4294967295 by have := HB.out; omega)
              omega
            have d1 := hidd (show IntKind.u64.wrap ((qb : Int) * y0) = (P : Int) by rw [show (qb : Int) * y0 = (P : Int) by rw [hP]; exact (Int.natCast_mul _ _).symm]; exact u64N hPb)
            have d2 := hidd (show IntKind.u64.wrap (4294967296 * (rb : Int)) = (N : Int) by rw [show 4294967296 * (rb : Int) = (N : Int) by omega]; exact u64N (by have := X.out; omega))
            have d3 := hidd (show IntKind.u64.wrap ((N : Int) + u0) = (S : Int) by rw [show (N : Int) + u0 = (S : Int) by omega]; exact u64N (by have := X.out; have := HB.out; omega))
            have HPS := hidd (And.intro hP hS)
            clear hP hS hN hPb hb
            by_cases ht : S < P
            · have b2 := hidd (show (S : Int) < P by omega)
              have TT : Hid (4294967296 ≤ qb ∨ 4294967296 * rb + u0 < qb * y0) := .inr (by rw [← HPS.out.1, ← HPS.out.2]; exact ht)
              clear ht HPS
              go_upto_region 24 with (fail)
              refine region_fr (C := [Fq.is (.int .u64 (qb : Int)), Fq.is (.bool false), Fq.is (.bool false), Fq.is (.int .u64 (qb : Int)), Fq.is (.int .u64 (y0 : Int)), Fq.is (.int .u64 (P : Int)), Fq.is (.int .u64 (rb : Int)), Fq.is (.int .u64 (N : Int)), Fq.is (.int .u64 (u0 : Int)), Fq.is (.int .u64 (S : Int)), Fq.is (.bool true), Fq.is (.bool true)]) (ks := []) (new := []) E rfl (by kernel_rfl) rfl rfl (fun hp => ⟨?_, ?_, ?_, ?_, ?_, ?_, ?_, ?_, ?_, ?_, ?_, ?_, trivial⟩) ?_
              · exact q_move hp (free_of rfl) trivial (sq_out (s := 18) rfl rfl (fun _ _ => rfl))
              · exact q_one (F := fun v _ => v = .int .u64 (qb : Int)) hp (free_of rfl) trivial (sq_in 0 rfl rfl (by simp) rfl (fun v w h => h)) (fun ρ w hc h => ⟨.bool false, by simp [execOp, go_sem, h, hc, b1.out], rfl⟩)
              · exact q_move hp (free_of rfl) trivial (sq_in 1 rfl rfl (by simp) rfl (fun v w h => h))
              · exact q_move hp (free_of rfl) (gq_some rfl rfl (by simp) rfl (fun v w h => h)) (sq_out (s := 18) rfl rfl (fun _ _ => rfl))
              · exact q_move hp (free_of rfl) (gq_some rfl rfl (by simp) rfl (fun v w h => h)) (sq_out (s := 10) rfl rfl (fun _ _ => rfl))
              · exact q_two (F := fun v _ => v = .int .u64 (qb : Int)) (G := fun v _ => v = .int .u64 (y0 : Int)) hp (free_of rfl) (gq_some rfl rfl (by simp) rfl (fun v w h => h)) (sq_in 3 rfl rfl (by simp) rfl (fun v w h => h)) (sq_in 4 rfl rfl (by simp) rfl (fun v w h => h)) (fun ρ w hc h h' => ⟨.int .u64 (P : Int), by simp [execOp, go_sem, h, h', d1.out], rfl⟩)
              · exact q_move hp (free_of rfl) (gq_some rfl rfl (by simp) rfl (fun v w h => h)) (sq_out (s := 16) rfl rfl (fun _ _ => rfl))
              · exact q_one (F := fun v _ => v = .int .u64 (rb : Int)) hp (free_of rfl) (gq_some rfl rfl (by simp) rfl (fun v w h => h)) (sq_in 6 rfl rfl (by simp) rfl (fun v w h => h)) (fun ρ w hc h => ⟨.int .u64 (N : Int), by simp [execOp, go_sem, h, hc, d2.out], rfl⟩)
              · exact q_move hp (free_of rfl) (gq_some rfl rfl (by simp) rfl (fun v w h => h)) (sq_out (s := 14) rfl rfl (fun _ _ => rfl))
              · exact q_two (F := fun v _ => v = .int .u64 (N : Int)) (G := fun v _ => v = .int .u64 (u0 : Int)) hp (free_of rfl) (gq_some rfl rfl (by simp) rfl (fun v w h => h)) (sq_in 7 rfl rfl (by simp) rfl (fun v w h => h)) (sq_in 8 rfl rfl (by simp) rfl (fun v w h => h)) (fun ρ w hc h h' => ⟨.int .u64 (S : Int), by simp [execOp, go_sem, h, h', d3.out], rfl⟩)
              · exact q_two (F := fun v _ => v = .int .u64 (P : Int)) (G := fun v _ => v = .int .u64 (S : Int)) hp (free_of rfl) (gq_some rfl rfl (by simp) rfl (fun v w h => h)) (sq_in 5 rfl rfl (by simp) rfl (fun v w h => h)) (sq_in 9 rfl rfl (by simp) rfl (fun v w h => h)) (fun ρ w hc h h' => ⟨.bool true, by simp [execOp, go_sem, h, h', b2.out], rfl⟩)
              · exact q_two (F := fun v _ => v = .bool false) (G := fun v _ => v = .bool true) hp (free_of rfl) trivial (sq_in 2 rfl rfl (by simp) rfl (fun v w h => h)) (sq_in 10 rfl rfl (by simp) rfl (fun v w h => h)) (fun ρ w hc h h' => ⟨_, by simp [execOp, go_sem, h, h'], rfl⟩)
              intro L vs w14 nb hL hC hn E14
              have e0 : vs 0 = .int .u64 (qb : Int) := hC 0 (by simp)
              have e1 : vs 1 = .bool false := hC 1 (by simp)
              have e2 : vs 2 = .bool false := hC 2 (by simp)
              have e3 : vs 3 = .int .u64 (qb : Int) := hC 3 (by simp)
              have e4 : vs 4 = .int .u64 (y0 : Int) := hC 4 (by simp)
              have e5 : vs 5 = .int .u64 (P : Int) := hC 5 (by simp)
              have e6 : vs 6 = .int .u64 (rb : Int) := hC 6 (by simp)
              have e7 : vs 7 = .int .u64 (N : Int) := hC 7 (by simp)
              have e8 : vs 8 = .int .u64 (u0 : Int) := hC 8 (by simp)
              have e9 : vs 9 = .int .u64 (S : Int) := hC 9 (by simp)
              have e10 : vs 10 = .bool true := hC 10 (by simp)
              have e11 : vs 11 = .bool true := hC 11 (by simp)
              have E : Fr w [] w14 := E14
              rw [lay_all hL]
              simp only [putAll, dstOf, List.length_cons, List.length_nil, Nat.zero_add, Nat.reduceAdd, List.getElem?_toArray, List.getElem?_cons_zero, List.getElem?_cons_succ, Option.bind_some, Act.put, List.setIfInBounds_toArray, List.set_cons_succ, List.set_cons_zero]
              rw [e0, e1, e2, e3, e4, e5, e6, e7, e8, e9, e10, e11]
              clear e0 e1 e2 e3 e4 e5 e6 e7 e8 e9 e10 e11 hC hn E14 hL vs L nb
              clear b1 b2 d1 d2 d3
              have KT := kd_true HYY.out X.out.1 HU2.out (by have := HB.out; omega) TT.out
              obtain ⟨zb, hz⟩ : ∃ zb, zb = qb - 1 := ⟨_, rfl⟩
              obtain ⟨v9b, hv⟩ : ∃ v9b, v9b = rb + y1 := ⟨_, rfl⟩
              have c1 := hidd (show IntKind.u64.wrap ((qb : Int) - 1) = (zb : Int) by rw [show (qb : Int) - 1 = (zb : Int) by omega]; exact u64N (by have := X.out; omega))
              have c2 := hidd (show IntKind.u64.wrap ((rb : Int) + y1) = (v9b : Int) by rw [show (rb : Int) + y1 = (v9b : Int) by omega]; exact u64N (by have := X.out; have := HB.out; omega))
              have ZE : Hid (zb * y1 + v9b = F ∧ (F * 4294967296 + u0) / Y ≤ zb ∧ zb ≤ 4294967296 ∧ zb < qb) := by
                have x1 := X.out
                have e : qb * y1 = zb * y1 + y1 := by rw [show qb = zb + 1 by omega, Nat.add_mul, Nat.one_mul]
                refine ⟨by omega, by rw [hz]; exact KT.1, by omega, by omega⟩
              clear hz hv KT TT X
              go_upto_region 25 with (fail)
              refine region_fr (C := [Fq.is (.int .u64 (qb : Int)), Fq.is (.int .u64 (zb : Int)), Fq.is (.int .u64 (zb : Int))]) (ks := []) (new := []) E rfl (by kernel_rfl) rfl rfl (fun hp => ⟨?_, ?_, ?_, trivial⟩) ?_
              · exact q_moveB 2 3 hp (free_of rfl) trivial rfl rfl rfl rfl (fun _ => rfl)
              · exact q_one (F := fun v _ => v = .int .u64 (qb : Int)) hp (free_of rfl) trivial (sq_in 0 rfl rfl (by simp) rfl (fun v w h => h)) (fun ρ w hc h => ⟨.int .u64 (zb : Int), by simp [execOp, go_sem, h, hc, c1.out], rfl⟩)
              · exact q_assign hp (free_of rfl) trivial (sq_in 1 rfl rfl (by simp) rfl (fun v w h => h))
              intro L vs w15 nb hL hC hn E15
              have e0 : vs 0 = .int .u64 (qb : Int) := hC 0 (by simp)
              have e1 : vs 1 = .int .u64 (zb : Int) := hC 1 (by simp)
              have e2 : vs 2 = .int .u64 (zb : Int) := hC 2 (by simp)
              have E : Fr w [] w15 := E15
              rw [lay_all hL]
              simp only [putAll, dstOf, List.length_cons, List.length_nil, Nat.zero_add, Nat.reduceAdd, List.getElem?_toArray, List.getElem?_cons_zero, List.getElem?_cons_succ, Option.bind_some, Act.put, List.setIfInBounds_toArray, List.set_cons_succ, List.set_cons_zero]
              rw [e0, e1, e2]
              clear e0 e1 e2 hC hn E15 hL vs L nb
              go_upto_region 26 with (fail)
              refine region_fr (C := [Fq.is (.int .u64 (rb : Int)), Fq.is (.int .u64 (y1 : Int)), Fq.is (.int .u64 (v9b : Int)), Fq.is (.int .u64 (v9b : Int))]) (ks := []) (new := []) E rfl (by kernel_rfl) rfl rfl (fun hp => ⟨?_, ?_, ?_, ?_, trivial⟩) ?_
              · exact q_moveB 3 3 hp (free_of rfl) trivial rfl rfl rfl rfl (fun _ => rfl)
              · exact q_move hp (free_of rfl) trivial (sq_out (s := 9) rfl rfl (fun _ _ => rfl))
              · exact q_two (F := fun v _ => v = .int .u64 (rb : Int)) (G := fun v _ => v = .int .u64 (y1 : Int)) hp (free_of rfl) trivial (sq_in 0 rfl rfl (by simp) rfl (fun v w h => h)) (sq_in 1 rfl rfl (by simp) rfl (fun v w h => h)) (fun ρ w hc h h' => ⟨.int .u64 (v9b : Int), by simp [execOp, go_sem, h, h', c2.out], rfl⟩)
              · exact q_assign hp (free_of rfl) trivial (sq_in 2 rfl rfl (by simp) rfl (fun v w h => h))
              intro L vs w16 nb hL hC hn E16
              have e0 : vs 0 = .int .u64 (rb : Int) := hC 0 (by simp)
              have e1 : vs 1 = .int .u64 (y1 : Int) := hC 1 (by simp)
              have e2 : vs 2 = .int .u64 (v9b : Int) := hC 2 (by simp)
              have e3 : vs 3 = .int .u64 (v9b : Int) := hC 3 (by simp)
              have E : Fr w [] w16 := E16
              rw [lay_all hL]
              simp only [putAll, dstOf, List.length_cons, List.length_nil, Nat.zero_add, Nat.reduceAdd, List.getElem?_toArray, List.getElem?_cons_zero, List.getElem?_cons_succ, Option.bind_some, Act.put, List.setIfInBounds_toArray, List.set_cons_succ, List.set_cons_zero]
              rw [e0, e1, e2, e3]
              clear e0 e1 e2 e3 hC hn E16 hL vs L nb
              clear c1 c2
              by_cases hv : 4294967296 ≤ v9b
              · have b1 := hidd (show (4294967296 : Int) ≤ (v9b : Int) by omega)
                have DONE : Hid (zb = (F * 4294967296 + u0) / Y) := kd_big HYY.out ZE.out.1 HU2.out HB.out.1 ZE.out.2.1 hv ZE.out.2.2.1
                clear ZE hv
                go_upto_region 27 with (fail)
                refine region_fr (C := [Fq.is (.int .u64 (v9b : Int)), Fq.is (.bool true)]) (ks := []) (new := []) E rfl (by kernel_rfl) rfl rfl (fun hp => ⟨?_, ?_, trivial⟩) ?_
                · exact q_move hp (free_of rfl) trivial (sq_out (s := 16) rfl rfl (fun _ _ => rfl))
                · exact q_one (F := fun v _ => v = .int .u64 (v9b : Int)) hp (free_of rfl) trivial (sq_in 0 rfl rfl (by simp) rfl (fun v w h => h)) (fun ρ w hc h => ⟨.bool true, by simp [execOp, go_sem, h, hc, b1.out], rfl⟩)
                intro L vs w17 nb hL hC hn E17
                have e0 : vs 0 = .int .u64 (v9b : Int) := hC 0 (by simp)
                have e1 : vs 1 = .bool true := hC 1 (by simp)
                have E : Fr w [] w17 := E17
                rw [lay_all hL]
                simp only [putAll, dstOf, List.length_cons, List.length_nil, Nat.zero_add, Nat.reduceAdd, List.getElem?_toArray, List.getElem?_cons_zero, List.getElem?_cons_succ, Option.bind_some, Act.put, List.setIfInBounds_toArray, List.set_cons_succ, List.set_cons_zero]
                rw [e0, e1]
                clear e0 e1 hC hn E17 hL vs L nb
                clear b1
                obtain ⟨R9, hR9⟩ : ∃ rb, rb = (F * 4294967296 + u0) % Y := ⟨_, rfl⟩
                have K2 := kd_two (U := U) (B := 4294967296) (u := u1) (v := u0) HPOS.out.2
                rw [← HF.out, ← DONE1.out, ← DONE.out, ← hR9] at K2
                have HA : Hid (za * 4294967296 + zb = QA ∧ R9 / 2 ^ t = RA) := ⟨K2.1.trans HL3.out.1, by rw [K2.2]; exact HL3.out.2⟩
                have hz1 : za < 4294967296 := by rw [DONE1.out]; exact kd_lt HU1.out (by have := HB.out; omega)
                have hz2 : zb < 4294967296 := by rw [DONE.out]; exact kd_lt HU2.out (by have := HB.out; omega)
                obtain ⟨G, hG⟩ : ∃ G, G = zb * Y := ⟨_, rfl⟩
                have hdm := Nat.div_add_mod (F * 4294967296 + u0) Y
                rw [← DONE.out, ← hR9, Nat.mul_comm, ← hG] at hdm
                have hRY : R9 < Y := by rw [hR9]; exact Nat.mod_lt _ HPOS.out.2
                obtain ⟨A1, hA1⟩ : ∃ A1 : Int, IntKind.u64.wrap ((za : Int) * 4294967296) = A1 := ⟨_, rfl⟩
                obtain ⟨B1, hB1⟩ : ∃ B1 : Int, IntKind.u64.wrap ((F : Int) * 4294967296) = B1 := ⟨_, rfl⟩
                obtain ⟨B2, hB2⟩ : ∃ B2 : Int, IntKind.u64.wrap (B1 + u0) = B2 := ⟨_, rfl⟩
                obtain ⟨C1, hC1⟩ : ∃ C1 : Int, IntKind.u64.wrap ((zb : Int) * Y) = C1 := ⟨_, rfl⟩
                have f1 : IntKind.u64.wrap (A1 + zb) = ((za * 4294967296 + zb : Nat) : Int) := by rw [← hA1]; simp only [u64_wrap]; omega
                have hg2 : (zb : Int) * Y = (G : Int) := by rw [hG]; exact (Int.natCast_mul _ _).symm
                have f2 : IntKind.u64.wrap (B2 - C1) = (R9 : Int) := by
                  rw [hg2] at hC1
                  have x3 := HB.out
                  rw [← hB2, ← hB1, ← hC1]
                  simp only [u64_wrap]
                  omega
                have f3 : (R9 : Int) / 2 ^ s.toNat = ((R9 / 2 ^ t : Nat) : Int) := by rw [HT.out.2.1, shrN]
                rw [HA.out.1] at f1
                rw [HA.out.2] at f3
                obtain ⟨RR, hRR⟩ : ∃ RR : Int, RR = (R9 : Int) := ⟨_, rfl⟩
                rw [← hRR] at f2 f3
                have HS0 := hidd (show 0 ≤ s ∧ s < 64 by have := HT.out; omega)
                have W1 := hidd hA1
                have W2 := hidd f1
                have W3 := hidd hB1
                have W4 := hidd hB2
                have W5 := hidd hC1
                have W6 := hidd f2
                have W7 := hidd f3
                have W8 := hidd (show ¬ s < 0 by have := HS0.out; omega)
                clear hA1 f1 hB1 hB2 hC1 f2 f3 hg2 hdm hRY hG hz1 hz2 hR9 K2 HA hRR DONE DONE1 HL3 HYY HB HU1 HU2 HF HPOS HT
                go_upto_region 28 with (fail)
                refine region_fr (C := [Fq.is (.int .u64 (za : Int)), Fq.is (.int .u64 A1), Fq.is (.int .u64 (zb : Int)), Fq.is (.int .u64 (QA : Int)), Fq.is (.int .u64 (F : Int)), Fq.is (.int .u64 B1), Fq.is (.int .u64 (u0 : Int)), Fq.is (.int .u64 B2), Fq.is (.int .u64 (zb : Int)), Fq.is (.int .u64 (Y : Int)), Fq.is (.int .u64 C1), Fq.is (.int .u64 RR), Fq.is (.int .u64 s), Fq.is (.int .u64 (RA : Int)), Fq.is (.int .u64 (QA : Int)), Fq.is (.int .u64 (RA : Int))]) (ks := []) (new := []) E rfl (by kernel_rfl) rfl rfl (fun hp => ⟨?_, ?_, ?_, ?_, ?_, ?_, ?_, ?_, ?_, ?_, ?_, ?_, ?_, ?_, ?_, ?_, trivial⟩) ?_
                · exact q_move hp (free_of rfl) trivial (sq_out (s := 15) rfl rfl (fun _ _ => rfl))
                · exact q_one (F := fun v _ => v = .int .u64 (za : Int)) hp (free_of rfl) trivial (sq_in 0 rfl rfl (by simp) rfl (fun v w h => h)) (fun ρ w hc h => ⟨.int .u64 A1, by simp [execOp, go_sem, h, hc, W1.out], rfl⟩)
                · exact q_move hp (free_of rfl) trivial (sq_out (s := 18) rfl rfl (fun _ _ => rfl))
                · exact q_two (F := fun v _ => v = .int .u64 A1) (G := fun v _ => v = .int .u64 (zb : Int)) hp (free_of rfl) trivial (sq_in 1 rfl rfl (by simp) rfl (fun v w h => h)) (sq_in 2 rfl rfl (by simp) rfl (fun v w h => h)) (fun ρ w hc h h' => ⟨.int .u64 (QA : Int), by simp [execOp, go_sem, h, h', W2.out], rfl⟩)
                · exact q_move hp (free_of rfl) trivial (sq_out (s := 17) rfl rfl (fun _ _ => rfl))
                · exact q_one (F := fun v _ => v = .int .u64 (F : Int)) hp (free_of rfl) trivial (sq_in 4 rfl rfl (by simp) rfl (fun v w h => h)) (fun ρ w hc h => ⟨.int .u64 B1, by simp [execOp, go_sem, h, hc, W3.out], rfl⟩)
                · exact q_move hp (free_of rfl) trivial (sq_out (s := 14) rfl rfl (fun _ _ => rfl))
                · exact q_two (F := fun v _ => v = .int .u64 B1) (G := fun v _ => v = .int .u64 (u0 : Int)) hp (free_of rfl) trivial (sq_in 5 rfl rfl (by simp) rfl (fun v w h => h)) (sq_in 6 rfl rfl (by simp) rfl (fun v w h => h)) (fun ρ w hc h h' => ⟨.int .u64 B2, by simp [execOp, go_sem, h, h', W4.out], rfl⟩)
                · exact q_move hp (free_of rfl) trivial (sq_out (s := 18) rfl rfl (fun _ _ => rfl))
                · exact q_move hp (free_of rfl) trivial (sq_out (s := 2) rfl rfl (fun _ _ => rfl))
                · exact q_two (F := fun v _ => v = .int .u64 (zb : Int)) (G := fun v _ => v = .int .u64 (Y : Int)) hp (free_of rfl) trivial (sq_in 8 rfl rfl (by simp) rfl (fun v w h => h)) (sq_in 9 rfl rfl (by simp) rfl (fun v w h => h)) (fun ρ w hc h h' => ⟨.int .u64 C1, by simp [execOp, go_sem, h, h', W5.out], rfl⟩)
                · exact q_two (F := fun v _ => v = .int .u64 B2) (G := fun v _ => v = .int .u64 C1) hp (free_of rfl) trivial (sq_in 7 rfl rfl (by simp) rfl (fun v w h => h)) (sq_in 10 rfl rfl (by simp) rfl (fun v w h => h)) (fun ρ w hc h h' => ⟨.int .u64 RR, by simp [execOp, go_sem, h, h', W6.out], rfl⟩)
                · exact q_move hp (free_of rfl) trivial (sq_out (s := 8) rfl rfl (fun _ _ => rfl))
                · exact q_two (F := fun v _ => v = .int .u64 RR) (G := fun v _ => v = .int .u64 s) hp (free_of rfl) trivial (sq_in 11 rfl rfl (by simp) rfl (fun v w h => h)) (sq_in 12 rfl rfl (by simp) rfl (fun v w h => h)) (fun ρ w hc h h' => ⟨.int .u64 (RA : Int), by simp [execOp, go_sem, h, h', W7.out], rfl⟩)
                · exact q_assign hp (free_of rfl) trivial (sq_in 3 rfl rfl (by simp) rfl (fun v w h => h))
                · exact q_assign hp (free_of rfl) trivial (sq_in 13 rfl rfl (by simp) rfl (fun v w h => h))
                intro L vs w18 nb hL hC hn E18
                have e0 : vs 0 = .int .u64 (za : Int) := hC 0 (by simp)
                have e1 : vs 1 = .int .u64 A1 := hC 1 (by simp)
                have e2 : vs 2 = .int .u64 (zb : Int) := hC 2 (by simp)
                have e3 : vs 3 = .int .u64 (QA : Int) := hC 3 (by simp)
                have e4 : vs 4 = .int .u64 (F : Int) := hC 4 (by simp)
                have e5 : vs 5 = .int .u64 B1 := hC 5 (by simp)
                have e6 : vs 6 = .int .u64 (u0 : Int) := hC 6 (by simp)
                have e7 : vs 7 = .int .u64 B2 := hC 7 (by simp)
                have e8 : vs 8 = .int .u64 (zb : Int) := hC 8 (by simp)
                have e9 : vs 9 = .int .u64 (Y : Int) := hC 9 (by simp)
                have e10 : vs 10 = .int .u64 C1 := hC 10 (by simp)
                have e11 : vs 11 = .int .u64 RR := hC 11 (by simp)
                have e12 : vs 12 = .int .u64 s := hC 12 (by simp)
                have e13 : vs 13 = .int .u64 (RA : Int) := hC 13 (by simp)
                have e14 : vs 14 = .int .u64 (QA : Int) := hC 14 (by simp)
                have e15 : vs 15 = .int .u64 (RA : Int) := hC 15 (by simp)
                have E : Fr w [] w18 := E18
                rw [lay_all hL]
                simp only [putAll, dstOf, List.length_cons, List.length_nil, Nat.zero_add, Nat.reduceAdd, List.getElem?_toArray, List.getElem?_cons_zero, List.getElem?_cons_succ, Option.bind_some, Act.put, List.setIfInBounds_toArray, List.set_cons_succ, List.set_cons_zero]
                rw [e0, e1, e2, e3, e4, e5, e6, e7, e8, e9, e10, e11, e12, e13, e14, e15]
                clear e0 e1 e2 e3 e4 e5 e6 e7 e8 e9 e10 e11 e12 e13 e14 e15 hC hn E18 hL vs L nb
                clear W1 W2 W3 W4 W5 W6 W7 W8 HS0
                go_wp2
                exact bodyPost_ret (v := .tuple #[.int .u64 (QA : Int), .int .u64 (RA : Int)]) (by simp [results, Tryd.results89, go_sem]) rfl ⟨rfl, E.below⟩
              · have b1 := hidd (show ¬ (4294967296 : Int) ≤ (v9b : Int) by omega)
                have HV : Hid (v9b < 4294967296) := by show _ < _; omega
                clear hv
                go_upto_region 27 with (fail)
                refine region_fr (C := [Fq.is (.int .u64 (v9b : Int)), Fq.is (.bool false)]) (ks := []) (new := []) E rfl (by kernel_rfl) rfl rfl (fun hp => ⟨?_, ?_, trivial⟩) ?_
                · exact q_move hp (free_of rfl) trivial (sq_out (s := 16) rfl rfl (fun _ _ => rfl))
                · exact q_one (F := fun v _ => v = .int .u64 (v9b : Int)) hp (free_of rfl) trivial (sq_in 0 rfl rfl (by simp) rfl (fun v w h => h)) (fun ρ w hc h => ⟨.bool false, by simp [execOp, go_sem, h, hc, b1.out], rfl⟩)
                intro L vs w19 nb hL hC hn E19
                have e0 : vs 0 = .int .u64 (v9b : Int) := hC 0 (by simp)
                have e1 : vs 1 = .bool false := hC 1 (by simp)
                have E : Fr w [] w19 := E19
                rw [lay_all hL]
                simp only [putAll, dstOf, List.length_cons, List.length_nil, Nat.zero_add, Nat.reduceAdd, List.getElem?_toArray, List.getElem?_cons_zero, List.getElem?_cons_succ, Option.bind_some, Act.put, List.setIfInBounds_toArray, List.set_cons_succ, List.set_cons_zero]
                rw [e0, e1]
                clear e0 e1 hC hn E19 hL vs L nb
                clear b1
                go_wp2
                go_roundw
                case rel => exact ⟨zb, v9b, rfl, rfl, ZE.out.1, ZE.out.2.1, by have := ZE.out.2.2.1; omega, HV.out, E.below⟩
                case measure => have := ZE.out.2.2.2; simp [intOf]; omega
            · have b2 := hidd (show ¬ (S : Int) < P by omega)
              have DONE : Hid (qb = (F * 4294967296 + u0) / Y) := kd_false HYY.out X.out.1 HU2.out X.out.2.1 (by rw [← HPS.out.1, ← HPS.out.2]; omega)
              clear ht HPS X
              go_upto_region 24 with (fail)
              refine region_fr (C := [Fq.is (.int .u64 (qb : Int)), Fq.is (.bool false), Fq.is (.bool false), Fq.is (.int .u64 (qb : Int)), Fq.is (.int .u64 (y0 : Int)), Fq.is (.int .u64 (P : Int)), Fq.is (.int .u64 (rb : Int)), Fq.is (.int .u64 (N : Int)), Fq.is (.int .u64 (u0 : Int)), Fq.is (.int .u64 (S : Int)), Fq.is (.bool false), Fq.is (.bool false)]) (ks := []) (new := []) E rfl (by kernel_rfl) rfl rfl (fun hp => ⟨?_, ?_, ?_, ?_, ?_, ?_, ?_, ?_, ?_, ?_, ?_, ?_, trivial⟩) ?_
              · exact q_move hp (free_of rfl) trivial (sq_out (s := 18) rfl rfl (fun _ _ => rfl))
              · exact q_one (F := fun v _ => v = .int .u64 (qb : Int)) hp (free_of rfl) trivial (sq_in 0 rfl rfl (by simp) rfl (fun v w h => h)) (fun ρ w hc h => ⟨.bool false, by simp [execOp, go_sem, h, hc, b1.out], rfl⟩)
              · exact q_move hp (free_of rfl) trivial (sq_in 1 rfl rfl (by simp) rfl (fun v w h => h))
              · exact q_move hp (free_of rfl) (gq_some rfl rfl (by simp) rfl (fun v w h => h)) (sq_out (s := 18) rfl rfl (fun _ _ => rfl))
              · exact q_move hp (free_of rfl) (gq_some rfl rfl (by simp) rfl (fun v w h => h)) (sq_out (s := 10) rfl rfl (fun _ _ => rfl))
              · exact q_two (F := fun v _ => v = .int .u64 (qb : Int)) (G := fun v _ => v = .int .u64 (y0 : Int)) hp (free_of rfl) (gq_some rfl rfl (by simp) rfl (fun v w h => h)) (sq_in 3 rfl rfl (by simp) rfl (fun v w h => h)) (sq_in 4 rfl rfl (by simp) rfl (fun v w h => h)) (fun ρ w hc h h' => ⟨.int .u64 (P : Int), by simp [execOp, go_sem, h, h', d1.out], rfl⟩)
              · exact q_move hp (free_of rfl) (gq_some rfl rfl (by simp) rfl (fun v w h => h)) (sq_out (s := 16) rfl rfl (fun _ _ => rfl))
              · exact q_one (F := fun v _ => v = .int .u64 (rb : Int)) hp (free_of rfl) (gq_some rfl rfl (by simp) rfl (fun v w h => h)) (sq_in 6 rfl rfl (by simp) rfl (fun v w h => h)) (fun ρ w hc h => ⟨.int .u64 (N : Int), by simp [execOp, go_sem, h, hc, d2.out], rfl⟩)
              · exact q_move hp (free_of rfl) (gq_some rfl rfl (by simp) rfl (fun v w h => h)) (sq_out (s := 14) rfl rfl (fun _ _ => rfl))
              · exact q_two (F := fun v _ => v = .int .u64 (N : Int)) (G := fun v _ => v = .int .u64 (u0 : Int)) hp (free_of rfl) (gq_some rfl rfl (by simp) rfl (fun v w h => h)) (sq_in 7 rfl rfl (by simp) rfl (fun v w h => h)) (sq_in 8 rfl rfl (by simp) rfl (fun v w h => h)) (fun ρ w hc h h' => ⟨.int .u64 (S : Int), by simp [execOp, go_sem, h, h', d3.out], rfl⟩)
              · exact q_two (F := fun v _ => v = .int .u64 (P : Int)) (G := fun v _ => v = .int .u64 (S : Int)) hp (free_of rfl) (gq_some rfl rfl (by simp) rfl (fun v w h => h)) (sq_in 5 rfl rfl (by simp) rfl (fun v w h => h)) (sq_in 9 rfl rfl (by simp) rfl (fun v w h => h)) (fun ρ w hc h h' => ⟨.bool false, by simp [execOp, go_sem, h, h', b2.out], rfl⟩)
              · exact q_two (F := fun v _ => v = .bool false) (G := fun v _ => v = .bool false) hp (free_of rfl) trivial (sq_in 2 rfl rfl (by simp) rfl (fun v w h => h)) (sq_in 10 rfl rfl (by simp) rfl (fun v w h => h)) (fun ρ w hc h h' => ⟨_, by simp [execOp, go_sem, h, h'], rfl⟩)
              intro L vs w20 nb hL hC hn E20
              have e0 : vs 0 = .int .u64 (qb : Int) := hC 0 (by simp)
              have e1 : vs 1 = .bool false := hC 1 (by simp)
              have e2 : vs 2 = .bool false := hC 2 (by simp)
              have e3 : vs 3 = .int .u64 (qb : Int) := hC 3 (by simp)
              have e4 : vs 4 = .int .u64 (y0 : Int) := hC 4 (by simp)
              have e5 : vs 5 = .int .u64 (P : Int) := hC 5 (by simp)
              have e6 : vs 6 = .int .u64 (rb : Int) := hC 6 (by simp)
              have e7 : vs 7 = .int .u64 (N : Int) := hC 7 (by simp)
              have e8 : vs 8 = .int .u64 (u0 : Int) := hC 8 (by simp)
              have e9 : vs 9 = .int .u64 (S : Int) := hC 9 (by simp)
              have e10 : vs 10 = .bool false := hC 10 (by simp)
              have e11 : vs 11 = .bool false := hC 11 (by simp)
              have E : Fr w [] w20 := E20
              rw [lay_all hL]
              simp only [putAll, dstOf, List.length_cons, List.length_nil, Nat.zero_add, Nat.reduceAdd, List.getElem?_toArray, List.getElem?_cons_zero, List.getElem?_cons_succ, Option.bind_some, Act.put, List.setIfInBounds_toArray, List.set_cons_succ, List.set_cons_zero]
              rw [e0, e1, e2, e3, e4, e5, e6, e7, e8, e9, e10, e11]
              clear e0 e1 e2 e3 e4 e5 e6 e7 e8 e9 e10 e11 hC hn E20 hL vs L nb
              clear b1 b2 d1 d2 d3
              obtain ⟨R9, hR9⟩ : ∃ rb, rb = (F * 4294967296 + u0) % Y := ⟨_, rfl⟩
              have K2 := kd_two (U := U) (B := 4294967296) (u := u1) (v := u0) HPOS.out.2
              rw [← HF.out, ← DONE1.out, ← DONE.out, ← hR9] at K2
              have HA : Hid (za * 4294967296 + qb = QA ∧ R9 / 2 ^ t = RA) := ⟨K2.1.trans HL3.out.1, by rw [K2.2]; exact HL3.out.2⟩
              have hz1 : za < 4294967296 := by rw [DONE1.out]; exact kd_lt HU1.out (by have := HB.out; omega)
              have hz2 : qb < 4294967296 := by rw [DONE.out]; exact kd_lt HU2.out (by have := HB.out; omega)
              obtain ⟨G, hG⟩ : ∃ G, G = qb * Y := ⟨_, rfl⟩
              have hdm := Nat.div_add_mod (F * 4294967296 + u0) Y
              rw [← DONE.out, ← hR9, Nat.mul_comm, ← hG] at hdm
              have hRY : R9 < Y := by rw [hR9]; exact Nat.mod_lt _ HPOS.out.2
              obtain ⟨A1, hA1⟩ : ∃ A1 : Int, IntKind.u64.wrap ((za : Int) * 4294967296) = A1 := ⟨_, rfl⟩
              obtain ⟨B1, hB1⟩ : ∃ B1 : Int, IntKind.u64.wrap ((F : Int) * 4294967296) = B1 := ⟨_, rfl⟩
              obtain ⟨B2, hB2⟩ : ∃ B2 : Int, IntKind.u64.wrap (B1 + u0) = B2 := ⟨_, rfl⟩
              obtain ⟨C1, hC1⟩ : ∃ C1 : Int, IntKind.u64.wrap ((qb : Int) * Y) = C1 := ⟨_, rfl⟩
              have f1 : IntKind.u64.wrap (A1 + qb) = ((za * 4294967296 + qb : Nat) : Int) := by rw [← hA1]; simp only [u64_wrap]; omega
              have hg2 : (qb : Int) * Y = (G : Int) := by rw [hG]; exact (Int.natCast_mul _ _).symm
              have f2 : IntKind.u64.wrap (B2 - C1) = (R9 : Int) := by
                rw [hg2] at hC1
                have x3 := HB.out
                rw [← hB2, ← hB1, ← hC1]
                simp only [u64_wrap]
                omega
              have f3 : (R9 : Int) / 2 ^ s.toNat = ((R9 / 2 ^ t : Nat) : Int) := by rw [HT.out.2.1, shrN]
              rw [HA.out.1] at f1
              rw [HA.out.2] at f3
              obtain ⟨RR, hRR⟩ : ∃ RR : Int, RR = (R9 : Int) := ⟨_, rfl⟩
              rw [← hRR] at f2 f3
              have HS0 := hidd (show 0 ≤ s ∧ s < 64 by have := HT.out; omega)
              have W1 := hidd hA1
              have W2 := hidd f1
              have W3 := hidd hB1
              have W4 := hidd hB2
              have W5 := hidd hC1
              have W6 := hidd f2
              have W7 := hidd f3
              have W8 := hidd (show ¬ s < 0 by have := HS0.out; omega)
              clear hA1 f1 hB1 hB2 hC1 f2 f3 hg2 hdm hRY hG hz1 hz2 hR9 K2 HA hRR DONE DONE1 HL3 HYY HB HU1 HU2 HF HPOS HT
              go_upto_region 28 with (fail)
              refine region_fr (C := [Fq.is (.int .u64 (za : Int)), Fq.is (.int .u64 A1), Fq.is (.int .u64 (qb : Int)), Fq.is (.int .u64 (QA : Int)), Fq.is (.int .u64 (F : Int)), Fq.is (.int .u64 B1), Fq.is (.int .u64 (u0 : Int)), Fq.is (.int .u64 B2), Fq.is (.int .u64 (qb : Int)), Fq.is (.int .u64 (Y : Int)), Fq.is (.int .u64 C1), Fq.is (.int .u64 RR), Fq.is (.int .u64 s), Fq.is (.int .u64 (RA : Int)), Fq.is (.int .u64 (QA : Int)), Fq.is (.int .u64 (RA : Int))]) (ks := []) (new := []) E rfl (by kernel_rfl) rfl rfl (fun hp => ⟨?_, ?_, ?_, ?_, ?_, ?_, ?_, ?_, ?_, ?_, ?_, ?_, ?_, ?_, ?_, ?_, trivial⟩) ?_
              · exact q_move hp (free_of rfl) trivial (sq_out (s := 15) rfl rfl (fun _ _ => rfl))
              · exact q_one (F := fun v _ => v = .int .u64 (za : Int)) hp (free_of rfl) trivial (sq_in 0 rfl rfl (by simp) rfl (fun v w h => h)) (fun ρ w hc h => ⟨.int .u64 A1, by simp [execOp, go_sem, h, hc, W1.out], rfl⟩)
              · exact q_move hp (free_of rfl) trivial (sq_out (s := 18) rfl rfl (fun _ _ => rfl))
              · exact q_two (F := fun v _ => v = .int .u64 A1) (G := fun v _ => v = .int .u64 (qb : Int)) hp (free_of rfl) trivial (sq_in 1 rfl rfl (by simp) rfl (fun v w h => h)) (sq_in 2 rfl rfl (by simp) rfl (fun v w h => h)) (fun ρ w hc h h' => ⟨.int .u64 (QA : Int), by simp [execOp, go_sem, h, h', W2.out], rfl⟩)
              · exact q_move hp (free_of rfl) trivial (sq_out (s := 17) rfl rfl (fun _ _ => rfl))
              · exact q_one (F := fun v _ => v = .int .u64 (F : Int)) hp (free_of rfl) trivial (sq_in 4 rfl rfl (by simp) rfl (fun v w h => h)) (fun ρ w hc h => ⟨.int .u64 B1, by simp [execOp, go_sem, h, hc, W3.out], rfl⟩)
              · exact q_move hp (free_of rfl) trivial (sq_out (s := 14) rfl rfl (fun _ _ => rfl))
              · exact q_two (F := fun v _ => v = .int .u64 B1) (G := fun v _ => v = .int .u64 (u0 : Int)) hp (free_of rfl) trivial (sq_in 5 rfl rfl (by simp) rfl (fun v w h => h)) (sq_in 6 rfl rfl (by simp) rfl (fun v w h => h)) (fun ρ w hc h h' => ⟨.int .u64 B2, by simp [execOp, go_sem, h, h', W4.out], rfl⟩)
              · exact q_move hp (free_of rfl) trivial (sq_out (s := 18) rfl rfl (fun _ _ => rfl))
              · exact q_move hp (free_of rfl) trivial (sq_out (s := 2) rfl rfl (fun _ _ => rfl))
              · exact q_two (F := fun v _ => v = .int .u64 (qb : Int)) (G := fun v _ => v = .int .u64 (Y : Int)) hp (free_of rfl) trivial (sq_in 8 rfl rfl (by simp) rfl (fun v w h => h)) (sq_in 9 rfl rfl (by simp) rfl (fun v w h => h)) (fun ρ w hc h h' => ⟨.int .u64 C1, by simp [execOp, go_sem, h, h', W5.out], rfl⟩)
              · exact q_two (F := fun v _ => v = .int .u64 B2) (G := fun v _ => v = .int .u64 C1) hp (free_of rfl) trivial (sq_in 7 rfl rfl (by simp) rfl (fun v w h => h)) (sq_in 10 rfl rfl (by simp) rfl (fun v w h => h)) (fun ρ w hc h h' => ⟨.int .u64 RR, by simp [execOp, go_sem, h, h', W6.out], rfl⟩)
              · exact q_move hp (free_of rfl) trivial (sq_out (s := 8) rfl rfl (fun _ _ => rfl))
              · exact q_two (F := fun v _ => v = .int .u64 RR) (G := fun v _ => v = .int .u64 s) hp (free_of rfl) trivial (sq_in 11 rfl rfl (by simp) rfl (fun v w h => h)) (sq_in 12 rfl rfl (by simp) rfl (fun v w h => h)) (fun ρ w hc h h' => ⟨.int .u64 (RA : Int), by simp [execOp, go_sem, h, h', W7.out], rfl⟩)
              · exact q_assign hp (free_of rfl) trivial (sq_in 3 rfl rfl (by simp) rfl (fun v w h => h))
              · exact q_assign hp (free_of rfl) trivial (sq_in 13 rfl rfl (by simp) rfl (fun v w h => h))
              intro L vs w21 nb hL hC hn E21
              have e0 : vs 0 = .int .u64 (za : Int) := hC 0 (by simp)
              have e1 : vs 1 = .int .u64 A1 := hC 1 (by simp)
              have e2 : vs 2 = .int .u64 (qb : Int) := hC 2 (by simp)
              have e3 : vs 3 = .int .u64 (QA : Int) := hC 3 (by simp)
              have e4 : vs 4 = .int .u64 (F : Int) := hC 4 (by simp)
              have e5 : vs 5 = .int .u64 B1 := hC 5 (by simp)
              have e6 : vs 6 = .int .u64 (u0 : Int) := hC 6 (by simp)
              have e7 : vs 7 = .int .u64 B2 := hC 7 (by simp)
              have e8 : vs 8 = .int .u64 (qb : Int) := hC 8 (by simp)
              have e9 : vs 9 = .int .u64 (Y : Int) := hC 9 (by simp)
              have e10 : vs 10 = .int .u64 C1 := hC 10 (by simp)
              have e11 : vs 11 = .int .u64 RR := hC 11 (by simp)
              have e12 : vs 12 = .int .u64 s := hC 12 (by simp)
              have e13 : vs 13 = .int .u64 (RA : Int) := hC 13 (by simp)
              have e14 : vs 14 = .int .u64 (QA : Int) := hC 14 (by simp)
              have e15 : vs 15 = .int .u64 (RA : Int) := hC 15 (by simp)
              have E : Fr w [] w21 := E21
              rw [lay_all hL]
              simp only [putAll, dstOf, List.length_cons, List.length_nil, Nat.zero_add, Nat.reduceAdd, List.getElem?_toArray, List.getElem?_cons_zero, List.getElem?_cons_succ, Option.bind_some, Act.put, List.setIfInBounds_toArray, List.set_cons_succ, List.set_cons_zero]
              rw [e0, e1, e2, e3, e4, e5, e6, e7, e8, e9, e10, e11, e12, e13, e14, e15]
              clear e0 e1 e2 e3 e4 e5 e6 e7 e8 e9 e10 e11 e12 e13 e14 e15 hC hn E21 hL vs L nb
              clear W1 W2 W3 W4 W5 W6 W7 W8 HS0
              go_wp2
              exact bodyPost_ret (v := .tuple #[.int .u64 (QA : Int), .int .u64 (RA : Int)]) (by simp [results, Tryd.results89, go_sem]) rfl ⟨rfl, E.below⟩
      · have b1 := hidd (show ¬ (4294967296 : Int) ≤ (v9a : Int) by omega)
        have HV : Hid (v9a < 4294967296) := by show _ < _; omega
        clear hv
        go_upto_region 20 with (fail)
        refine region_fr (C := [Fq.is (.int .u64 (v9a : Int)), Fq.is (.bool false)]) (ks := []) (new := []) E rfl (by kernel_rfl) rfl rfl (fun hp => ⟨?_, ?_, trivial⟩) ?_
        · exact q_move hp (free_of rfl) trivial (sq_out (s := 16) rfl rfl (fun _ _ => rfl))
        · exact q_one (F := fun v _ => v = .int .u64 (v9a : Int)) hp (free_of rfl) trivial (sq_in 0 rfl rfl (by simp) rfl (fun v w h => h)) (fun ρ w hc h => ⟨.bool false, by simp [execOp, go_sem, h, hc, b1.out], rfl⟩)
        intro L vs w22 nb hL hC hn E22
        have e0 : vs 0 = .int .u64 (v9a : Int) := hC 0 (by simp)
        have e1 : vs 1 = .bool false := hC 1 (by simp)
        have E : Fr w [] w22 := E22
        rw [lay_all hL]
        simp only [putAll, dstOf, List.length_cons, List.length_nil, Nat.zero_add, Nat.reduceAdd, List.getElem?_toArray, List.getElem?_cons_zero, List.getElem?_cons_succ, Option.bind_some, Act.put, List.setIfInBounds_toArray, List.set_cons_succ, List.set_cons_zero]
        rw [e0, e1]
        clear e0 e1 hC hn E22 hL vs L nb
        clear b1
        go_wp2
        go_roundw
        case rel => exact ⟨za, v9a, rfl, rfl, ZE.out.1, ZE.out.2.1, by have := ZE.out.2.2.1; omega, HV.out, E.below⟩
        case measure => have := ZE.out.2.2.2; simp [intOf]; omega
    · have b1 := hidd (show ¬ (4294967296 : Int) ≤ (qa : Int) by omega)
      obtain ⟨P, hP⟩ : ∃ P, P = qa * y0 := ⟨_, rfl⟩
      obtain ⟨S, hS⟩ : ∃ S, S = 4294967296 * ra + u1 := ⟨_, rfl⟩
      obtain ⟨N, hN⟩ : ∃ N, N = 4294967296 * ra := ⟨_, rfl⟩
      have hPb : P < 18446744073709551616 := by
        rw [hP]
        have h1 := Nat.mul_le_mul (show qa ≤ 4294967295 by omega) (show y0 ≤ 4294967295 by have := HB.out; omega)
        omega
      have d1 := hidd (show IntKind.u64.wrap ((qa : Int) * y0) = (P : Int) by rw [show (qa : Int) * y0 = (P : Int) by rw [hP]; exact (Int.natCast_mul _ _).symm]; exact u64N hPb)
      have d2 := hidd (show IntKind.u64.wrap (4294967296 * (ra : Int)) = (N : Int) by rw [show 4294967296 * (ra : Int) = (N : Int) by omega]; exact u64N (by have := X.out; omega))
      have d3 := hidd (show IntKind.u64.wrap ((N : Int) + u1) = (S : Int) by rw [show (N : Int) + u1 = (S : Int) by omega]; exact u64N (by have := X.out; have := HB.out; omega))
      have HPS := hidd (And.intro hP hS)
      clear hP hS hN hPb hb
      by_cases ht : S < P
      · have b2 := hidd (show (S : Int) < P by omega)
        have TT : Hid (4294967296 ≤ qa ∨ 4294967296 * ra + u1 < qa * y0) := .inr (by rw [← HPS.out.1, ← HPS.out.2]; exact ht)
        clear ht HPS
        go_upto_region 17 with (fail)
        refine region_fr (C := [Fq.is (.int .u64 (qa : Int)), Fq.is (.bool false), Fq.is (.bool false), Fq.is (.int .u64 (qa : Int)), Fq.is (.int .u64 (y0 : Int)), Fq.is (.int .u64 (P : Int)), Fq.is (.int .u64 (ra : Int)), Fq.is (.int .u64 (N : Int)), Fq.is (.int .u64 (u1 : Int)), Fq.is (.int .u64 (S : Int)), Fq.is (.bool true), Fq.is (.bool true)]) (ks := []) (new := []) E rfl (by kernel_rfl) rfl rfl (fun hp => ⟨?_, ?_, ?_, ?_, ?_, ?_, ?_, ?_, ?_, ?_, ?_, ?_, trivial⟩) ?_
        · exact q_move hp (free_of rfl) trivial (sq_out (s := 15) rfl rfl (fun _ _ => rfl))
        · exact q_one (F := fun v _ => v = .int .u64 (qa : Int)) hp (free_of rfl) trivial (sq_in 0 rfl rfl (by simp) rfl (fun v w h => h)) (fun ρ w hc h => ⟨.bool false, by simp [execOp, go_sem, h, hc, b1.out], rfl⟩)
        · exact q_move hp (free_of rfl) trivial (sq_in 1 rfl rfl (by simp) rfl (fun v w h => h))
        · exact q_move hp (free_of rfl) (gq_some rfl rfl (by simp) rfl (fun v w h => h)) (sq_out (s := 15) rfl rfl (fun _ _ => rfl))
        · exact q_move hp (free_of rfl) (gq_some rfl rfl (by simp) rfl (fun v w h => h)) (sq_out (s := 10) rfl rfl (fun _ _ => rfl))
        · exact q_two (F := fun v _ => v = .int .u64 (qa : Int)) (G := fun v _ => v = .int .u64 (y0 : Int)) hp (free_of rfl) (gq_some rfl rfl (by simp) rfl (fun v w h => h)) (sq_in 3 rfl rfl (by simp) rfl (fun v w h => h)) (sq_in 4 rfl rfl (by simp) rfl (fun v w h => h)) (fun ρ w hc h h' => ⟨.int .u64 (P : Int), by simp [execOp, go_sem, h, h', d1.out], rfl⟩)
        · exact q_move hp (free_of rfl) (gq_some rfl rfl (by simp) rfl (fun v w h => h)) (sq_out (s := 16) rfl rfl (fun _ _ => rfl))
        · exact q_one (F := fun v _ => v = .int .u64 (ra : Int)) hp (free_of rfl) (gq_some rfl rfl (by simp) rfl (fun v w h => h)) (sq_in 6 rfl rfl (by simp) rfl (fun v w h => h)) (fun ρ w hc h => ⟨.int .u64 (N : Int), by simp [execOp, go_sem, h, hc, d2.out], rfl⟩)
        · exact q_move hp (free_of rfl) (gq_some rfl rfl (by simp) rfl (fun v w h => h)) (sq_out (s := 13) rfl rfl (fun _ _ => rfl))
        · exact q_two (F := fun v _ => v = .int .u64 (N : Int)) (G := fun v _ => v = .int .u64 (u1 : Int)) hp (free_of rfl) (gq_some rfl rfl (by simp) rfl (fun v w h => h)) (sq_in 7 rfl rfl (by simp) rfl (fun v w h => h)) (sq_in 8 rfl rfl (by simp) rfl (fun v w h => h)) (fun ρ w hc h h' => ⟨.int .u64 (S : Int), by simp [execOp, go_sem, h, h', d3.out], rfl⟩)
        · exact q_two (F := fun v _ => v = .int .u64 (P : Int)) (G := fun v _ => v = .int .u64 (S : Int)) hp (free_of rfl) (gq_some rfl rfl (by simp) rfl (fun v w h => h)) (sq_in 5 rfl rfl (by simp) rfl (fun v w h => h)) (sq_in 9 rfl rfl (by simp) rfl (fun v w h => h)) (fun ρ w hc h h' => ⟨.bool true, by simp [execOp, go_sem, h, h', b2.out], rfl⟩)
        · exact q_two (F := fun v _ => v = .bool false) (G := fun v _ => v = .bool true) hp (free_of rfl) trivial (sq_in 2 rfl rfl (by simp) rfl (fun v w h => h)) (sq_in 10 rfl rfl (by simp) rfl (fun v w h => h)) (fun ρ w hc h h' => ⟨_, by simp [execOp, go_sem, h, h'], rfl⟩)
        intro L vs w23 nb hL hC hn E23
        have e0 : vs 0 = .int .u64 (qa : Int) := hC 0 (by simp)
        have e1 : vs 1 = .bool false := hC 1 (by simp)
        have e2 : vs 2 = .bool false := hC 2 (by simp)
        have e3 : vs 3 = .int .u64 (qa : Int) := hC 3 (by simp)
        have e4 : vs 4 = .int .u64 (y0 : Int) := hC 4 (by simp)
        have e5 : vs 5 = .int .u64 (P : Int) := hC 5 (by simp)
        have e6 : vs 6 = .int .u64 (ra : Int) := hC 6 (by simp)
        have e7 : vs 7 = .int .u64 (N : Int) := hC 7 (by simp)
        have e8 : vs 8 = .int .u64 (u1 : Int) := hC 8 (by simp)
        have e9 : vs 9 = .int .u64 (S : Int) := hC 9 (by simp)
        have e10 : vs 10 = .bool true := hC 10 (by simp)
        have e11 : vs 11 = .bool true := hC 11 (by simp)
        have E : Fr w [] w23 := E23
        rw [lay_all hL]
        simp only [putAll, dstOf, List.length_cons, List.length_nil, Nat.zero_add, Nat.reduceAdd, List.getElem?_toArray, List.getElem?_cons_zero, List.getElem?_cons_succ, Option.bind_some, Act.put, List.setIfInBounds_toArray, List.set_cons_succ, List.set_cons_zero]
        rw [e0, e1, e2, e3, e4, e5, e6, e7, e8, e9, e10, e11]
        clear e0 e1 e2 e3 e4 e5 e6 e7 e8 e9 e10 e11 hC hn E23 hL vs L nb
        clear b1 b2 d1 d2 d3
        have KT := kd_true HYY.out X.out.1 HU1.out (by have := HB.out; omega) TT.out
        obtain ⟨za, hz⟩ : ∃ za, za = qa - 1 := ⟨_, rfl⟩
        obtain ⟨v9a, hv⟩ : ∃ v9a, v9a = ra + y1 := ⟨_, rfl⟩
        have c1 := hidd (show IntKind.u64.wrap ((qa : Int) - 1) = (za : Int) by rw [show (qa : Int) - 1 = (za : Int) by omega]; exact u64N (by have := X.out; omega))
        have c2 := hidd (show IntKind.u64.wrap ((ra : Int) + y1) = (v9a : Int) by rw [show (ra : Int) + y1 = (v9a : Int) by omega]; exact u64N (by have := X.out; have := HB.out; omega))
        have ZE : Hid (za * y1 + v9a = U ∧ (U * 4294967296 + u1) / Y ≤ za ∧ za ≤ 4294967296 ∧ za < qa) := by
          have x1 := X.out
          have e : qa * y1 = za * y1 + y1 := by rw [show qa = za + 1 by omega, Nat.add_mul, Nat.one_mul]
          refine ⟨by omega, by rw [hz]; exact KT.1, by omega, by omega⟩
        clear hz hv KT TT X
        go_upto_region 18 with (fail)
        refine region_fr (C := [Fq.is (.int .u64 (qa : Int)), Fq.is (.int .u64 (za : Int)), Fq.is (.int .u64 (za : Int))]) (ks := []) (new := []) E rfl (by kernel_rfl) rfl rfl (fun hp => ⟨?_, ?_, ?_, trivial⟩) ?_
        · exact q_moveB 2 3 hp (free_of rfl) trivial rfl rfl rfl rfl (fun _ => rfl)
        · exact q_one (F := fun v _ => v = .int .u64 (qa : Int)) hp (free_of rfl) trivial (sq_in 0 rfl rfl (by simp) rfl (fun v w h => h)) (fun ρ w hc h => ⟨.int .u64 (za : Int), by simp [execOp, go_sem, h, hc, c1.out], rfl⟩)
        · exact q_assign hp (free_of rfl) trivial (sq_in 1 rfl rfl (by simp) rfl (fun v w h => h))
        intro L vs w24 nb hL hC hn E24
        have e0 : vs 0 = .int .u64 (qa : Int) := hC 0 (by simp)
        have e1 : vs 1 = .int .u64 (za : Int) := hC 1 (by simp)
        have e2 : vs 2 = .int .u64 (za : Int) := hC 2 (by simp)
        have E : Fr w [] w24 := E24
        rw [lay_all hL]
        simp only [putAll, dstOf, List.length_cons, List.length_nil, Nat.zero_add, Nat.reduceAdd, List.getElem?_toArray, List.getElem?_cons_zero, List.getElem?_cons_succ, Option.bind_some, Act.put, List.setIfInBounds_toArray, List.set_cons_succ, List.set_cons_zero]
        rw [e0, e1, e2]
        clear e0 e1 e2 hC hn E24 hL vs L nb
        go_upto_region 19 with (fail)
        refine region_fr (C := [Fq.is (.int .u64 (ra : Int)), Fq.is (.int .u64 (y1 : Int)), Fq.is (.int .u64 (v9a : Int)), Fq.is (.int .u64 (v9a : Int))]) (ks := []) (new := []) E rfl (by kernel_rfl) rfl rfl (fun hp => ⟨?_, ?_, ?_, ?_, trivial⟩) ?_
        · exact q_moveB 3 3 hp (free_of rfl) trivial rfl rfl rfl rfl (fun _ => rfl)
        · exact q_move hp (free_of rfl) trivial (sq_out (s := 9) rfl rfl (fun _ _ => rfl))
        · exact q_two (F := fun v _ => v = .int .u64 (ra : Int)) (G := fun v _ => v = .int .u64 (y1 : Int)) hp (free_of rfl) trivial (sq_in 0 rfl rfl (by simp) rfl (fun v w h => h)) (sq_in 1 rfl rfl (by simp) rfl (fun v w h => h)) (fun ρ w hc h h' => ⟨.int .u64 (v9a : Int), by simp [execOp, go_sem, h, h', c2.out], rfl⟩)
        · exact q_assign hp (free_of rfl) trivial (sq_in 2 rfl rfl (by simp) rfl (fun v w h => h))
        intro L vs w25 nb hL hC hn E25
        have e0 : vs 0 = .int .u64 (ra : Int) := hC 0 (by simp)
        have e1 : vs 1 = .int .u64 (y1 : Int) := hC 1 (by simp)
        have e2 : vs 2 = .int .u64 (v9a : Int) := hC 2 (by simp)
        have e3 : vs 3 = .int .u64 (v9a : Int) := hC 3 (by simp)
        have E : Fr w [] w25 := E25
        rw [lay_all hL]
        simp only [putAll, dstOf, List.length_cons, List.length_nil, Nat.zero_add, Nat.reduceAdd, List.getElem?_toArray, List.getElem?_cons_zero, List.getElem?_cons_succ, Option.bind_some, Act.put, List.setIfInBounds_toArray, List.set_cons_succ, List.set_cons_zero]
        rw [e0, e1, e2, e3]
        clear e0 e1 e2 e3 hC hn E25 hL vs L nb
        clear c1 c2
        by_cases hv : 4294967296 ≤ v9a
        · have b1 := hidd (show (4294967296 : Int) ≤ (v9a : Int) by omega)
          have DONE : Hid (za = (U * 4294967296 + u1) / Y) := kd_big HYY.out ZE.out.1 HU1.out HB.out.1 ZE.out.2.1 hv ZE.out.2.2.1
          clear ZE hv
          go_upto_region 20 with (fail)
          refine region_fr (C := [Fq.is (.int .u64 (v9a : Int)), Fq.is (.bool true)]) (ks := []) (new := []) E rfl (by kernel_rfl) rfl rfl (fun hp => ⟨?_, ?_, trivial⟩) ?_
          · exact q_move hp (free_of rfl) trivial (sq_out (s := 16) rfl rfl (fun _ _ => rfl))
          · exact q_one (F := fun v _ => v = .int .u64 (v9a : Int)) hp (free_of rfl) trivial (sq_in 0 rfl rfl (by simp) rfl (fun v w h => h)) (fun ρ w hc h => ⟨.bool true, by simp [execOp, go_sem, h, hc, b1.out], rfl⟩)
          intro L vs w26 nb hL hC hn E26
          have e0 : vs 0 = .int .u64 (v9a : Int) := hC 0 (by simp)
          have e1 : vs 1 = .bool true := hC 1 (by simp)
          have E : Fr w [] w26 := E26
          rw [lay_all hL]
          simp only [putAll, dstOf, List.length_cons, List.length_nil, Nat.zero_add, Nat.reduceAdd, List.getElem?_toArray, List.getElem?_cons_zero, List.getElem?_cons_succ, Option.bind_some, Act.put, List.setIfInBounds_toArray, List.set_cons_succ, List.set_cons_zero]
          rw [e0, e1]
          clear e0 e1 hC hn E26 hL vs L nb
          clear b1
          have DONE1 := DONE
          clear DONE
          obtain ⟨F, hF⟩ : ∃ F, F = (U * 4294967296 + u1) % Y := ⟨_, rfl⟩
          have HF := hidd hF
          have HU2 : Hid (F < Y) := by show _ < _; rw [hF]; exact Nat.mod_lt _ HPOS.out.2
          obtain ⟨X1, hX1⟩ : ∃ X1 : Int, IntKind.u64.wrap ((U : Int) * 4294967296) = X1 := ⟨_, rfl⟩
          obtain ⟨X2, hX2⟩ : ∃ X2 : Int, IntKind.u64.wrap (X1 + u1) = X2 := ⟨_, rfl⟩
          obtain ⟨X3, hX3⟩ : ∃ X3 : Int, IntKind.u64.wrap ((za : Int) * Y) = X3 := ⟨_, rfl⟩
          obtain ⟨G, hG⟩ : ∃ G, G = za * Y := ⟨_, rfl⟩
          have g1 : (za : Int) * Y = (G : Int) := by rw [hG]; exact (Int.natCast_mul _ _).symm
          have g2 : IntKind.u64.wrap (X2 - X3) = (F : Int) := by
            have x1 := Nat.div_add_mod (U * 4294967296 + u1) Y
            rw [← DONE1.out, ← hF, Nat.mul_comm, ← hG] at x1
            have x2 := HU2.out
            have x3 := HB.out
            rw [g1] at hX3
            rw [← hX2, ← hX1, ← hX3]
            simp only [u64_wrap]
            omega
          have W1 := hidd hX1
          have W2 := hidd hX2
          have W3 := hidd hX3
          have W4 := hidd g2
          clear hF hG g1 hX1 hX2 hX3 g2
          go_upto_region 21 with (fail)
          refine region_fr (C := [Fq.is (.int .u64 (U : Int)), Fq.is (.int .u64 X1), Fq.is (.int .u64 (u1 : Int)), Fq.is (.int .u64 X2), Fq.is (.int .u64 (za : Int)), Fq.is (.int .u64 (Y : Int)), Fq.is (.int .u64 X3), Fq.is (.int .u64 (F : Int)), Fq.is (.int .u64 (F : Int))]) (ks := []) (new := []) E rfl (by kernel_rfl) rfl rfl (fun hp => ⟨?_, ?_, ?_, ?_, ?_, ?_, ?_, ?_, ?_, trivial⟩) ?_
          · exact q_move hp (free_of rfl) trivial (sq_out (s := 11) rfl rfl (fun _ _ => rfl))
          · exact q_one (F := fun v _ => v = .int .u64 (U : Int)) hp (free_of rfl) trivial (sq_in 0 rfl rfl (by simp) rfl (fun v w h => h)) (fun ρ w hc h => ⟨.int .u64 X1, by simp [execOp, go_sem, h, hc, W1.out], rfl⟩)
          · exact q_move hp (free_of rfl) trivial (sq_out (s := 13) rfl rfl (fun _ _ => rfl))
          · exact q_two (F := fun v _ => v = .int .u64 X1) (G := fun v _ => v = .int .u64 (u1 : Int)) hp (free_of rfl) trivial (sq_in 1 rfl rfl (by simp) rfl (fun v w h => h)) (sq_in 2 rfl rfl (by simp) rfl (fun v w h => h)) (fun ρ w hc h h' => ⟨.int .u64 X2, by simp [execOp, go_sem, h, h', W2.out], rfl⟩)
          · exact q_move hp (free_of rfl) trivial (sq_out (s := 15) rfl rfl (fun _ _ => rfl))
          · exact q_move hp (free_of rfl) trivial (sq_out (s := 2) rfl rfl (fun _ _ => rfl))
          · exact q_two (F := fun v _ => v = .int .u64 (za : Int)) (G := fun v _ => v = .int .u64 (Y : Int)) hp (free_of rfl) trivial (sq_in 4 rfl rfl (by simp) rfl (fun v w h => h)) (sq_in 5 rfl rfl (by simp) rfl (fun v w h => h)) (fun ρ w hc h h' => ⟨.int .u64 X3, by simp [execOp, go_sem, h, h', W3.out], rfl⟩)
          · exact q_two (F := fun v _ => v = .int .u64 X2) (G := fun v _ => v = .int .u64 X3) hp (free_of rfl) trivial (sq_in 3 rfl rfl (by simp) rfl (fun v w h => h)) (sq_in 6 rfl rfl (by simp) rfl (fun v w h => h)) (fun ρ w hc h h' => ⟨.int .u64 (F : Int), by simp [execOp, go_sem, h, h', W4.out], rfl⟩)
          · exact q_assign hp (free_of rfl) trivial (sq_in 7 rfl rfl (by simp) rfl (fun v w h => h))
          intro L vs w27 nb hL hC hn E27
          have e0 : vs 0 = .int .u64 (U : Int) := hC 0 (by simp)
          have e1 : vs 1 = .int .u64 X1 := hC 1 (by simp)
          have e2 : vs 2 = .int .u64 (u1 : Int) := hC 2 (by simp)
          have e3 : vs 3 = .int .u64 X2 := hC 3 (by simp)
          have e4 : vs 4 = .int .u64 (za : Int) := hC 4 (by simp)
          have e5 : vs 5 = .int .u64 (Y : Int) := hC 5 (by simp)
          have e6 : vs 6 = .int .u64 X3 := hC 6 (by simp)
          have e7 : vs 7 = .int .u64 (F : Int) := hC 7 (by simp)
          have e8 : vs 8 = .int .u64 (F : Int) := hC 8 (by simp)
          have E : Fr w [] w27 := E27
          rw [lay_all hL]
          simp only [putAll, dstOf, List.length_cons, List.length_nil, Nat.zero_add, Nat.reduceAdd, List.getElem?_toArray, List.getElem?_cons_zero, List.getElem?_cons_succ, Option.bind_some, Act.put, List.setIfInBounds_toArray, List.set_cons_succ, List.set_cons_zero]
          rw [e0, e1, e2, e3, e4, e5, e6, e7, e8]
          clear e0 e1 e2 e3 e4 e5 e6 e7 e8 hC hn E27 hL vs L nb
          clear W1 W2 W3 W4
          obtain ⟨Q2, hQ2⟩ : ∃ qa, qa = F / y1 := ⟨_, rfl⟩
          obtain ⟨R2, hR2⟩ : ∃ ra, ra = F % y1 := ⟨_, rfl⟩
          have HQ2 : Hid (Q2 * y1 + R2 = F) := by show _ = _; rw [hQ2, hR2, Nat.mul_comm]; exact Nat.div_add_mod _ _
          have HR2 : Hid (R2 < y1) := by show _ < _; rw [hR2]; exact Nat.mod_lt _ HPOS.out.1
          have GQ2 : Hid ((F * 4294967296 + u0) / Y ≤ Q2) := by show _ ≤ _; rw [hQ2]; exact kd_start HYY.out HPOS.out.1 (by have := HB.out; omega)
          have TQ2 : Hid (Q2 ≤ 4294967297) := by show _ ≤ _; rw [hQ2]; exact kd_top HYY.out HB.out.1 (by have := HB.out; omega) HU2.out
          have DQ2 : Hid ((F : Int) / y1 = (Q2 : Int)) := by show _ = _; rw [hQ2]; exact (Int.natCast_ediv _ _).symm
          clear hQ2 hR2
          have HZ := hidd (show ¬ (y1 : Int) = 0 by have := HPOS.out; omega)
          have HZN := hidd (show ¬ y1 = 0 by have := HPOS.out; omega)
          have HQW := hidd (show IntKind.u64.wrap (Q2 : Int) = (Q2 : Int) from u64N (by have := TQ2.out; omega))
          go_upto_region 22 with (fail)
          refine region_fr (C := [Fq.is (.int .u64 (F : Int)), Fq.is (.int .u64 (y1 : Int)), Fq.is (.int .u64 (Q2 : Int)), Fq.is (.int .u64 (Q2 : Int))]) (ks := []) (new := []) E rfl (by kernel_rfl) rfl rfl (fun hp => ⟨?_, ?_, ?_, ?_, trivial⟩) ?_
          · exact q_move hp (free_of rfl) trivial (sq_out (s := 17) rfl rfl (fun _ _ => rfl))
          · exact q_move hp (free_of rfl) trivial (sq_out (s := 9) rfl rfl (fun _ _ => rfl))
          · exact q_two (F := fun v _ => v = .int .u64 (F : Int)) (G := fun v _ => v = .int .u64 (y1 : Int)) hp (free_of rfl) trivial (sq_in 0 rfl rfl (by simp) rfl (fun v w h => h)) (sq_in 1 rfl rfl (by simp) rfl (fun v w h => h)) (fun ρ w hc h h' => ⟨.int .u64 (Q2 : Int), by simp [execOp, go_sem, h, h', HZN.out, DQ2.out, HQW.out], rfl⟩)
          · exact q_assign hp (free_of rfl) trivial (sq_in 2 rfl rfl (by simp) rfl (fun v w h => h))
          intro L vs w28 nb hL hC hn E28
          have e0 : vs 0 = .int .u64 (F : Int) := hC 0 (by simp)
          have e1 : vs 1 = .int .u64 (y1 : Int) := hC 1 (by simp)
          have e2 : vs 2 = .int .u64 (Q2 : Int) := hC 2 (by simp)
          have e3 : vs 3 = .int .u64 (Q2 : Int) := hC 3 (by simp)
          have E : Fr w [] w28 := E28
          rw [lay_all hL]
          simp only [putAll, dstOf, List.length_cons, List.length_nil, Nat.zero_add, Nat.reduceAdd, List.getElem?_toArray, List.getElem?_cons_zero, List.getElem?_cons_succ, Option.bind_some, Act.put, List.setIfInBounds_toArray, List.set_cons_succ, List.set_cons_zero]
          rw [e0, e1, e2, e3]
          clear e0 e1 e2 e3 hC hn E28 hL vs L nb
          clear HZ HZN HQW DQ2
          obtain ⟨P2, hP2⟩ : ∃ P, P = Q2 * y1 := ⟨_, rfl⟩
          have W1 := hidd (show IntKind.u64.wrap ((Q2 : Int) * y1) = (P2 : Int) by rw [show (Q2 : Int) * y1 = (P2 : Int) by rw [hP2]; exact (Int.natCast_mul _ _).symm]; exact u64N (by have := HQ2.out; have := HU2.out; have := HB.out; omega))
          have W2 := hidd (show IntKind.u64.wrap ((F : Int) - P2) = (R2 : Int) by rw [show (F : Int) - P2 = (R2 : Int) by have := HQ2.out; omega]; exact u64N (by have := HR2.out; have := HB.out; omega))
          clear hP2
          go_upto_region 23 with (fail)
          refine region_fr (C := [Fq.is (.int .u64 (F : Int)), Fq.is (.int .u64 (Q2 : Int)), Fq.is (.int .u64 (y1 : Int)), Fq.is (.int .u64 (P2 : Int)), Fq.is (.int .u64 (R2 : Int)), Fq.is (.int .u64 (R2 : Int))]) (ks := []) (new := []) E rfl (by kernel_rfl) rfl rfl (fun hp => ⟨?_, ?_, ?_, ?_, ?_, ?_, trivial⟩) ?_
          · exact q_move hp (free_of rfl) trivial (sq_out (s := 17) rfl rfl (fun _ _ => rfl))
          · exact q_move hp (free_of rfl) trivial (sq_out (s := 18) rfl rfl (fun _ _ => rfl))
          · exact q_move hp (free_of rfl) trivial (sq_out (s := 9) rfl rfl (fun _ _ => rfl))
          · exact q_two (F := fun v _ => v = .int .u64 (Q2 : Int)) (G := fun v _ => v = .int .u64 (y1 : Int)) hp (free_of rfl) trivial (sq_in 1 rfl rfl (by simp) rfl (fun v w h => h)) (sq_in 2 rfl rfl (by simp) rfl (fun v w h => h)) (fun ρ w hc h h' => ⟨.int .u64 (P2 : Int), by simp [execOp, go_sem, h, h', W1.out], rfl⟩)
          · exact q_two (F := fun v _ => v = .int .u64 (F : Int)) (G := fun v _ => v = .int .u64 (P2 : Int)) hp (free_of rfl) trivial (sq_in 0 rfl rfl (by simp) rfl (fun v w h => h)) (sq_in 3 rfl rfl (by simp) rfl (fun v w h => h)) (fun ρ w hc h h' => ⟨.int .u64 (R2 : Int), by simp [execOp, go_sem, h, h', W2.out], rfl⟩)
          · exact q_assign hp (free_of rfl) trivial (sq_in 4 rfl rfl (by simp) rfl (fun v w h => h))
          intro L vs w29 nb hL hC hn E29
          have e0 : vs 0 = .int .u64 (F : Int) := hC 0 (by simp)
          have e1 : vs 1 = .int .u64 (Q2 : Int) := hC 1 (by simp)
          have e2 : vs 2 = .int .u64 (y1 : Int) := hC 2 (by simp)
          have e3 : vs 3 = .int .u64 (P2 : Int) := hC 3 (by simp)
          have e4 : vs 4 = .int .u64 (R2 : Int) := hC 4 (by simp)
          have e5 : vs 5 = .int .u64 (R2 : Int) := hC 5 (by simp)
          have E : Fr w [] w29 := E29
          rw [lay_all hL]
          simp only [putAll, dstOf, List.length_cons, List.length_nil, Nat.zero_add, Nat.reduceAdd, List.getElem?_toArray, List.getElem?_cons_zero, List.getElem?_cons_succ, Option.bind_some, Act.put, List.setIfInBounds_toArray, List.set_cons_succ, List.set_cons_zero]
          rw [e0, e1, e2, e3, e4, e5]
          clear e0 e1 e2 e3 e4 e5 hC hn E29 hL vs L nb
          clear W1 W2
          go_wp2
          go_loopw [18, 16] (fun vq vr W => ∃ qb rb : Nat, vq = .int .u64 qb ∧ vr = .int .u64 rb ∧ qb * y1 + rb = F ∧ (F * 4294967296 + u0) / Y ≤ qb ∧ qb ≤ 4294967297 ∧ rb < 4294967296 ∧ Below w.heap.size w W) (fun vq _ _ => (intOf vq).toNat)
          case atStart =>
            exact ⟨Q2, R2, rfl, rfl, HQ2.out, GQ2.out, TQ2.out, by have := HR2.out; have := HB.out; omega, E.below⟩
          case round =>
            obtain ⟨qb, rb, rfl, rfl, hq, hl, hq2, hr, hbw⟩ := hrel
            have E := fr_nil hbw
            have X := hidd (And.intro hq (And.intro hl (And.intro hq2 hr)))
            clear hq hl hq2 hr hbw HQ2 HR2 GQ2 TQ2
            by_cases hb : 4294967296 ≤ qb
            · have TT : Hid (4294967296 ≤ qb ∨ 4294967296 * rb + u0 < qb * y0) := .inl hb
              have b1 := hidd (show (4294967296 : Int) ≤ (qb : Int) by omega)
              clear hb
              go_upto_region 24 with (fail)
              refine region_fr (C := [Fq.is (.int .u64 (qb : Int)), Fq.is (.bool true), Fq.is (.bool true), Fq.is (undef), Fq.is (undef), Fq.is (undef), Fq.is (undef), Fq.is (undef), Fq.is (undef), Fq.is (undef), Fq.is (undef), Fq.is (.bool true)]) (ks := []) (new := []) E rfl (by kernel_rfl) rfl rfl (fun hp => ⟨?_, ?_, ?_, ?_, ?_, ?_, ?_, ?_, ?_, ?_, ?_, ?_, trivial⟩) ?_
              · exact q_move hp (free_of rfl) trivial (sq_out (s := 18) rfl rfl (fun _ _ => rfl))
              · exact q_one (F := fun v _ => v = .int .u64 (qb : Int)) hp (free_of rfl) trivial (sq_in 0 rfl rfl (by simp) rfl (fun v w h => h)) (fun ρ w hc h => ⟨.bool true, by simp [execOp, go_sem, h, hc, b1.out], rfl⟩)
              · exact q_move hp (free_of rfl) trivial (sq_in 1 rfl rfl (by simp) rfl (fun v w h => h))
              · exact q_skip hp (free_of rfl) rfl (gq_some rfl rfl (by simp) rfl (fun v w h => h)) (fun _ => rfl)
              · exact q_skip hp (free_of rfl) rfl (gq_some rfl rfl (by simp) rfl (fun v w h => h)) (fun _ => rfl)
              · exact q_skip hp (free_of rfl) rfl (gq_some rfl rfl (by simp) rfl (fun v w h => h)) (fun _ => rfl)
              · exact q_skip hp (free_of rfl) rfl (gq_some rfl rfl (by simp) rfl (fun v w h => h)) (fun _ => rfl)
              · exact q_skip hp (free_of rfl) rfl (gq_some rfl rfl (by simp) rfl (fun v w h => h)) (fun _ => rfl)
              · exact q_skip hp (free_of rfl) rfl (gq_some rfl rfl (by simp) rfl (fun v w h => h)) (fun _ => rfl)
              · exact q_skip hp (free_of rfl) rfl (gq_some rfl rfl (by simp) rfl (fun v w h => h)) (fun _ => rfl)
              · exact q_skip hp (free_of rfl) rfl (gq_some rfl rfl (by simp) rfl (fun v w h => h)) (fun _ => rfl)
              · exact q_two (F := fun v _ => v = .bool true) (G := fun v _ => v = .bool true) hp (free_of rfl) trivial (sq_in 2 rfl rfl (by simp) rfl (fun v w h => h)) (sq_const (fun _ => rfl)) (fun ρ w hc h h' => ⟨_, by simp [execOp, go_sem, h, h'], rfl⟩)
              intro L vs w30 nb hL hC hn E30
              have e0 : vs 0 = .int .u64 (qb : Int) := hC 0 (by simp)
              have e1 : vs 1 = .bool true := hC 1 (by simp)
              have e2 : vs 2 = .bool true := hC 2 (by simp)
              have e3 : vs 3 = undef := hC 3 (by simp)
              have e4 : vs 4 = undef := hC 4 (by simp)
              have e5 : vs 5 = undef := hC 5 (by simp)
              have e6 : vs 6 = undef := hC 6 (by simp)
              have e7 : vs 7 = undef := hC 7 (by simp)
              have e8 : vs 8 = undef := hC 8 (by simp)
              have e9 : vs 9 = undef := hC 9 (by simp)
              have e10 : vs 10 = undef := hC 10 (by simp)
              have e11 : vs 11 = .bool true := hC 11 (by simp)
              have E : Fr w [] w30 := E30
              rw [lay_all hL]
              simp only [putAll, dstOf, List.length_cons, List.length_nil, Nat.zero_add, Nat.reduceAdd, List.getElem?_toArray, List.getElem?_cons_zero, List.getElem?_cons_succ, Option.bind_some, Act.put, List.setIfInBounds_toArray, List.set_cons_succ, List.set_cons_zero]
              rw [e0, e1, e2, e3, e4, e5, e6, e7, e8, e9, e10, e11]
              clear e0 e1 e2 e3 e4 e5 e6 e7 e8 e9 e10 e11 hC hn E30 hL vs L nb
              clear b1
              have KT := kd_true HYY.out X.out.1 HU2.out (by have := HB.out; omega) TT.out
              obtain ⟨zb, hz⟩ : ∃ zb, zb = qb - 1 := ⟨_, rfl⟩
              obtain ⟨v9b, hv⟩ : ∃ v9b, v9b = rb + y1 := ⟨_, rfl⟩
              have c1 := hidd (show IntKind.u64.wrap ((qb : Int) - 1) = (zb : Int) by rw [show (qb : Int) - 1 = (zb : Int) by omega]; exact u64N (by have := X.out; omega))
              have c2 := hidd (show IntKind.u64.wrap ((rb : Int) + y1) = (v9b : Int) by rw [show (rb : Int) + y1 = (v9b : Int) by omega]; exact u64N (by have := X.out; have := HB.out; omega))
              have ZE : Hid (zb * y1 + v9b = F ∧ (F * 4294967296 + u0) / Y ≤ zb ∧ zb ≤ 4294967296 ∧ zb < qb) := by
                have x1 := X.out
                have e : qb * y1 = zb * y1 + y1 := by rw [show qb = zb + 1 by omega, Nat.add_mul, Nat.one_mul]
                refine ⟨by omega, by rw [hz]; exact KT.1, by omega, by omega⟩
              clear hz hv KT TT X
              go_upto_region 25 with (fail)
              refine region_fr (C := [Fq.is (.int .u64 (qb : Int)), Fq.is (.int .u64 (zb : Int)), Fq.is (.int .u64 (zb : Int))]) (ks := []) (new := []) E rfl (by kernel_rfl) rfl rfl (fun hp => ⟨?_, ?_, ?_, trivial⟩) ?_
              · exact q_moveB 2 3 hp (free_of rfl) trivial rfl rfl rfl rfl (fun _ => rfl)
              · exact q_one (F := fun v _ => v = .int .u64 (qb : Int)) hp (free_of rfl) trivial (sq_in 0 rfl rfl (by simp) rfl (fun v w h => h)) (fun ρ w hc h => ⟨.int .u64 (zb : Int), by simp [execOp, go_sem, h, hc, c1.out], rfl⟩)
              · exact q_assign hp (free_of rfl) trivial (sq_in 1 rfl rfl (by simp) rfl (fun v w h => h))
              intro L vs w31 nb hL hC hn E31
              have e0 : vs 0 = .int .u64 (qb : Int) := hC 0 (by simp)
              have e1 : vs 1 = .int .u64 (zb : Int) := hC 1 (by simp)
              have e2 : vs 2 = .int .u64 (zb : Int) := hC 2 (by simp)
              have E : Fr w [] w31 := E31
              rw [lay_all hL]
              simp only [putAll, dstOf, List.length_cons, List.length_nil, Nat.zero_add, Nat.reduceAdd, List.getElem?_toArray, List.getElem?_cons_zero, List.getElem?_cons_succ, Option.bind_some, Act.put, List.setIfInBounds_toArray, List.set_cons_succ, List.set_cons_zero]
              rw [e0, e1, e2]
              clear e0 e1 e2 hC hn E31 hL vs L nb
              go_upto_region 26 with (fail)
              refine region_fr (C := [Fq.is (.int .u64 (rb : Int)), Fq.is (.int .u64 (y1 : Int)), Fq.is (.int .u64 (v9b : Int)), Fq.is (.int .u64 (v9b : Int))]) (ks := []) (new := []) E rfl (by kernel_rfl) rfl rfl (fun hp => ⟨?_, ?_, ?_, ?_, trivial⟩) ?_
              · exact q_moveB 3 3 hp (free_of rfl) trivial rfl rfl rfl rfl (fun _ => rfl)
              · exact q_move hp (free_of rfl) trivial (sq_out (s := 9) rfl rfl (fun _ _ => rfl))
              · exact q_two (F := fun v _ => v = .int .u64 (rb : Int)) (G := fun v _ => v = .int .u64 (y1 : Int)) hp (free_of rfl) trivial (sq_in 0 rfl rfl (by simp) rfl (fun v w h => h)) (sq_in 1 rfl rfl (by simp) rfl (fun v w h => h)) (fun ρ w hc h h' => ⟨.int .u64 (v9b : Int), by simp [execOp, go_sem, h, h', c2.out], rfl⟩)
              · exact q_assign hp (free_of rfl) trivial (sq_in 2 rfl rfl (by simp) rfl (fun v w h => h))
              intro L vs w32 nb hL hC hn E32
              have e0 : vs 0 = .int .u64 (rb : Int) := hC 0 (by simp)
              have e1 : vs 1 = .int .u64 (y1 : Int) := hC 1 (by simp)
              have e2 : vs 2 = .int .u64 (v9b : Int) := hC 2 (by simp)
              have e3 : vs 3 = .int .u64 (v9b : Int) := hC 3 (by simp)
              have E : Fr w [] w32 := E32
              rw [lay_all hL]
              simp only [putAll, dstOf, List.length_cons, List.length_nil, Nat.zero_add, Nat.reduceAdd, List.getElem?_toArray, List.getElem?_cons_zero, List.getElem?_cons_succ, Option.bind_some, Act.put, List.setIfInBounds_toArray, List.set_cons_succ, List.set_cons_zero]
              rw [e0, e1, e2, e3]
              clear e0 e1 e2 e3 hC hn E32 hL vs L nb
              clear c1 c2
              by_cases hv : 4294967296 ≤ v9b
              · have b1 := hidd (show (4294967296 : Int) ≤ (v9b : Int) by omega)
                have DONE : Hid (zb = (F * 4294967296 + u0) / Y) := kd_big HYY.out ZE.out.1 HU2.out HB.out.1 ZE.out.2.1 hv ZE.out.2.2.1
                clear ZE hv
                go_upto_region 27 with (fail)
                refine region_fr (C := [Fq.is (.int .u64 (v9b : Int)), Fq.is (.bool true)]) (ks := []) (new := []) E rfl (by kernel_rfl) rfl rfl (fun hp => ⟨?_, ?_, trivial⟩) ?_
                · exact q_move hp (free_of rfl) trivial (sq_out (s := 16) rfl rfl (fun _ _ => rfl))
                · exact q_one (F := fun v _ => v = .int .u64 (v9b : Int)) hp (free_of rfl) trivial (sq_in 0 rfl rfl (by simp) rfl (fun v w h => h)) (fun ρ w hc h => ⟨.bool true, by simp [execOp, go_sem, h, hc, b1.out], rfl⟩)
                intro L vs w33 nb hL hC hn E33
                have e0 : vs 0 = .int .u64 (v9b : Int) := hC 0 (by simp)
                have e1 : vs 1 = .bool true := hC 1 (by simp)
                have E : Fr w [] w33 := E33
                rw [lay_all hL]
                simp only [putAll, dstOf, List.length_cons, List.length_nil, Nat.zero_add, Nat.reduceAdd, List.getElem?_toArray, List.getElem?_cons_zero, List.getElem?_cons_succ, Option.bind_some, Act.put, List.setIfInBounds_toArray, List.set_cons_succ, List.set_cons_zero]
                rw [e0, e1]
                clear e0 e1 hC hn E33 hL vs L nb
                clear b1
                obtain ⟨R9, hR9⟩ : ∃ rb, rb = (F * 4294967296 + u0) % Y := ⟨_, rfl⟩
                have K2 := kd_two (U := U) (B := 4294967296) (u := u1) (v := u0) HPOS.out.2
                rw [← HF.out, ← DONE1.out, ← DONE.out, ← hR9] at K2
                have HA : Hid (za * 4294967296 + zb = QA ∧ R9 / 2 ^ t = RA) := ⟨K2.1.trans HL3.out.1, by rw [K2.2]; exact HL3.out.2⟩
                have hz1 : za < 4294967296 := by rw [DONE1.out]; exact kd_lt HU1.out (by have := HB.out; omega)
                have hz2 : zb < 4294967296 := by rw [DONE.out]; exact kd_lt HU2.out (by have := HB.out; omega)
                obtain ⟨G, hG⟩ : ∃ G, G = zb * Y := ⟨_, rfl⟩
                have hdm := Nat.div_add_mod (F * 4294967296 + u0) Y
                rw [← DONE.out, ← hR9, Nat.mul_comm, ← hG] at hdm
                have hRY : R9 < Y := by rw [hR9]; exact Nat.mod_lt _ HPOS.out.2
                obtain ⟨A1, hA1⟩ : ∃ A1 : Int, IntKind.u64.wrap ((za : Int) * 4294967296) = A1 := ⟨_, rfl⟩
                obtain ⟨B1, hB1⟩ : ∃ B1 : Int, IntKind.u64.wrap ((F : Int) * 4294967296) = B1 := ⟨_, rfl⟩
                obtain ⟨B2, hB2⟩ : ∃ B2 : Int, IntKind.u64.wrap (B1 + u0) = B2 := ⟨_, rfl⟩
                obtain ⟨C1, hC1⟩ : ∃ C1 : Int, IntKind.u64.wrap ((zb : Int) * Y) = C1 := ⟨_, rfl⟩
                have f1 : IntKind.u64.wrap (A1 + zb) = ((za * 4294967296 + zb : Nat) : Int) := by rw [← hA1]; simp only [u64_wrap]; omega
                have hg2 : (zb : Int) * Y = (G : Int) := by rw [hG]; exact (Int.natCast_mul _ _).symm
                have f2 : IntKind.u64.wrap (B2 - C1) = (R9 : Int) := by
                  rw [hg2] at hC1
                  have x3 := HB.out
                  rw [← hB2, ← hB1, ← hC1]
                  simp only [u64_wrap]
                  omega
                have f3 : (R9 : Int) / 2 ^ s.toNat = ((R9 / 2 ^ t : Nat) : Int) := by rw [HT.out.2.1, shrN]
                rw [HA.out.1] at f1
                rw [HA.out.2] at f3
                obtain ⟨RR, hRR⟩ : ∃ RR : Int, RR = (R9 : Int) := ⟨_, rfl⟩
                rw [← hRR] at f2 f3
                have HS0 := hidd (show 0 ≤ s ∧ s < 64 by have := HT.out; omega)
                have W1 := hidd hA1
                have W2 := hidd f1
                have W3 := hidd hB1
                have W4 := hidd hB2
                have W5 := hidd hC1
                have W6 := hidd f2
                have W7 := hidd f3
                have W8 := hidd (show ¬ s < 0 by have := HS0.out; omega)
                clear hA1 f1 hB1 hB2 hC1 f2 f3 hg2 hdm hRY hG hz1 hz2 hR9 K2 HA hRR DONE DONE1 HL3 HYY HB HU1 HU2 HF HPOS HT
                go_upto_region 28 with (fail)
                refine region_fr (C := [Fq.is (.int .u64 (za : Int)), Fq.is (.int .u64 A1), Fq.is (.int .u64 (zb : Int)), Fq.is (.int .u64 (QA : Int)), Fq.is (.int .u64 (F : Int)), Fq.is (.int .u64 B1), Fq.is (.int .u64 (u0 : Int)), Fq.is (.int .u64 B2), Fq.is (.int .u64 (zb : Int)), Fq.is (.int .u64 (Y : Int)), Fq.is (.int .u64 C1), Fq.is (.int .u64 RR), Fq.is (.int .u64 s), Fq.is (.int .u64 (RA : Int)), Fq.is (.int .u64 (QA : Int)), Fq.is (.int .u64 (RA : Int))]) (ks := []) (new := []) E rfl (by kernel_rfl) rfl rfl (fun hp => ⟨?_, ?_, ?_, ?_, ?_, ?_, ?_, ?_, ?_, ?_, ?_, ?_, ?_, ?_, ?_, ?_, trivial⟩) ?_
                · exact q_move hp (free_of rfl) trivial (sq_out (s := 15) rfl rfl (fun _ _ => rfl))
                · exact q_one (F := fun v _ => v = .int .u64 (za : Int)) hp (free_of rfl) trivial (sq_in 0 rfl rfl (by simp) rfl (fun v w h => h)) (fun ρ w hc h => ⟨.int .u64 A1, by simp [execOp, go_sem, h, hc, W1.out], rfl⟩)
                · exact q_move hp (free_of rfl) trivial (sq_out (s := 18) rfl rfl (fun _ _ => rfl))
                · exact q_two (F := fun v _ => v = .int .u64 A1) (G := fun v _ => v = .int .u64 (zb : Int)) hp (free_of rfl) trivial (sq_in 1 rfl rfl (by simp) rfl (fun v w h => h)) (sq_in 2 rfl rfl (by simp) rfl (fun v w h => h)) (fun ρ w hc h h' => ⟨.int .u64 (QA : Int), by simp [execOp, go_sem, h, h', W2.out], rfl⟩)
                · exact q_move hp (free_of rfl) trivial (sq_out (s := 17) rfl rfl (fun _ _ => rfl))
                · exact q_one (F := fun v _ => v = .int .u64 (F : Int)) hp (free_of rfl) trivial (sq_in 4 rfl rfl (by simp) rfl (fun v w h => h)) (fun ρ w hc h => ⟨.int .u64 B1, by simp [execOp, go_sem, h, hc, W3.out], rfl⟩)
                · exact q_move hp (free_of rfl) trivial (sq_out (s := 14) rfl rfl (fun _ _ => rfl))
                · exact q_two (F := fun v _ => v = .int .u64 B1) (G := fun v _ => v = .int .u64 (u0 : Int)) hp (free_of rfl) trivial (sq_in 5 rfl rfl (by simp) rfl (fun v w h => h)) (sq_in 6 rfl rfl (by simp) rfl (fun v w h => h)) (fun ρ w hc h h' => ⟨.int .u64 B2, by simp [execOp, go_sem, h, h', W4.out], rfl⟩)
                · exact q_move hp (free_of rfl) trivial (sq_out (s := 18) rfl rfl (fun _ _ => rfl))
                · exact q_move hp (free_of rfl) trivial (sq_out (s := 2) rfl rfl (fun _ _ => rfl))
                · exact q_two (F := fun v _ => v = .int .u64 (zb : Int)) (G := fun v _ => v = .int .u64 (Y : Int)) hp (free_of rfl) trivial (sq_in 8 rfl rfl (by simp) rfl (fun v w h => h)) (sq_in 9 rfl rfl (by simp) rfl (fun v w h => h)) (fun ρ w hc h h' => ⟨.int .u64 C1, by simp [execOp, go_sem, h, h', W5.out], rfl⟩)
                · exact q_two (F := fun v _ => v = .int .u64 B2) (G := fun v _ => v = .int .u64 C1) hp (free_of rfl) trivial (sq_in 7 rfl rfl (by simp) rfl (fun v w h => h)) (sq_in 10 rfl rfl (by simp) rfl (fun v w h => h)) (fun ρ w hc h h' => ⟨.int .u64 RR, by simp [execOp, go_sem, h, h', W6.out], rfl⟩)
                · exact q_move hp (free_of rfl) trivial (sq_out (s := 8) rfl rfl (fun _ _ => rfl))
                · exact q_two (F := fun v _ => v = .int .u64 RR) (G := fun v _ => v = .int .u64 s) hp (free_of rfl) trivial (sq_in 11 rfl rfl (by simp) rfl (fun v w h => h)) (sq_in 12 rfl rfl (by simp) rfl (fun v w h => h)) (fun ρ w hc h h' => ⟨.int .u64 (RA : Int), by simp [execOp, go_sem, h, h', W7.out], rfl⟩)
                · exact q_assign hp (free_of rfl) trivial (sq_in 3 rfl rfl (by simp) rfl (fun v w h => h))
                · exact q_assign hp (free_of rfl) trivial (sq_in 13 rfl rfl (by simp) rfl (fun v w h => h))
                intro L vs w34 nb hL hC hn E34
                have e0 : vs 0 = .int .u64 (za : Int) := hC 0 (by simp)
                have e1 : vs 1 = .int .u64 A1 := hC 1 (by simp)
                have e2 : vs 2 = .int .u64 (zb : Int) := hC 2 (by simp)
                have e3 : vs 3 = .int .u64 (QA : Int) := hC 3 (by simp)
                have e4 : vs 4 = .int .u64 (F : Int) := hC 4 (by simp)
                have e5 : vs 5 = .int .u64 B1 := hC 5 (by simp)
                have e6 : vs 6 = .int .u64 (u0 : Int) := hC 6 (by simp)
                have e7 : vs 7 = .int .u64 B2 := hC 7 (by simp)
                have e8 : vs 8 = .int .u64 (zb : Int) := hC 8 (by simp)
                have e9 : vs 9 = .int .u64 (Y : Int) := hC 9 (by simp)
                have e10 : vs 10 = .int .u64 C1 := hC 10 (by simp)
                have e11 : vs 11 = .int .u64 RR := hC 11 (by simp)
                have e12 : vs 12 = .int .u64 s := hC 12 (by simp)
                have e13 : vs 13 = .int .u64 (RA : Int) := hC 13 (by simp)
                have e14 : vs 14 = .int .u64 (QA : Int) := hC 14 (by simp)
                have e15 : vs 15 = .int .u64 (RA : Int) := hC 15 (by simp)
                have E : Fr w [] w34 := E34
                rw [lay_all hL]
                simp only [putAll, dstOf, List.length_cons, List.length_nil, Nat.zero_add, Nat.reduceAdd, List.getElem?_toArray, List.getElem?_cons_zero, List.getElem?_cons_succ, Option.bind_some, Act.put, List.setIfInBounds_toArray, List.set_cons_succ, List.set_cons_zero]
                rw [e0, e1, e2, e3, e4, e5, e6, e7, e8, e9, e10, e11, e12, e13, e14, e15]
                clear e0 e1 e2 e3 e4 e5 e6 e7 e8 e9 e10 e11 e12 e13 e14 e15 hC hn E34 hL vs L nb
                clear W1 W2 W3 W4 W5 W6 W7 W8 HS0
                go_wp2
                exact bodyPost_ret (v := .tuple #[.int .u64 (QA : Int), .int .u64 (RA : Int)]) (by simp [results, Tryd.results89, go_sem]) rfl ⟨rfl, E.below⟩
              · have b1 := hidd (show ¬ (4294967296 : Int) ≤ (v9b : Int) by omega)
                have HV : Hid (v9b < 4294967296) := by show _ < _; omega
                clear hv
                go_upto_region 27 with (fail)
                refine region_fr (C := [Fq.is (.int .u64 (v9b : Int)), Fq.is (.bool false)]) (ks := []) (new := []) E rfl (by kernel_rfl) rfl rfl (fun hp => ⟨?_, ?_, trivial⟩) ?_
                · exact q_move hp (free_of rfl) trivial (sq_out (s := 16) rfl rfl (fun _ _ => rfl))
                · exact q_one (F := fun v _ => v = .int .u64 (v9b : Int)) hp (free_of rfl) trivial (sq_in 0 rfl rfl (by simp) rfl (fun v w h => h)) (fun ρ w hc h => ⟨.bool false, by simp [execOp, go_sem, h, hc, b1.out], rfl⟩)
                intro L vs w35 nb hL hC hn E35
                have e0 : vs 0 = .int .u64 (v9b : Int) := hC 0 (by simp)
                have e1 : vs 1 = .bool false := hC 1 (by simp)
                have E : Fr w [] w35 := E35
                rw [lay_all hL]
                simp only [putAll, dstOf, List.length_cons, List.length_nil, Nat.zero_add, Nat.reduceAdd, List.getElem?_toArray, List.getElem?_cons_zero, List.getElem?_cons_succ, Option.bind_some, Act.put, List.setIfInBounds_toArray, List.set_cons_succ, List.set_cons_zero]
                rw [e0, e1]
                clear e0 e1 hC hn E35 hL vs L nb
                clear b1
                go_wp2
                go_roundw
                case rel => exact ⟨zb, v9b, rfl, rfl, ZE.out.1, ZE.out.2.1, by have := ZE.out.2.2.1; omega, HV.out, E.below⟩
                case measure => have := ZE.out.2.2.2; simp [intOf]; omega
            · have b1 := hidd (show ¬ (4294967296 : Int) ≤ (qb : Int) by omega)
              obtain ⟨P, hP⟩ : ∃ P, P = qb * y0 := ⟨_, rfl⟩
              obtain ⟨S, hS⟩ : ∃ S, S = 4294967296 * rb + u0 := ⟨_, rfl⟩
              obtain ⟨N, hN⟩ : ∃ N, N = 4294967296 * rb := ⟨_, rfl⟩
              have hPb : P < 18446744073709551616 := by
                rw [hP]
                have h1 := Nat.mul_le_mul (show qb ≤ 4294967295 by omega) (show y0 ≤ 4294967295 by have := HB.out; omega)
                omega
              have d1 := hidd (show IntKind.u64.wrap ((qb : Int) * y0) = (P : Int) by rw [show (qb : Int) * y0 = (P : Int) by rw [hP]; exact (Int.natCast_mul _ _).symm]; exact u64N hPb)
              have d2 := hidd (show IntKind.u64.wrap (4294967296 * (rb : Int)) = (N : Int) by rw [show 4294967296 * (rb : Int) = (N : Int) by omega]; exact u64N (by have := X.out; omega))
              have d3 := hidd (show IntKind.u64.wrap ((N : Int) + u0) = (S : Int) by rw [show (N : Int) + u0 = (S : Int) by omega]; exact u64N (by have := X.out; have := HB.out; omega))
              have HPS := hidd (And.intro hP hS)
              clear hP hS hN hPb hb
              by_cases ht : S < P
              · have b2 := hidd (show (S : Int) < P by omega)
                have TT : Hid (4294967296 ≤ qb ∨ 4294967296 * rb + u0 < qb * y0) := .inr (by rw [← HPS.out.1, ← HPS.out.2]; exact ht)
                clear ht HPS
                go_upto_region 24 with (fail)
                refine region_fr (C := [Fq.is (.int .u64 (qb : Int)), Fq.is (.bool false), Fq.is (.bool false), Fq.is (.int .u64 (qb : Int)), Fq.is (.int .u64 (y0 : Int)), Fq.is (.int .u64 (P : Int)), Fq.is (.int .u64 (rb : Int)), Fq.is (.int .u64 (N : Int)), Fq.is (.int .u64 (u0 : Int)), Fq.is (.int .u64 (S : Int)), Fq.is (.bool true), Fq.is (.bool true)]) (ks := []) (new := []) E rfl (by kernel_rfl) rfl rfl (fun hp => ⟨?_, ?_, ?_, ?_, ?_, ?_, ?_, ?_, ?_, ?_, ?_, ?_, trivial⟩) ?_
                · exact q_move hp (free_of rfl) trivial (sq_out (s := 18) rfl rfl (fun _ _ => rfl))
                · exact q_one (F := fun v _ => v = .int .u64 (qb : Int)) hp (free_of rfl) trivial (sq_in 0 rfl rfl (by simp) rfl (fun v w h => h)) (fun ρ w hc h => ⟨.bool false, by simp [execOp, go_sem, h, hc, b1.out], rfl⟩)
                · exact q_move hp (free_of rfl) trivial (sq_in 1 rfl rfl (by simp) rfl (fun v w h => h))
                · exact q_move hp (free_of rfl) (gq_some rfl rfl (by simp) rfl (fun v w h => h)) (sq_out (s := 18) rfl rfl (fun _ _ => rfl))
                · exact q_move hp (free_of rfl) (gq_some rfl rfl (by simp) rfl (fun v w h => h)) (sq_out (s := 10) rfl rfl (fun _ _ => rfl))
                · exact q_two (F := fun v _ => v = .int .u64 (qb : Int)) (G := fun v _ => v = .int .u64 (y0 : Int)) hp (free_of rfl) (gq_some rfl rfl (by simp) rfl (fun v w h => h)) (sq_in 3 rfl rfl (by simp) rfl (fun v w h => h)) (sq_in 4 rfl rfl (by simp) rfl (fun v w h => h)) (fun ρ w hc h h' => ⟨.int .u64 (P : Int), by simp [execOp, go_sem, h, h', d1.out], rfl⟩)
                · exact q_move hp (free_of rfl) (gq_some rfl rfl (by simp) rfl (fun v w h => h)) (sq_out (s := 16) rfl rfl (fun _ _ => rfl))
                · exact q_one (F := fun v _ => v = .int .u64 (rb : Int)) hp (free_of rfl) (gq_some rfl rfl (by simp) rfl (fun v w h => h)) (sq_in 6 rfl rfl (by simp) rfl (fun v w h => h)) (fun ρ w hc h => ⟨.int .u64 (N : Int), by simp [execOp, go_sem, h, hc, d2.out], rfl⟩)
                · exact q_move hp (free_of rfl) (gq_some rfl rfl (by simp) rfl (fun v w h => h)) (sq_out (s := 14) rfl rfl (fun _ _ => rfl))
                · exact q_two (F := fun v _ => v = .int .u64 (N : Int)) (G := fun v _ => v = .int .u64 (u0 : Int)) hp (free_of rfl) (gq_some rfl rfl (by simp) rfl (fun v w h => h)) (sq_in 7 rfl rfl (by simp) rfl (fun v w h => h)) (sq_in 8 rfl rfl (by simp) rfl (fun v w h => h)) (fun ρ w hc h h' => ⟨.int .u64 (S : Int), by simp [execOp, go_sem, h, h', d3.out], rfl⟩)
                · exact q_two (F := fun v _ => v = .int .u64 (P : Int)) (G := fun v _ => v = .int .u64 (S : Int)) hp (free_of rfl) (gq_some rfl rfl (by simp) rfl (fun v w h => h)) (sq_in 5 rfl rfl (by simp) rfl (fun v w h => h)) (sq_in 9 rfl rfl (by simp) rfl (fun v w h => h)) (fun ρ w hc h h' => ⟨.bool true, by simp [execOp, go_sem, h, h', b2.out], rfl⟩)
                · exact q_two (F := fun v _ => v = .bool false) (G := fun v _ => v = .bool true) hp (free_of rfl) trivial (sq_in 2 rfl rfl (by simp) rfl (fun v w h => h)) (sq_in 10 rfl rfl (by simp) rfl (fun v w h => h)) (fun ρ w hc h h' => ⟨_, by simp [execOp, go_sem, h, h'], rfl⟩)
                intro L vs w36 nb hL hC hn E36
                have e0 : vs 0 = .int .u64 (qb : Int) := hC 0 (by simp)
                have e1 : vs 1 = .bool false := hC 1 (by simp)
                have e2 : vs 2 = .bool false := hC 2 (by simp)
                have e3 : vs 3 = .int .u64 (qb : Int) := hC 3 (by simp)
                have e4 : vs 4 = .int .u64 (y0 : Int) := hC 4 (by simp)
                have e5 : vs 5 = .int .u64 (P : Int) := hC 5 (by simp)
                have e6 : vs 6 = .int .u64 (rb : Int) := hC 6 (by simp)
                have e7 : vs 7 = .int .u64 (N : Int) := hC 7 (by simp)
                have e8 : vs 8 = .int .u64 (u0 : Int) := hC 8 (by simp)
                have e9 : vs 9 = .int .u64 (S : Int) := hC 9 (by simp)
                have e10 : vs 10 = .bool true := hC 10 (by simp)
                have e11 : vs 11 = .bool true := hC 11 (by simp)
                have E : Fr w [] w36 := E36
                rw [lay_all hL]
                simp only [putAll, dstOf, List.length_cons, List.length_nil, Nat.zero_add, Nat.reduceAdd, List.getElem?_toArray, List.getElem?_cons_zero, List.getElem?_cons_succ, Option.bind_some, Act.put, List.setIfInBounds_toArray, List.set_cons_succ, List.set_cons_zero]
                rw [e0, e1, e2, e3, e4, e5, e6, e7, e8, e9, e10, e11]
                clear e0 e1 e2 e3 e4 e5 e6 e7 e8 e9 e10 e11 hC hn E36 hL vs L nb
                clear b1 b2 d1 d2 d3
                have KT := kd_true HYY.out X.out.1 HU2.out (by have := HB.out; omega) TT.out
                obtain ⟨zb, hz⟩ : ∃ zb, zb = qb - 1 := ⟨_, rfl⟩
                obtain ⟨v9b, hv⟩ : ∃ v9b, v9b = rb + y1 := ⟨_, rfl⟩
                have c1 := hidd (show IntKind.u64.wrap ((qb : Int) - 1) = (zb : Int) by rw [show (qb : Int) - 1 = (zb : Int) by omega]; exact u64N (by have := X.out; omega))
                have c2 := hidd (show IntKind.u64.wrap ((rb : Int) + y1) = (v9b : Int) by rw [show (rb : Int) + y1 = (v9b : Int) by omega]; exact u64N (by have := X.out; have := HB.out; omega))
                have ZE : Hid (zb * y1 + v9b = F ∧ (F * 4294967296 + u0) / Y ≤ zb ∧ zb ≤ 4294967296 ∧ zb < qb) := by
                  have x1 := X.out
                  have e : qb * y1 = zb * y1 + y1 := by rw [show qb = zb + 1 by omega, Nat.add_mul, Nat.one_mul]
                  refine ⟨by omega, by rw [hz]; exact KT.1, by omega, by omega⟩
                clear hz hv KT TT X
                go_upto_region 25 with (fail)
                refine region_fr (C := [Fq.is (.int .u64 (qb : Int)), Fq.is (.int .u64 (zb : Int)), Fq.is (.int .u64 (zb : Int))]) (ks := []) (new := []) E rfl (by kernel_rfl) rfl rfl (fun hp => ⟨?_, ?_, ?_, trivial⟩) ?_
                · exact q_moveB 2 3 hp (free_of rfl) trivial rfl rfl rfl rfl (fun _ => rfl)
                · exact q_one (F := fun v _ => v = .int .u64 (qb : Int)) hp (free_of rfl) trivial (sq_in 0 rfl rfl (by simp) rfl (fun v w h => h)) (fun ρ w hc h => ⟨.int .u64 (zb : Int), by simp [execOp, go_sem, h, hc, c1.out], rfl⟩)
                · exact q_assign hp (free_of rfl) trivial (sq_in 1 rfl rfl (by simp) rfl (fun v w h => h))
                intro L vs w37 nb hL hC hn E37
                have e0 : vs 0 = .int .u64 (qb : Int) := hC 0 (by simp)
                have e1 : vs 1 = .int .u64 (zb : Int) := hC 1 (by simp)
                have e2 : vs 2 = .int .u64 (zb : Int) := hC 2 (by simp)
                have E : Fr w [] w37 := E37
                rw [lay_all hL]
                simp only [putAll, dstOf, List.length_cons, List.length_nil, Nat.zero_add, Nat.reduceAdd, List.getElem?_toArray, List.getElem?_cons_zero, List.getElem?_cons_succ, Option.bind_some, Act.put, List.setIfInBounds_toArray, List.set_cons_succ, List.set_cons_zero]
                rw [e0, e1, e2]
                clear e0 e1 e2 hC hn E37 hL vs L nb
                go_upto_region 26 with (fail)
                refine region_fr (C := [Fq.is (.int .u64 (rb : Int)), Fq.is (.int .u64 (y1 : Int)), Fq.is (.int .u64 (v9b : Int)), Fq.is (.int .u64 (v9b : Int))]) (ks := []) (new := []) E rfl (by kernel_rfl) rfl rfl (fun hp => ⟨?_, ?_, ?_, ?_, trivial⟩) ?_
                · exact q_moveB 3 3 hp (free_of rfl) trivial rfl rfl rfl rfl (fun _ => rfl)
                · exact q_move hp (free_of rfl) trivial (sq_out (s := 9) rfl rfl (fun _ _ => rfl))
                · exact q_two (F := fun v _ => v = .int .u64 (rb : Int)) (G := fun v _ => v = .int .u64 (y1 : Int)) hp (free_of rfl) trivial (sq_in 0 rfl rfl (by simp) rfl (fun v w h => h)) (sq_in 1 rfl rfl (by simp) rfl (fun v w h => h)) (fun ρ w hc h h' => ⟨.int .u64 (v9b : Int), by simp [execOp, go_sem, h, h', c2.out], rfl⟩)
                · exact q_assign hp (free_of rfl) trivial (sq_in 2 rfl rfl (by simp) rfl (fun v w h => h))
                intro L vs w38 nb hL hC hn E38
                have e0 : vs 0 = .int .u64 (rb : Int) := hC 0 (by simp)
                have e1 : vs 1 = .int .u64 (y1 : Int) := hC 1 (by simp)
                have e2 : vs 2 = .int .u64 (v9b : Int) := hC 2 (by simp)
                have e3 : vs 3 = .int .u64 (v9b : Int) := hC 3 (by simp)
                have E : Fr w [] w38 := E38
                rw [lay_all hL]
                simp only [putAll, dstOf, List.length_cons, List.length_nil, Nat.zero_add, Nat.reduceAdd, List.getElem?_toArray, List.getElem?_cons_zero, List.getElem?_cons_succ, Option.bind_some, Act.put, List.setIfInBounds_toArray, List.set_cons_succ, List.set_cons_zero]
                rw [e0, e1, e2, e3]
                clear e0 e1 e2 e3 hC hn E38 hL vs L nb
                clear c1 c2
                by_cases hv : 4294967296 ≤ v9b
                · have b1 := hidd (show (4294967296 : Int) ≤ (v9b : Int) by omega)
                  have DONE : Hid (zb = (F * 4294967296 + u0) / Y) := kd_big HYY.out ZE.out.1 HU2.out HB.out.1 ZE.out.2.1 hv ZE.out.2.2.1
                  clear ZE hv
                  go_upto_region 27 with (fail)
                  refine region_fr (C := [Fq.is (.int .u64 (v9b : Int)), Fq.is (.bool true)]) (ks := []) (new := []) E rfl (by kernel_rfl) rfl rfl (fun hp => ⟨?_, ?_, trivial⟩) ?_
                  · exact q_move hp (free_of rfl) trivial (sq_out (s := 16) rfl rfl (fun _ _ => rfl))
                  · exact q_one (F := fun v _ => v = .int .u64 (v9b : Int)) hp (free_of rfl) trivial (sq_in 0 rfl rfl (by simp) rfl (fun v w h => h)) (fun ρ w hc h => ⟨.bool true, by simp [execOp, go_sem, h, hc, b1.out], rfl⟩)
                  intro L vs w39 nb hL hC hn E39
                  have e0 : vs 0 = .int .u64 (v9b : Int) := hC 0 (by simp)
                  have e1 : vs 1 = .bool true := hC 1 (by simp)
                  have E : Fr w [] w39 := E39
                  rw [lay_all hL]
                  simp only [putAll, dstOf, List.length_cons, List.length_nil, Nat.zero_add, Nat.reduceAdd, List.getElem?_toArray, List.getElem?_cons_zero, List.getElem?_cons_succ, Option.bind_some, Act.put, List.setIfInBounds_toArray, List.set_cons_succ, List.set_cons_zero]
                  rw [e0, e1]
                  clear e0 e1 hC hn E39 hL vs L nb
                  clear b1
                  obtain ⟨R9, hR9⟩ : ∃ rb, rb = (F * 4294967296 + u0) % Y := ⟨_, rfl⟩
                  have K2 := kd_two (U := U) (B := 4294967296) (u := u1) (v := u0) HPOS.out.2
                  rw [← HF.out, ← DONE1.out, ← DONE.out, ← hR9] at K2
                  have HA : Hid (za * 4294967296 + zb = QA ∧ R9 / 2 ^ t = RA) := ⟨K2.1.trans HL3.out.1, by rw [K2.2]; exact HL3.out.2⟩
                  have hz1 : za < 4294967296 := by rw [DONE1.out]; exact kd_lt HU1.out (by have := HB.out; omega)
                  have hz2 : zb < 4294967296 := by rw [DONE.out]; exact kd_lt HU2.out (by have := HB.out; omega)
                  obtain ⟨G, hG⟩ : ∃ G, G = zb * Y := ⟨_, rfl⟩
                  have hdm := Nat.div_add_mod (F * 4294967296 + u0) Y
                  rw [← DONE.out, ← hR9, Nat.mul_comm, ← hG] at hdm
                  have hRY : R9 < Y := by rw [hR9]; exact Nat.mod_lt _ HPOS.out.2
                  obtain ⟨A1, hA1⟩ : ∃ A1 : Int, IntKind.u64.wrap ((za : Int) * 4294967296) = A1 := ⟨_, rfl⟩
                  obtain ⟨B1, hB1⟩ : ∃ B1 : Int, IntKind.u64.wrap ((F : Int) * 4294967296) = B1 := ⟨_, rfl⟩
                  obtain ⟨B2, hB2⟩ : ∃ B2 : Int, IntKind.u64.wrap (B1 + u0) = B2 := ⟨_, rfl⟩
                  obtain ⟨C1, hC1⟩ : ∃ C1 : Int, IntKind.u64.wrap ((zb : Int) * Y) = C1 := ⟨_, rfl⟩
                  have f1 : IntKind.u64.wrap (A1 + zb) = ((za * 4294967296 + zb : Nat) : Int) := by rw [← hA1]; simp only [u64_wrap]; omega
                  have hg2 : (zb : Int) * Y = (G : Int) := by rw [hG]; exact (Int.natCast_mul _ _).symm
                  have f2 : IntKind.u64.wrap (B2 - C1) = (R9 : Int) := by
                    rw [hg2] at hC1
                    have x3 := HB.out
                    rw [← hB2, ← hB1, ← hC1]
                    simp only [u64_wrap]
                    omega
                  have f3 : (R9 : Int) / 2 ^ s.toNat = ((R9 / 2 ^ t : Nat) : Int) := by rw [HT.out.2.1, shrN]
                  rw [HA.out.1] at f1
                  rw [HA.out.2] at f3
                  obtain ⟨RR, hRR⟩ : ∃ RR : Int, RR = (R9 : Int) := ⟨_, rfl⟩
                  rw [← hRR] at f2 f3
                  have HS0 := hidd (show 0 ≤ s ∧ s < 64 by have := HT.out; omega)
                  have W1 := hidd hA1
                  have W2 := hidd f1
                  have W3 := hidd hB1
                  have W4 := hidd hB2
                  have W5 := hidd hC1
                  have W6 := hidd f2
                  have W7 := hidd f3
                  have W8 := hidd (show ¬ s < 0 by have := HS0.out; omega)
                  clear hA1 f1 hB1 hB2 hC1 f2 f3 hg2 hdm hRY hG hz1 hz2 hR9 K2 HA hRR DONE DONE1 HL3 HYY HB HU1 HU2 HF HPOS HT
                  go_upto_region 28 with (fail)
                  refine region_fr (C := [Fq.is (.int .u64 (za : Int)), Fq.is (.int .u64 A1), Fq.is (.int .u64 (zb : Int)), Fq.is (.int .u64 (QA : Int)), Fq.is (.int .u64 (F : Int)), Fq.is (.int .u64 B1), Fq.is (.int .u64 (u0 : Int)), Fq.is (.int .u64 B2), Fq.is (.int .u64 (zb : Int)), Fq.is (.int .u64 (Y : Int)), Fq.is (.int .u64 C1), Fq.is (.int .u64 RR), Fq.is (.int .u64 s), Fq.is (.int .u64 (RA : Int)), Fq.is (.int .u64 (QA : Int)), Fq.is (.int .u64 (RA : Int))]) (ks := []) (new := []) E rfl (by kernel_rfl) rfl rfl (fun hp => ⟨?_, ?_, ?_, ?_, ?_, ?_, ?_, ?_, ?_, ?_, ?_, ?_, ?_, ?_, ?_, ?_, trivial⟩) ?_
                  · exact q_move hp (free_of rfl) trivial (sq_out (s := 15) rfl rfl (fun _ _ => rfl))
                  · exact q_one (F := fun v _ => v = .int .u64 (za : Int)) hp (free_of rfl) trivial (sq_in 0 rfl rfl (by simp) rfl (fun v w h => h)) (fun ρ w hc h => ⟨.int .u64 A1, by simp [execOp, go_sem, h, hc, W1.out], rfl⟩)
                  · exact q_move hp (free_of rfl) trivial (sq_out (s := 18) rfl rfl (fun _ _ => rfl))
                  · exact q_two (F := fun v _ => v = .int .u64 A1) (G := fun v _ => v = .int .u64 (zb : Int)) hp (free_of rfl) trivial (sq_in 1 rfl rfl (by simp) rfl (fun v w h => h)) (sq_in 2 rfl rfl (by simp) rfl (fun v w h => h)) (fun ρ w hc h h' => ⟨.int .u64 (QA : Int), by simp [execOp, go_sem, h, h', W2.out], rfl⟩)
                  · exact q_move hp (free_of rfl) trivial (sq_out (s := 17) rfl rfl (fun _ _ => rfl))
                  · exact q_one (F := fun v _ => v = .int .u64 (F : Int)) hp (free_of rfl) trivial (sq_in 4 rfl rfl (by simp) rfl (fun v w h => h)) (fun ρ w hc h => ⟨.int .u64 B1, by simp [execOp, go_sem, h, hc, W3.out], rfl⟩)
                  · exact q_move hp (free_of rfl) trivial (sq_out (s := 14) rfl rfl (fun _ _ => rfl))
                  · exact q_two (F := fun v _ => v = .int .u64 B1) (G := fun v _ => v = .int .u64 (u0 : Int)) hp (free_of rfl) trivial (sq_in 5 rfl rfl (by simp) rfl (fun v w h => h)) (sq_in 6 rfl rfl (by simp) rfl (fun v w h => h)) (fun ρ w hc h h' => ⟨.int .u64 B2, by simp [execOp, go_sem, h, h', W4.out], rfl⟩)
                  · exact q_move hp (free_of rfl) trivial (sq_out (s := 18) rfl rfl (fun _ _ => rfl))
                  · exact q_move hp (free_of rfl) trivial (sq_out (s := 2) rfl rfl (fun _ _ => rfl))
                  · exact q_two (F := fun v _ => v = .int .u64 (zb : Int)) (G := fun v _ => v = .int .u64 (Y : Int)) hp (free_of rfl) trivial (sq_in 8 rfl rfl (by simp) rfl (fun v w h => h)) (sq_in 9 rfl rfl (by simp) rfl (fun v w h => h)) (fun ρ w hc h h' => ⟨.int .u64 C1, by simp [execOp, go_sem, h, h', W5.out], rfl⟩)
                  · exact q_two (F := fun v _ => v = .int .u64 B2) (G := fun v _ => v = .int .u64 C1) hp (free_of rfl) trivial (sq_in 7 rfl rfl (by simp) rfl (fun v w h => h)) (sq_in 10 rfl rfl (by simp) rfl (fun v w h => h)) (fun ρ w hc h h' => ⟨.int .u64 RR, by simp [execOp, go_sem, h, h', W6.out], rfl⟩)
                  · exact q_move hp (free_of rfl) trivial (sq_out (s := 8) rfl rfl (fun _ _ => rfl))
                  · exact q_two (F := fun v _ => v = .int .u64 RR) (G := fun v _ => v = .int .u64 s) hp (free_of rfl) trivial (sq_in 11 rfl rfl (by simp) rfl (fun v w h => h)) (sq_in 12 rfl rfl (by simp) rfl (fun v w h => h)) (fun ρ w hc h h' => ⟨.int .u64 (RA : Int), by simp [execOp, go_sem, h, h', W7.out], rfl⟩)
                  · exact q_assign hp (free_of rfl) trivial (sq_in 3 rfl rfl (by simp) rfl (fun v w h => h))
                  · exact q_assign hp (free_of rfl) trivial (sq_in 13 rfl rfl (by simp) rfl (fun v w h => h))
                  intro L vs w40 nb hL hC hn E40
                  have e0 : vs 0 = .int .u64 (za : Int) := hC 0 (by simp)
                  have e1 : vs 1 = .int .u64 A1 := hC 1 (by simp)
                  have e2 : vs 2 = .int .u64 (zb : Int) := hC 2 (by simp)
                  have e3 : vs 3 = .int .u64 (QA : Int) := hC 3 (by simp)
                  have e4 : vs 4 = .int .u64 (F : Int) := hC 4 (by simp)
                  have e5 : vs 5 = .int .u64 B1 := hC 5 (by simp)
                  have e6 : vs 6 = .int .u64 (u0 : Int) := hC 6 (by simp)
                  have e7 : vs 7 = .int .u64 B2 := hC 7 (by simp)
                  have e8 : vs 8 = .int .u64 (zb : Int) := hC 8 (by simp)
                  have e9 : vs 9 = .int .u64 (Y : Int) := hC 9 (by simp)
                  have e10 : vs 10 = .int .u64 C1 := hC 10 (by simp)
                  have e11 : vs 11 = .int .u64 RR := hC 11 (by simp)
                  have e12 : vs 12 = .int .u64 s := hC 12 (by simp)
                  have e13 : vs 13 = .int .u64 (RA : Int) := hC 13 (by simp)
                  have e14 : vs 14 = .int .u64 (QA : Int) := hC 14 (by simp)
                  have e15 : vs 15 = .int .u64 (RA : Int) := hC 15 (by simp)
                  have E : Fr w [] w40 := E40
                  rw [lay_all hL]
                  simp only [putAll, dstOf, List.length_cons, List.length_nil, Nat.zero_add, Nat.reduceAdd, List.getElem?_toArray, List.getElem?_cons_zero, List.getElem?_cons_succ, Option.bind_some, Act.put, List.setIfInBounds_toArray, List.set_cons_succ, List.set_cons_zero]
                  rw [e0, e1, e2, e3, e4, e5, e6, e7, e8, e9, e10, e11, e12, e13, e14, e15]
                  clear e0 e1 e2 e3 e4 e5 e6 e7 e8 e9 e10 e11 e12 e13 e14 e15 hC hn E40 hL vs L nb
                  clear W1 W2 W3 W4 W5 W6 W7 W8 HS0
                  go_wp2
                  exact bodyPost_ret (v := .tuple #[.int .u64 (QA : Int), .int .u64 (RA : Int)]) (by simp [results, Tryd.results89, go_sem]) rfl ⟨rfl, E.below⟩
                · have b1 := hidd (show ¬ (4294967296 : Int) ≤ (v9b : Int) by omega)
                  have HV : Hid (v9b < 4294967296) := by show _ < _; omega
                  clear hv
                  go_upto_region 27 with (fail)
                  refine region_fr (C := [Fq.is (.int .u64 (v9b : Int)), Fq.is (.bool false)]) (ks := []) (new := []) E rfl (by kernel_rfl) rfl rfl (fun hp => ⟨?_, ?_, trivial⟩) ?_
                  · exact q_move hp (free_of rfl) trivial (sq_out (s := 16) rfl rfl (fun _ _ => rfl))
                  · exact q_one (F := fun v _ => v = .int .u64 (v9b : Int)) hp (free_of rfl) trivial (sq_in 0 rfl rfl (by simp) rfl (fun v w h => h)) (fun ρ w hc h => ⟨.bool false, by simp [execOp, go_sem, h, hc, b1.out], rfl⟩)
                  intro L vs w41 nb hL hC hn E41
                  have e0 : vs 0 = .int .u64 (v9b : Int) := hC 0 (by simp)
                  have e1 : vs 1 = .bool false := hC 1 (by simp)
                  have E : Fr w [] w41 := E41
                  rw [lay_all hL]
                  simp only [putAll, dstOf, List.length_cons, List.length_nil, Nat.zero_add, Nat.reduceAdd, List.getElem?_toArray, List.getElem?_cons_zero, List.getElem?_cons_succ, Option.bind_some, Act.put, List.setIfInBounds_toArray, List.set_cons_succ, List.set_cons_zero]
                  rw [e0, e1]
                  clear e0 e1 hC hn E41 hL vs L nb
                  clear b1
                  go_wp2
                  go_roundw
                  case rel => exact ⟨zb, v9b, rfl, rfl, ZE.out.1, ZE.out.2.1, by have := ZE.out.2.2.1; omega, HV.out, E.below⟩
                  case measure => have := ZE.out.2.2.2; simp [intOf]; omega
              · have b2 := hidd (show ¬ (S : Int) < P by omega)
                have DONE : Hid (qb = (F * 4294967296 + u0) / Y) := kd_false HYY.out X.out.1 HU2.out X.out.2.1 (by rw [← HPS.out.1, ← HPS.out.2]; omega)
                clear ht HPS X
                go_upto_region 24 with (fail)
                refine region_fr (C := [Fq.is (.int .u64 (qb : Int)), Fq.is (.bool false), Fq.is (.bool false), Fq.is (.int .u64 (qb : Int)), Fq.is (.int .u64 (y0 : Int)), Fq.is (.int .u64 (P : Int)), Fq.is (.int .u64 (rb : Int)), Fq.is (.int .u64 (N : Int)), Fq.is (.int .u64 (u0 : Int)), Fq.is (.int .u64 (S : Int)), Fq.is (.bool false), Fq.is (.bool false)]) (ks := []) (new := []) E rfl (by kernel_rfl) rfl rfl (fun hp => ⟨?_, ?_, ?_, ?_, ?_, ?_, ?_, ?_, ?_, ?_, ?_, ?_, trivial⟩) ?_
                · exact q_move hp (free_of rfl) trivial (sq_out (s := 18) rfl rfl (fun _ _ => rfl))
                · exact q_one (F := fun v _ => v = .int .u64 (qb : Int)) hp (free_of rfl) trivial (sq_in 0 rfl rfl (by simp) rfl (fun v w h => h)) (fun ρ w hc h => ⟨.bool false, by simp [execOp, go_sem, h, hc, b1.out], rfl⟩)
                · exact q_move hp (free_of rfl) trivial (sq_in 1 rfl rfl (by simp) rfl (fun v w h => h))
                · exact q_move hp (free_of rfl) (gq_some rfl rfl (by simp) rfl (fun v w h => h)) (sq_out (s := 18) rfl rfl (fun _ _ => rfl))
                · exact q_move hp (free_of rfl) (gq_some rfl rfl (by simp) rfl (fun v w h => h)) (sq_out (s := 10) rfl rfl (fun _ _ => rfl))
                · exact q_two (F := fun v _ => v = .int .u64 (qb : Int)) (G := fun v _ => v = .int .u64 (y0 : Int)) hp (free_of rfl) (gq_some rfl rfl (by simp) rfl (fun v w h => h)) (sq_in 3 rfl rfl (by simp) rfl (fun v w h => h)) (sq_in 4 rfl rfl (by simp) rfl (fun v w h => h)) (fun ρ w hc h h' => ⟨.int .u64 (P : Int), by simp [execOp, go_sem, h, h', d1.out], rfl⟩)
                · exact q_move hp (free_of rfl) (gq_some rfl rfl (by simp) rfl (fun v w h => h)) (sq_out (s := 16) rfl rfl (fun _ _ => rfl))
                · exact q_one (F := fun v _ => v = .int .u64 (rb : Int)) hp (free_of rfl) (gq_some rfl rfl (by simp) rfl (fun v w h => h)) (sq_in 6 rfl rfl (by simp) rfl (fun v w h => h)) (fun ρ w hc h => ⟨.int .u64 (N : Int), by simp [execOp, go_sem, h, hc, d2.out], rfl⟩)
                · exact q_move hp (free_of rfl) (gq_some rfl rfl (by simp) rfl (fun v w h => h)) (sq_out (s := 14) rfl rfl (fun _ _ => rfl))
                · exact q_two (F := fun v _ => v = .int .u64 (N : Int)) (G := fun v _ => v = .int .u64 (u0 : Int)) hp (free_of rfl) (gq_some rfl rfl (by simp) rfl (fun v w h => h)) (sq_in 7 rfl rfl (by simp) rfl (fun v w h => h)) (sq_in 8 rfl rfl (by simp) rfl (fun v w h => h)) (fun ρ w hc h h' => ⟨.int .u64 (S : Int), by simp [execOp, go_sem, h, h', d3.out], rfl⟩)
                · exact q_two (F := fun v _ => v = .int .u64 (P : Int)) (G := fun v _ => v = .int .u64 (S : Int)) hp (free_of rfl) (gq_some rfl rfl (by simp) rfl (fun v w h => h)) (sq_in 5 rfl rfl (by simp) rfl (fun v w h => h)) (sq_in 9 rfl rfl (by simp) rfl (fun v w h => h)) (fun ρ w hc h h' => ⟨.bool false, by simp [execOp, go_sem, h, h', b2.out], rfl⟩)
                · exact q_two (F := fun v _ => v = .bool false) (G := fun v _ => v = .bool false) hp (free_of rfl) trivial (sq_in 2 rfl rfl (by simp) rfl (fun v w h => h)) (sq_in 10 rfl rfl (by simp) rfl (fun v w h => h)) (fun ρ w hc h h' => ⟨_, by simp [execOp, go_sem, h, h'], rfl⟩)
                intro L vs w42 nb hL hC hn E42
                have e0 : vs 0 = .int .u64 (qb : Int) := hC 0 (by simp)
                have e1 : vs 1 = .bool false := hC 1 (by simp)
                have e2 : vs 2 = .bool false := hC 2 (by simp)
                have e3 : vs 3 = .int .u64 (qb : Int) := hC 3 (by simp)
                have e4 : vs 4 = .int .u64 (y0 : Int) := hC 4 (by simp)
                have e5 : vs 5 = .int .u64 (P : Int) := hC 5 (by simp)
                have e6 : vs 6 = .int .u64 (rb : Int) := hC 6 (by simp)
                have e7 : vs 7 = .int .u64 (N : Int) := hC 7 (by simp)
                have e8 : vs 8 = .int .u64 (u0 : Int) := hC 8 (by simp)
                have e9 : vs 9 = .int .u64 (S : Int) := hC 9 (by simp)
                have e10 : vs 10 = .bool false := hC 10 (by simp)
                have e11 : vs 11 = .bool false := hC 11 (by simp)
                have E : Fr w [] w42 := E42
                rw [lay_all hL]
                simp only [putAll, dstOf, List.length_cons, List.length_nil, Nat.zero_add, Nat.reduceAdd, List.getElem?_toArray, List.getElem?_cons_zero, List.getElem?_cons_succ, Option.bind_some, Act.put, List.setIfInBounds_toArray, List.set_cons_succ, List.set_cons_zero]
                rw [e0, e1, e2, e3, e4, e5, e6, e7, e8, e9, e10, e11]
                clear e0 e1 e2 e3 e4 e5 e6 e7 e8 e9 e10 e11 hC hn E42 hL vs L nb
                clear b1 b2 d1 d2 d3
                obtain ⟨R9, hR9⟩ : ∃ rb, rb = (F * 4294967296 + u0) % Y := ⟨_, rfl⟩
                have K2 := kd_two (U := U) (B := 4294967296) (u := u1) (v := u0) HPOS.out.2
                rw [← HF.out, ← DONE1.out, ← DONE.out, ← hR9] at K2
                have HA : Hid (za * 4294967296 + qb = QA ∧ R9 / 2 ^ t = RA) := ⟨K2.1.trans HL3.out.1, by rw [K2.2]; exact HL3.out.2⟩
                have hz1 : za < 4294967296 := by rw [DONE1.out]; exact kd_lt HU1.out (by have := HB.out; omega)
                have hz2 : qb < 4294967296 := by rw [DONE.out]; exact kd_lt HU2.out (by have := HB.out; omega)
                obtain ⟨G, hG⟩ : ∃ G, G = qb * Y := ⟨_, rfl⟩
                have hdm := Nat.div_add_mod (F * 4294967296 + u0) Y
                rw [← DONE.out, ← hR9, Nat.mul_comm, ← hG] at hdm
                have hRY : R9 < Y := by rw [hR9]; exact Nat.mod_lt _ HPOS.out.2
                obtain ⟨A1, hA1⟩ : ∃ A1 : Int, IntKind.u64.wrap ((za : Int) * 4294967296) = A1 := ⟨_, rfl⟩
                obtain ⟨B1, hB1⟩ : ∃ B1 : Int, IntKind.u64.wrap ((F : Int) * 4294967296) = B1 := ⟨_, rfl⟩
                obtain ⟨B2, hB2⟩ : ∃ B2 : Int, IntKind.u64.wrap (B1 + u0) = B2 := ⟨_, rfl⟩
                obtain ⟨C1, hC1⟩ : ∃ C1 : Int, IntKind.u64.wrap ((qb : Int) * Y) = C1 := ⟨_, rfl⟩
                have f1 : IntKind.u64.wrap (A1 + qb) = ((za * 4294967296 + qb : Nat) : Int) := by rw [← hA1]; simp only [u64_wrap]; omega
                have hg2 : (qb : Int) * Y = (G : Int) := by rw [hG]; exact (Int.natCast_mul _ _).symm
                have f2 : IntKind.u64.wrap (B2 - C1) = (R9 : Int) := by
                  rw [hg2] at hC1
                  have x3 := HB.out
                  rw [← hB2, ← hB1, ← hC1]
                  simp only [u64_wrap]
                  omega
                have f3 : (R9 : Int) / 2 ^ s.toNat = ((R9 / 2 ^ t : Nat) : Int) := by rw [HT.out.2.1, shrN]
                rw [HA.out.1] at f1
                rw [HA.out.2] at f3
                obtain ⟨RR, hRR⟩ : ∃ RR : Int, RR = (R9 : Int) := ⟨_, rfl⟩
                rw [← hRR] at f2 f3
                have HS0 := hidd (show 0 ≤ s ∧ s < 64 by have := HT.out; omega)
                have W1 := hidd hA1
                have W2 := hidd f1
                have W3 := hidd hB1
                have W4 := hidd hB2
                have W5 := hidd hC1
                have W6 := hidd f2
                have W7 := hidd f3
                have W8 := hidd (show ¬ s < 0 by have := HS0.out; omega)
                clear hA1 f1 hB1 hB2 hC1 f2 f3 hg2 hdm hRY hG hz1 hz2 hR9 K2 HA hRR DONE DONE1 HL3 HYY HB HU1 HU2 HF HPOS HT
                go_upto_region 28 with (fail)
                refine region_fr (C := [Fq.is (.int .u64 (za : Int)), Fq.is (.int .u64 A1), Fq.is (.int .u64 (qb : Int)), Fq.is (.int .u64 (QA : Int)), Fq.is (.int .u64 (F : Int)), Fq.is (.int .u64 B1), Fq.is (.int .u64 (u0 : Int)), Fq.is (.int .u64 B2), Fq.is (.int .u64 (qb : Int)), Fq.is (.int .u64 (Y : Int)), Fq.is (.int .u64 C1), Fq.is (.int .u64 RR), Fq.is (.int .u64 s), Fq.is (.int .u64 (RA : Int)), Fq.is (.int .u64 (QA : Int)), Fq.is (.int .u64 (RA : Int))]) (ks := []) (new := []) E rfl (by kernel_rfl) rfl rfl (fun hp => ⟨?_, ?_, ?_, ?_, ?_, ?_, ?_, ?_, ?_, ?_, ?_, ?_, ?_, ?_, ?_, ?_, trivial⟩) ?_
                · exact q_move hp (free_of rfl) trivial (sq_out (s := 15) rfl rfl (fun _ _ => rfl))
                · exact q_one (F := fun v _ => v = .int .u64 (za : Int)) hp (free_of rfl) trivial (sq_in 0 rfl rfl (by simp) rfl (fun v w h => h)) (fun ρ w hc h => ⟨.int .u64 A1, by simp [execOp, go_sem, h, hc, W1.out], rfl⟩)
                · exact q_move hp (free_of rfl) trivial (sq_out (s := 18) rfl rfl (fun _ _ => rfl))
                · exact q_two (F := fun v _ => v = .int .u64 A1) (G := fun v _ => v = .int .u64 (qb : Int)) hp (free_of rfl) trivial (sq_in 1 rfl rfl (by simp) rfl (fun v w h => h)) (sq_in 2 rfl rfl (by simp) rfl (fun v w h => h)) (fun ρ w hc h h' => ⟨.int .u64 (QA : Int), by simp [execOp, go_sem, h, h', W2.out], rfl⟩)
                · exact q_move hp (free_of rfl) trivial (sq_out (s := 17) rfl rfl (fun _ _ => rfl))
                · exact q_one (F := fun v _ => v = .int .u64 (F : Int)) hp (free_of rfl) trivial (sq_in 4 rfl rfl (by simp) rfl (fun v w h => h)) (fun ρ w hc h => ⟨.int .u64 B1, by simp [execOp, go_sem, h, hc, W3.out], rfl⟩)
                · exact q_move hp (free_of rfl) trivial (sq_out (s := 14) rfl rfl (fun _ _ => rfl))
                · exact q_two (F := fun v _ => v = .int .u64 B1) (G := fun v _ => v = .int .u64 (u0 : Int)) hp (free_of rfl) trivial (sq_in 5 rfl rfl (by simp) rfl (fun v w h => h)) (sq_in 6 rfl rfl (by simp) rfl (fun v w h => h)) (fun ρ w hc h h' => ⟨.int .u64 B2, by simp [execOp, go_sem, h, h', W4.out], rfl⟩)
                · exact q_move hp (free_of rfl) trivial (sq_out (s := 18) rfl rfl (fun _ _ => rfl))
                · exact q_move hp (free_of rfl) trivial (sq_out (s := 2) rfl rfl (fun _ _ => rfl))
                · exact q_two (F := fun v _ => v = .int .u64 (qb : Int)) (G := fun v _ => v = .int .u64 (Y : Int)) hp (free_of rfl) trivial (sq_in 8 rfl rfl (by simp) rfl (fun v w h => h)) (sq_in 9 rfl rfl (by simp) rfl (fun v w h => h)) (fun ρ w hc h h' => ⟨.int .u64 C1, by simp [execOp, go_sem, h, h', W5.out], rfl⟩)
                · exact q_two (F := fun v _ => v = .int .u64 B2) (G := fun v _ => v = .int .u64 C1) hp (free_of rfl) trivial (sq_in 7 rfl rfl (by simp) rfl (fun v w h => h)) (sq_in 10 rfl rfl (by simp) rfl (fun v w h => h)) (fun ρ w hc h h' => ⟨.int .u64 RR, by simp [execOp, go_sem, h, h', W6.out], rfl⟩)
                · exact q_move hp (free_of rfl) trivial (sq_out (s := 8) rfl rfl (fun _ _ => rfl))
                · exact q_two (F := fun v _ => v = .int .u64 RR) (G := fun v _ => v = .int .u64 s) hp (free_of rfl) trivial (sq_in 11 rfl rfl (by simp) rfl (fun v w h => h)) (sq_in 12 rfl rfl (by simp) rfl (fun v w h => h)) (fun ρ w hc h h' => ⟨.int .u64 (RA : Int), by simp [execOp, go_sem, h, h', W7.out], rfl⟩)
                · exact q_assign hp (free_of rfl) trivial (sq_in 3 rfl rfl (by simp) rfl (fun v w h => h))
                · exact q_assign hp (free_of rfl) trivial (sq_in 13 rfl rfl (by simp) rfl (fun v w h => h))
                intro L vs w43 nb hL hC hn E43
                have e0 : vs 0 = .int .u64 (za : Int) := hC 0 (by simp)
                have e1 : vs 1 = .int .u64 A1 := hC 1 (by simp)
                have e2 : vs 2 = .int .u64 (qb : Int) := hC 2 (by simp)
                have e3 : vs 3 = .int .u64 (QA : Int) := hC 3 (by simp)
                have e4 : vs 4 = .int .u64 (F : Int) := hC 4 (by simp)
                have e5 : vs 5 = .int .u64 B1 := hC 5 (by simp)
                have e6 : vs 6 = .int .u64 (u0 : Int) := hC 6 (by simp)
                have e7 : vs 7 = .int .u64 B2 := hC 7 (by simp)
                have e8 : vs 8 = .int .u64 (qb : Int) := hC 8 (by simp)
                have e9 : vs 9 = .int .u64 (Y : Int) := hC 9 (by simp)
                have e10 : vs 10 = .int .u64 C1 := hC 10 (by simp)
                have e11 : vs 11 = .int .u64 RR := hC 11 (by simp)
                have e12 : vs 12 = .int .u64 s := hC 12 (by simp)
                have e13 : vs 13 = .int .u64 (RA : Int) := hC 13 (by simp)
                have e14 : vs 14 = .int .u64 (QA : Int) := hC 14 (by simp)
                have e15 : vs 15 = .int .u64 (RA : Int) := hC 15 (by simp)
                have E : Fr w [] w43 := E43
                rw [lay_all hL]
                simp only [putAll, dstOf, List.length_cons, List.length_nil, Nat.zero_add, Nat.reduceAdd, List.getElem?_toArray, List.getElem?_cons_zero, List.getElem?_cons_succ, Option.bind_some, Act.put, List.setIfInBounds_toArray, List.set_cons_succ, List.set_cons_zero]
                rw [e0, e1, e2, e3, e4, e5, e6, e7, e8, e9, e10, e11, e12, e13, e14, e15]
                clear e0 e1 e2 e3 e4 e5 e6 e7 e8 e9 e10 e11 e12 e13 e14 e15 hC hn E43 hL vs L nb
                clear W1 W2 W3 W4 W5 W6 W7 W8 HS0
                go_wp2
                exact bodyPost_ret (v := .tuple #[.int .u64 (QA : Int), .int .u64 (RA : Int)]) (by simp [results, Tryd.results89, go_sem]) rfl ⟨rfl, E.below⟩
        · have b1 := hidd (show ¬ (4294967296 : Int) ≤ (v9a : Int) by omega)
          have HV : Hid (v9a < 4294967296) := by show _ < _; omega
          clear hv
          go_upto_region 20 with (fail)
          refine region_fr (C := [Fq.is (.int .u64 (v9a : Int)), Fq.is (.bool false)]) (ks := []) (new := []) E rfl (by kernel_rfl) rfl rfl (fun hp => ⟨?_, ?_, trivial⟩) ?_
          · exact q_move hp (free_of rfl) trivial (sq_out (s := 16) rfl rfl (fun _ _ => rfl))
          · exact q_one (F := fun v _ => v = .int .u64 (v9a : Int)) hp (free_of rfl) trivial (sq_in 0 rfl rfl (by simp) rfl (fun v w h => h)) (fun ρ w hc h => ⟨.bool false, by simp [execOp, go_sem, h, hc, b1.out], rfl⟩)
          intro L vs w44 nb hL hC hn E44
          have e0 : vs 0 = .int .u64 (v9a : Int) := hC 0 (by simp)
          have e1 : vs 1 = .bool false := hC 1 (by simp)
          have E : Fr w [] w44 := E44
          rw [lay_all hL]
          simp only [putAll, dstOf, List.length_cons, List.length_nil, Nat.zero_add, Nat.reduceAdd, List.getElem?_toArray, List.getElem?_cons_zero, List.getElem?_cons_succ, Option.bind_some, Act.put, List.setIfInBounds_toArray, List.set_cons_succ, List.set_cons_zero]
          rw [e0, e1]
          clear e0 e1 hC hn E44 hL vs L nb
          clear b1
          go_wp2
          go_roundw
          case rel => exact ⟨za, v9a, rfl, rfl, ZE.out.1, ZE.out.2.1, by have := ZE.out.2.2.1; omega, HV.out, E.below⟩
          case measure => have := ZE.out.2.2.2; simp [intOf]; omega
      · have b2 := hidd (show ¬ (S : Int) < P by omega)
        have DONE : Hid (qa = (U * 4294967296 + u1) / Y) := kd_false HYY.out X.out.1 HU1.out X.out.2.1 (by rw [← HPS.out.1, ← HPS.out.2]; omega)
        clear ht HPS X
        go_upto_region 17 with (fail)
        refine region_fr (C := [Fq.is (.int .u64 (qa : Int)), Fq.is (.bool false), Fq.is (.bool false), Fq.is (.int .u64 (qa : Int)), Fq.is (.int .u64 (y0 : Int)), Fq.is (.int .u64 (P : Int)), Fq.is (.int .u64 (ra : Int)), Fq.is (.int .u64 (N : Int)), Fq.is (.int .u64 (u1 : Int)), Fq.is (.int .u64 (S : Int)), Fq.is (.bool false), Fq.is (.bool false)]) (ks := []) (new := []) E rfl (by kernel_rfl) rfl rfl (fun hp => ⟨?_, ?_, ?_, ?_, ?_, ?_, ?_, ?_, ?_, ?_, ?_, ?_, trivial⟩) ?_
        · exact q_move hp (free_of rfl) trivial (sq_out (s := 15) rfl rfl (fun _ _ => rfl))
        · exact q_one (F := fun v _ => v = .int .u64 (qa : Int)) hp (free_of rfl) trivial (sq_in 0 rfl rfl (by simp) rfl (fun v w h => h)) (fun ρ w hc h => ⟨.bool false, by simp [execOp, go_sem, h, hc, b1.out], rfl⟩)
        · exact q_move hp (free_of rfl) trivial (sq_in 1 rfl rfl (by simp) rfl (fun v w h => h))
        · exact q_move hp (free_of rfl) (gq_some rfl rfl (by simp) rfl (fun v w h => h)) (sq_out (s := 15) rfl rfl (fun _ _ => rfl))
        · exact q_move hp (free_of rfl) (gq_some rfl rfl (by simp) rfl (fun v w h => h)) (sq_out (s := 10) rfl rfl (fun _ _ => rfl))
        · exact q_two (F := fun v _ => v = .int .u64 (qa : Int)) (G := fun v _ => v = .int .u64 (y0 : Int)) hp (free_of rfl) (gq_some rfl rfl (by simp) rfl (fun v w h => h)) (sq_in 3 rfl rfl (by simp) rfl (fun v w h => h)) (sq_in 4 rfl rfl (by simp) rfl (fun v w h => h)) (fun ρ w hc h h' => ⟨.int .u64 (P : Int), by simp [execOp, go_sem, h, h', d1.out], rfl⟩)
        · exact q_move hp (free_of rfl) (gq_some rfl rfl (by simp) rfl (fun v w h => h)) (sq_out (s := 16) rfl rfl (fun _ _ => rfl))
        · exact q_one (F := fun v _ => v = .int .u64 (ra : Int)) hp (free_of rfl) (gq_some rfl rfl (by simp) rfl (fun v w h => h)) (sq_in 6 rfl rfl (by simp) rfl (fun v w h => h)) (fun ρ w hc h => ⟨.int .u64 (N : Int), by simp [execOp, go_sem, h, hc, d2.out], rfl⟩)
        · exact q_move hp (free_of rfl) (gq_some rfl rfl (by simp) rfl (fun v w h => h)) (sq_out (s := 13) rfl rfl (fun _ _ => rfl))
        · exact q_two (F := fun v _ => v = .int .u64 (N : Int)) (G := fun v _ => v = .int .u64 (u1 : Int)) hp (free_of rfl) (gq_some rfl rfl (by simp) rfl (fun v w h => h)) (sq_in 7 rfl rfl (by simp) rfl (fun v w h => h)) (sq_in 8 rfl rfl (by simp) rfl (fun v w h => h)) (fun ρ w hc h h' => ⟨.int .u64 (S : Int), by simp [execOp, go_sem, h, h', d3.out], rfl⟩)
        · exact q_two (F := fun v _ => v = .int .u64 (P : Int)) (G := fun v _ => v = .int .u64 (S : Int)) hp (free_of rfl) (gq_some rfl rfl (by simp) rfl (fun v w h => h)) (sq_in 5 rfl rfl (by simp) rfl (fun v w h => h)) (sq_in 9 rfl rfl (by simp) rfl (fun v w h => h)) (fun ρ w hc h h' => ⟨.bool false, by simp [execOp, go_sem, h, h', b2.out], rfl⟩)
        · exact q_two (F := fun v _ => v = .bool false) (G := fun v _ => v = .bool false) hp (free_of rfl) trivial (sq_in 2 rfl rfl (by simp) rfl (fun v w h => h)) (sq_in 10 rfl rfl (by simp) rfl (fun v w h => h)) (fun ρ w hc h h' => ⟨_, by simp [execOp, go_sem, h, h'], rfl⟩)
        intro L vs w45 nb hL hC hn E45
        have e0 : vs 0 = .int .u64 (qa : Int) := hC 0 (by simp)
        have e1 : vs 1 = .bool false := hC 1 (by simp)
        have e2 : vs 2 = .bool false := hC 2 (by simp)
        have e3 : vs 3 = .int .u64 (qa : Int) := hC 3 (by simp)
        have e4 : vs 4 = .int .u64 (y0 : Int) := hC 4 (by simp)
        have e5 : vs 5 = .int .u64 (P : Int) := hC 5 (by simp)
        have e6 : vs 6 = .int .u64 (ra : Int) := hC 6 (by simp)
        have e7 : vs 7 = .int .u64 (N : Int) := hC 7 (by simp)
        have e8 : vs 8 = .int .u64 (u1 : Int) := hC 8 (by simp)
        have e9 : vs 9 = .int .u64 (S : Int) := hC 9 (by simp)
        have e10 : vs 10 = .bool false := hC 10 (by simp)
        have e11 : vs 11 = .bool false := hC 11 (by simp)
        have E : Fr w [] w45 := E45
        rw [lay_all hL]
        simp only [putAll, dstOf, List.length_cons, List.length_nil, Nat.zero_add, Nat.reduceAdd, List.getElem?_toArray, List.getElem?_cons_zero, List.getElem?_cons_succ, Option.bind_some, Act.put, List.setIfInBounds_toArray, List.set_cons_succ, List.set_cons_zero]
        rw [e0, e1, e2, e3, e4, e5, e6, e7, e8, e9, e10, e11]
        clear e0 e1 e2 e3 e4 e5 e6 e7 e8 e9 e10 e11 hC hn E45 hL vs L nb
        clear b1 b2 d1 d2 d3
        have DONE1 := DONE
        clear DONE
        obtain ⟨F, hF⟩ : ∃ F, F = (U * 4294967296 + u1) % Y := ⟨_, rfl⟩
        have HF := hidd hF
        have HU2 : Hid (F < Y) := by show _ < _; rw [hF]; exact Nat.mod_lt _ HPOS.out.2
        obtain ⟨X1, hX1⟩ : ∃ X1 : Int, IntKind.u64.wrap ((U : Int) * 4294967296) = X1 := ⟨_, rfl⟩
        obtain ⟨X2, hX2⟩ : ∃ X2 : Int, IntKind.u64.wrap (X1 + u1) = X2 := ⟨_, rfl⟩
        obtain ⟨X3, hX3⟩ : ∃ X3 : Int, IntKind.u64.wrap ((qa : Int) * Y) = X3 := ⟨_, rfl⟩
        obtain ⟨G, hG⟩ : ∃ G, G = qa * Y := ⟨_, rfl⟩
        have g1 : (qa : Int) * Y = (G : Int) := by rw [hG]; exact (Int.natCast_mul _ _).symm
        have g2 : IntKind.u64.wrap (X2 - X3) = (F : Int) := by
          have x1 := Nat.div_add_mod (U * 4294967296 + u1) Y
          rw [← DONE1.out, ← hF, Nat.mul_comm, ← hG] at x1
          have x2 := HU2.out
          have x3 := HB.out
          rw [g1] at hX3
          rw [← hX2, ← hX1, ← hX3]
          simp only [u64_wrap]
          omega
        have W1 := hidd hX1
        have W2 := hidd hX2
        have W3 := hidd hX3
        have W4 := hidd g2
        clear hF hG g1 hX1 hX2 hX3 g2
        go_upto_region 21 with (fail)
        refine region_fr (C := [Fq.is (.int .u64 (U : Int)), Fq.is (.int .u64 X1), Fq.is (.int .u64 (u1 : Int)), Fq.is (.int .u64 X2), Fq.is (.int .u64 (qa : Int)), Fq.is (.int .u64 (Y : Int)), Fq.is (.int .u64 X3), Fq.is (.int .u64 (F : Int)), Fq.is (.int .u64 (F : Int))]) (ks := []) (new := []) E rfl (by kernel_rfl) rfl rfl (fun hp => ⟨?_, ?_, ?_, ?_, ?_, ?_, ?_, ?_, ?_, trivial⟩) ?_
        · exact q_move hp (free_of rfl) trivial (sq_out (s := 11) rfl rfl (fun _ _ => rfl))
        · exact q_one (F := fun v _ => v = .int .u64 (U : Int)) hp (free_of rfl) trivial (sq_in 0 rfl rfl (by simp) rfl (fun v w h => h)) (fun ρ w hc h => ⟨.int .u64 X1, by simp [execOp, go_sem, h, hc, W1.out], rfl⟩)
        · exact q_move hp (free_of rfl) trivial (sq_out (s := 13) rfl rfl (fun _ _ => rfl))
        · exact q_two (F := fun v _ => v = .int .u64 X1) (G := fun v _ => v = .int .u64 (u1 : Int)) hp (free_of rfl) trivial (sq_in 1 rfl rfl (by simp) rfl (fun v w h => h)) (sq_in 2 rfl rfl (by simp) rfl (fun v w h => h)) (fun ρ w hc h h' => ⟨.int .u64 X2, by simp [execOp, go_sem, h, h', W2.out], rfl⟩)
        · exact q_move hp (free_of rfl) trivial (sq_out (s := 15) rfl rfl (fun _ _ => rfl))
        · exact q_move hp (free_of rfl) trivial (sq_out (s := 2) rfl rfl (fun _ _ => rfl))
        · exact q_two (F := fun v _ => v = .int .u64 (qa : Int)) (G := fun v _ => v = .int .u64 (Y : Int)) hp (free_of rfl) trivial (sq_in 4 rfl rfl (by simp) rfl (fun v w h => h)) (sq_in 5 rfl rfl (by simp) rfl (fun v w h => h)) (fun ρ w hc h h' => ⟨.int .u64 X3, by simp [execOp, go_sem, h, h', W3.out], rfl⟩)
        · exact q_two (F := fun v _ => v = .int .u64 X2) (G := fun v _ => v = .int .u64 X3) hp (free_of rfl) trivial (sq_in 3 rfl rfl (by simp) rfl (fun v w h => h)) (sq_in 6 rfl rfl (by simp) rfl (fun v w h => h)) (fun ρ w hc h h' => ⟨.int .u64 (F : Int), by simp [execOp, go_sem, h, h', W4.out], rfl⟩)
        · exact q_assign hp (free_of rfl) trivial (sq_in 7 rfl rfl (by simp) rfl (fun v w h => h))
        intro L vs w46 nb hL hC hn E46
        have e0 : vs 0 = .int .u64 (U : Int) := hC 0 (by simp)
        have e1 : vs 1 = .int .u64 X1 := hC 1 (by simp)
        have e2 : vs 2 = .int .u64 (u1 : Int) := hC 2 (by simp)
        have e3 : vs 3 = .int .u64 X2 := hC 3 (by simp)
        have e4 : vs 4 = .int .u64 (qa : Int) := hC 4 (by simp)
        have e5 : vs 5 = .int .u64 (Y : Int) := hC 5 (by simp)
        have e6 : vs 6 = .int .u64 X3 := hC 6 (by simp)
        have e7 : vs 7 = .int .u64 (F : Int) := hC 7 (by simp)
        have e8 : vs 8 = .int .u64 (F : Int) := hC 8 (by simp)
        have E : Fr w [] w46 := E46
        rw [lay_all hL]
        simp only [putAll, dstOf, List.length_cons, List.length_nil, Nat.zero_add, Nat.reduceAdd, List.getElem?_toArray, List.getElem?_cons_zero, List.getElem?_cons_succ, Option.bind_some, Act.put, List.setIfInBounds_toArray, List.set_cons_succ, List.set_cons_zero]
        rw [e0, e1, e2, e3, e4, e5, e6, e7, e8]
        clear e0 e1 e2 e3 e4 e5 e6 e7 e8 hC hn E46 hL vs L nb
        clear W1 W2 W3 W4
        obtain ⟨Q2, hQ2⟩ : ∃ qa, qa = F / y1 := ⟨_, rfl⟩
        obtain ⟨R2, hR2⟩ : ∃ ra, ra = F % y1 := ⟨_, rfl⟩
        have HQ2 : Hid (Q2 * y1 + R2 = F) := by show _ = _; rw [hQ2, hR2, Nat.mul_comm]; exact Nat.div_add_mod _ _
        have HR2 : Hid (R2 < y1) := by show _ < _; rw [hR2]; exact Nat.mod_lt _ HPOS.out.1
        have GQ2 : Hid ((F * 4294967296 + u0) / Y ≤ Q2) := by show _ ≤ _; rw [hQ2]; exact kd_start HYY.out HPOS.out.1 (by have := HB.out; omega)
        have TQ2 : Hid (Q2 ≤ 4294967297) := by show _ ≤ _; rw [hQ2]; exact kd_top HYY.out HB.out.1 (by have := HB.out; omega) HU2.out
        have DQ2 : Hid ((F : Int) / y1 = (Q2 : Int)) := by show _ = _; rw [hQ2]; exact (Int.natCast_ediv _ _).symm
        clear hQ2 hR2
        have HZ := hidd (show ¬ (y1 : Int) = 0 by have := HPOS.out; omega)
        have HZN := hidd (show ¬ y1 = 0 by have := HPOS.out; omega)
        have HQW := hidd (show IntKind.u64.wrap (Q2 : Int) = (Q2 : Int) from u64N (by have := TQ2.out; omega))
        go_upto_region 22 with (fail)
        refine region_fr (C := [Fq.is (.int .u64 (F : Int)), Fq.is (.int .u64 (y1 : Int)), Fq.is (.int .u64 (Q2 : Int)), Fq.is (.int .u64 (Q2 : Int))]) (ks := []) (new := []) E rfl (by kernel_rfl) rfl rfl (fun hp => ⟨?_, ?_, ?_, ?_, trivial⟩) ?_
        · exact q_move hp (free_of rfl) trivial (sq_out (s := 17) rfl rfl (fun _ _ => rfl))
        · exact q_move hp (free_of rfl) trivial (sq_out (s := 9) rfl rfl (fun _ _ => rfl))
        · exact q_two (F := fun v _ => v = .int .u64 (F : Int)) (G := fun v _ => v = .int .u64 (y1 : Int)) hp (free_of rfl) trivial (sq_in 0 rfl rfl (by simp) rfl (fun v w h => h)) (sq_in 1 rfl rfl (by simp) rfl (fun v w h => h)) (fun ρ w hc h h' => ⟨.int .u64 (Q2 : Int), by simp [execOp, go_sem, h, h', HZN.out, DQ2.out, HQW.out], rfl⟩)
        · exact q_assign hp (free_of rfl) trivial (sq_in 2 rfl rfl (by simp) rfl (fun v w h => h))
        intro L vs w47 nb hL hC hn E47
        have e0 : vs 0 = .int .u64 (F : Int) := hC 0 (by simp)
        have e1 : vs 1 = .int .u64 (y1 : Int) := hC 1 (by simp)
        have e2 : vs 2 = .int .u64 (Q2 : Int) := hC 2 (by simp)
        have e3 : vs 3 = .int .u64 (Q2 : Int) := hC 3 (by simp)
        have E : Fr w [] w47 := E47
        rw [lay_all hL]
        simp only [putAll, dstOf, List.length_cons, List.length_nil, Nat.zero_add, Nat.reduceAdd, List.getElem?_toArray, List.getElem?_cons_zero, List.getElem?_cons_succ, Option.bind_some, Act.put, List.setIfInBounds_toArray, List.set_cons_succ, List.set_cons_zero]
        rw [e0, e1, e2, e3]
        clear e0 e1 e2 e3 hC hn E47 hL vs L nb
        clear HZ HZN HQW DQ2
        obtain ⟨P2, hP2⟩ : ∃ P, P = Q2 * y1 := ⟨_, rfl⟩
        have W1 := hidd (show IntKind.u64.wrap ((Q2 : Int) * y1) = (P2 : Int) by rw [show (Q2 : Int) * y1 = (P2 : Int) by rw [hP2]; exact (Int.natCast_mul _ _).symm]; exact u64N (by have := HQ2.out; have := HU2.out; have := HB.out; omega))
        have W2 := hidd (show IntKind.u64.wrap ((F : Int) - P2) = (R2 : Int) by rw [show (F : Int) - P2 = (R2 : Int) by have := HQ2.out; omega]; exact u64N (by have := HR2.out; have := HB.out; omega))
        clear hP2
        go_upto_region 23 with (fail)
        refine region_fr (C := [Fq.is (.int .u64 (F : Int)), Fq.is (.int .u64 (Q2 : Int)), Fq.is (.int .u64 (y1 : Int)), Fq.is (.int .u64 (P2 : Int)), Fq.is (.int .u64 (R2 : Int)), Fq.is (.int .u64 (R2 : Int))]) (ks := []) (new := []) E rfl (by kernel_rfl) rfl rfl (fun hp => ⟨?_, ?_, ?_, ?_, ?_, ?_, trivial⟩) ?_
        · exact q_move hp (free_of rfl) trivial (sq_out (s := 17) rfl rfl (fun _ _ => rfl))
        · exact q_move hp (free_of rfl) trivial (sq_out (s := 18) rfl rfl (fun _ _ => rfl))
        · exact q_move hp (free_of rfl) trivial (sq_out (s := 9) rfl rfl (fun _ _ => rfl))
        · exact q_two (F := fun v _ => v = .int .u64 (Q2 : Int)) (G := fun v _ => v = .int .u64 (y1 : Int)) hp (free_of rfl) trivial (sq_in 1 rfl rfl (by simp) rfl (fun v w h => h)) (sq_in 2 rfl rfl (by simp) rfl (fun v w h => h)) (fun ρ w hc h h' => ⟨.int .u64 (P2 : Int), by simp [execOp, go_sem, h, h', W1.out], rfl⟩)
        · exact q_two (F := fun v _ => v = .int .u64 (F : Int)) (G := fun v _ => v = .int .u64 (P2 : Int)) hp (free_of rfl) trivial (sq_in 0 rfl rfl (by simp) rfl (fun v w h => h)) (sq_in 3 rfl rfl (by simp) rfl (fun v w h => h)) (fun ρ w hc h h' => ⟨.int .u64 (R2 : Int), by simp [execOp, go_sem, h, h', W2.out], rfl⟩)
        · exact q_assign hp (free_of rfl) trivial (sq_in 4 rfl rfl (by simp) rfl (fun v w h => h))
        intro L vs w48 nb hL hC hn E48
        have e0 : vs 0 = .int .u64 (F : Int) := hC 0 (by simp)
        have e1 : vs 1 = .int .u64 (Q2 : Int) := hC 1 (by simp)
        have e2 : vs 2 = .int .u64 (y1 : Int) := hC 2 (by simp)
        have e3 : vs 3 = .int .u64 (P2 : Int) := hC 3 (by simp)
        have e4 : vs 4 = .int .u64 (R2 : Int) := hC 4 (by simp)
        have e5 : vs 5 = .int .u64 (R2 : Int) := hC 5 (by simp)
        have E : Fr w [] w48 := E48
        rw [lay_all hL]
        simp only [putAll, dstOf, List.length_cons, List.length_nil, Nat.zero_add, Nat.reduceAdd, List.getElem?_toArray, List.getElem?_cons_zero, List.getElem?_cons_succ, Option.bind_some, Act.put, List.setIfInBounds_toArray, List.set_cons_succ, List.set_cons_zero]
        rw [e0, e1, e2, e3, e4, e5]
        clear e0 e1 e2 e3 e4 e5 hC hn E48 hL vs L nb
        clear W1 W2
        go_wp2
        go_loopw [18, 16] (fun vq vr W => ∃ qb rb : Nat, vq = .int .u64 qb ∧ vr = .int .u64 rb ∧ qb * y1 + rb = F ∧ (F * 4294967296 + u0) / Y ≤ qb ∧ qb ≤ 4294967297 ∧ rb < 4294967296 ∧ Below w.heap.size w W) (fun vq _ _ => (intOf vq).toNat)
        case atStart =>
          exact ⟨Q2, R2, rfl, rfl, HQ2.out, GQ2.out, TQ2.out, by have := HR2.out; have := HB.out; omega, E.below⟩
        case round =>
          obtain ⟨qb, rb, rfl, rfl, hq, hl, hq2, hr, hbw⟩ := hrel
          have E := fr_nil hbw
          have X := hidd (And.intro hq (And.intro hl (And.intro hq2 hr)))
          clear hq hl hq2 hr hbw HQ2 HR2 GQ2 TQ2
          by_cases hb : 4294967296 ≤ qb
          · have TT : Hid (4294967296 ≤ qb ∨ 4294967296 * rb + u0 < qb * y0) := .inl hb
            have b1 := hidd (show (4294967296 : Int) ≤ (qb : Int) by omega)
            clear hb
            go_upto_region 24 with (fail)
            refine region_fr (C := [Fq.is (.int .u64 (qb : Int)), Fq.is (.bool true), Fq.is (.bool true), Fq.is (undef), Fq.is (undef), Fq.is (undef), Fq.is (undef), Fq.is (undef), Fq.is (undef), Fq.is (undef), Fq.is (undef), Fq.is (.bool true)]) (ks := []) (new := []) E rfl (by kernel_rfl) rfl rfl (fun hp => ⟨?_, ?_, ?_, ?_, ?_, ?_, ?_, ?_, ?_, ?_, ?_, ?_, trivial⟩) ?_
            · exact q_move hp (free_of rfl) trivial (sq_out (s := 18) rfl rfl (fun _ _ => rfl))
            · exact q_one (F := fun v _ => v = .int .u64 (qb : Int)) hp (free_of rfl) trivial (sq_in 0 rfl rfl (by simp) rfl (fun v w h => h)) (fun ρ w hc h => ⟨.bool true, by simp [execOp, go_sem, h, hc, b1.out], rfl⟩)
            · exact q_move hp (free_of rfl) trivial (sq_in 1 rfl rfl (by simp) rfl (fun v w h => h))
            · exact q_skip hp (free_of rfl) rfl (gq_some rfl rfl (by simp) rfl (fun v w h => h)) (fun _ => rfl)
            · exact q_skip hp (free_of rfl) rfl (gq_some rfl rfl (by simp) rfl (fun v w h => h)) (fun _ => rfl)
            · exact q_skip hp (free_of rfl) rfl (gq_some rfl rfl (by simp) rfl (fun v w h => h)) (fun _ => rfl)
            · exact q_skip hp (free_of rfl) rfl (gq_some rfl rfl (by simp) rfl (fun v w h => h)) (fun _ => rfl)
            · exact q_skip hp (free_of rfl) rfl (gq_some rfl rfl (by simp) rfl (fun v w h => h)) (fun _ => rfl)
            · exact q_skip hp (free_of rfl) rfl (gq_some rfl rfl (by simp) rfl (fun v w h => h)) (fun _ => rfl)
            · exact q_skip hp (free_of rfl) rfl (gq_some rfl rfl (by simp) rfl (fun v w h => h)) (fun _ => rfl)
            · exact q_skip hp (free_of rfl) rfl (gq_some rfl rfl (by simp) rfl (fun v w h => h)) (fun _ => rfl)
            · exact q_two (F := fun v _ => v = .bool true) (G := fun v _ => v = .bool true) hp (free_of rfl) trivial (sq_in 2 rfl rfl (by simp) rfl (fun v w h => h)) (sq_const (fun _ => rfl)) (fun ρ w hc h h' => ⟨_, by simp [execOp, go_sem, h, h'], rfl⟩)
            intro L vs w49 nb hL hC hn E49
            have e0 : vs 0 = .int .u64 (qb : Int) := hC 0 (by simp)
            have e1 : vs 1 = .bool true := hC 1 (by simp)
            have e2 : vs 2 = .bool true := hC 2 (by simp)
            have e3 : vs 3 = undef := hC 3 (by simp)
            have e4 : vs 4 = undef := hC 4 (by simp)
            have e5 : vs 5 = undef := hC 5 (by simp)
            have e6 : vs 6 = undef := hC 6 (by simp)
            have e7 : vs 7 = undef := hC 7 (by simp)
            have e8 : vs 8 = undef := hC 8 (by simp)
            have e9 : vs 9 = undef := hC 9 (by simp)
            have e10 : vs 10 = undef := hC 10 (by simp)
            have e11 : vs 11 = .bool true := hC 11 (by simp)
            have E : Fr w [] w49 := E49
            rw [lay_all hL]
            simp only [putAll, dstOf, List.length_cons, List.length_nil, Nat.zero_add, Nat.reduceAdd, List.getElem?_toArray, List.getElem?_cons_zero, List.getElem?_cons_succ, Option.bind_some, Act.put, List.setIfInBounds_toArray, List.set_cons_succ, List.set_cons_zero]
            rw [e0, e1, e2, e3, e4, e5, e6, e7, e8, e9, e10, e11]
            clear e0 e1 e2 e3 e4 e5 e6 e7 e8 e9 e10 e11 hC hn E49 hL vs L nb
            clear b1
            have KT := kd_true HYY.out X.out.1 HU2.out (by have := HB.out; omega) TT.out
            obtain ⟨zb, hz⟩ : ∃ zb, zb = qb - 1 := ⟨_, rfl⟩
            obtain ⟨v9b, hv⟩ : ∃ v9b, v9b = rb + y1 := ⟨_, rfl⟩
            have c1 := hidd (show IntKind.u64.wrap ((qb : Int) - 1) = (zb : Int) by rw [show (qb : Int) - 1 = (zb : Int) by omega]; exact u64N (by have := X.out; omega))
            have c2 := hidd (show IntKind.u64.wrap ((rb : Int) + y1) = (v9b : Int) by rw [show (rb : Int) + y1 = (v9b : Int) by omega]; exact u64N (by have := X.out; have := HB.out; omega))
            have ZE : Hid (zb * y1 + v9b = F ∧ (F * 4294967296 + u0) / Y ≤ zb ∧ zb ≤ 4294967296 ∧ zb < qb) := by
              have x1 := X.out
              have e : qb * y1 = zb * y1 + y1 := by rw [show qb = zb + 1 by omega, Nat.add_mul, Nat.one_mul]
              refine ⟨by omega, by rw [hz]; exact KT.1, by omega, by omega⟩
            clear hz hv KT TT X
            go_upto_region 25 with (fail)
            refine region_fr (C := [Fq.is (.int .u64 (qb : Int)), Fq.is (.int .u64 (zb : Int)), Fq.is (.int .u64 (zb : Int))]) (ks := []) (new := []) E rfl (by kernel_rfl) rfl rfl (fun hp => ⟨?_, ?_, ?_, trivial⟩) ?_
            · exact q_moveB 2 3 hp (free_of rfl) trivial rfl rfl rfl rfl (fun _ => rfl)
            · exact q_one (F := fun v _ => v = .int .u64 (qb : Int)) hp (free_of rfl) trivial (sq_in 0 rfl rfl (by simp) rfl (fun v w h => h)) (fun ρ w hc h => ⟨.int .u64 (zb : Int), by simp [execOp, go_sem, h, hc, c1.out], rfl⟩)
            · exact q_assign hp (free_of rfl) trivial (sq_in 1 rfl rfl (by simp) rfl (fun v w h => h))
            intro L vs w50 nb hL hC hn E50
            have e0 : vs 0 = .int .u64 (qb : Int) := hC 0 (by simp)
            have e1 : vs 1 = .int .u64 (zb : Int) := hC 1 (by simp)
            have e2 : vs 2 = .int .u64 (zb : Int) := hC 2 (by simp)
            have E : Fr w [] w50 := E50
            rw [lay_all hL]
            simp only [putAll, dstOf, List.length_cons, List.length_nil, Nat.zero_add, Nat.reduceAdd, List.getElem?_toArray, List.getElem?_cons_zero, List.getElem?_cons_succ, Option.bind_some, Act.put, List.setIfInBounds_toArray, List.set_cons_succ, List.set_cons_zero]
            rw [e0, e1, e2]
            clear e0 e1 e2 hC hn E50 hL vs L nb
            go_upto_region 26 with (fail)
            refine region_fr (C := [Fq.is (.int .u64 (rb : Int)), Fq.is (.int .u64 (y1 : Int)), Fq.is (.int .u64 (v9b : Int)), Fq.is (.int .u64 (v9b : Int))]) (ks := []) (new := []) E rfl (by kernel_rfl) rfl rfl (fun hp => ⟨?_, ?_, ?_, ?_, trivial⟩) ?_
            · exact q_moveB 3 3 hp (free_of rfl) trivial rfl rfl rfl rfl (fun _ => rfl)
            · exact q_move hp (free_of rfl) trivial (sq_out (s := 9) rfl rfl (fun _ _ => rfl))
            · exact q_two (F := fun v _ => v = .int .u64 (rb : Int)) (G := fun v _ => v = .int .u64 (y1 : Int)) hp (free_of rfl) trivial (sq_in 0 rfl rfl (by simp) rfl (fun v w h => h)) (sq_in 1 rfl rfl (by simp) rfl (fun v w h => h)) (fun ρ w hc h h' => ⟨.int .u64 (v9b : Int), by simp [execOp, go_sem, h, h', c2.out], rfl⟩)
            · exact q_assign hp (free_of rfl) trivial (sq_in 2 rfl rfl (by simp) rfl (fun v w h => h))
            intro L vs w51 nb hL hC hn E51
            have e0 : vs 0 = .int .u64 (rb : Int) := hC 0 (by simp)
            have e1 : vs 1 = .int .u64 (y1 : Int) := hC 1 (by simp)
            have e2 : vs 2 = .int .u64 (v9b : Int) := hC 2 (by simp)
            have e3 : vs 3 = .int .u64 (v9b : Int) := hC 3 (by simp)
            have E : Fr w [] w51 := E51
            rw [lay_all hL]
            simp only [putAll, dstOf, List.length_cons, List.length_nil, Nat.zero_add, Nat.reduceAdd, List.getElem?_toArray, List.getElem?_cons_zero, List.getElem?_cons_succ, Option.bind_some, Act.put, List.setIfInBounds_toArray, List.set_cons_succ, List.set_cons_zero]
            rw [e0, e1, e2, e3]
            clear e0 e1 e2 e3 hC hn E51 hL vs L nb
            clear c1 c2
            by_cases hv : 4294967296 ≤ v9b
            · have b1 := hidd (show (4294967296 : Int) ≤ (v9b : Int) by omega)
              have DONE : Hid (zb = (F * 4294967296 + u0) / Y) := kd_big HYY.out ZE.out.1 HU2.out HB.out.1 ZE.out.2.1 hv ZE.out.2.2.1
              clear ZE hv
              go_upto_region 27 with (fail)
              refine region_fr (C := [Fq.is (.int .u64 (v9b : Int)), Fq.is (.bool true)]) (ks := []) (new := []) E rfl (by kernel_rfl) rfl rfl (fun hp => ⟨?_, ?_, trivial⟩) ?_
              · exact q_move hp (free_of rfl) trivial (sq_out (s := 16) rfl rfl (fun _ _ => rfl))
              · exact q_one (F := fun v _ => v = .int .u64 (v9b : Int)) hp (free_of rfl) trivial (sq_in 0 rfl rfl (by simp) rfl (fun v w h => h)) (fun ρ w hc h => ⟨.bool true, by simp [execOp, go_sem, h, hc, b1.out], rfl⟩)
              intro L vs w52 nb hL hC hn E52
              have e0 : vs 0 = .int .u64 (v9b : Int) := hC 0 (by simp)
              have e1 : vs 1 = .bool true := hC 1 (by simp)
              have E : Fr w [] w52 := E52
              rw [lay_all hL]
              simp only [putAll, dstOf, List.length_cons, List.length_nil, Nat.zero_add, Nat.reduceAdd, List.getElem?_toArray, List.getElem?_cons_zero, List.getElem?_cons_succ, Option.bind_some, Act.put, List.setIfInBounds_toArray, List.set_cons_succ, List.set_cons_zero]
              rw [e0, e1]
              clear e0 e1 hC hn E52 hL vs L nb
              clear b1
              obtain ⟨R9, hR9⟩ : ∃ rb, rb = (F * 4294967296 + u0) % Y := ⟨_, rfl⟩
              have K2 := kd_two (U := U) (B := 4294967296) (u := u1) (v := u0) HPOS.out.2
              rw [← HF.out, ← DONE1.out, ← DONE.out, ← hR9] at K2
              have HA : Hid (qa * 4294967296 + zb = QA ∧ R9 / 2 ^ t = RA) := ⟨K2.1.trans HL3.out.1, by rw [K2.2]; exact HL3.out.2⟩
              have hz1 : qa < 4294967296 := by rw [DONE1.out]; exact kd_lt HU1.out (by have := HB.out; omega)
              have hz2 : zb < 4294967296 := by rw [DONE.out]; exact kd_lt HU2.out (by have := HB.out; omega)
              obtain ⟨G, hG⟩ : ∃ G, G = zb * Y := ⟨_, rfl⟩
              have hdm := Nat.div_add_mod (F * 4294967296 + u0) Y
              rw [← DONE.out, ← hR9, Nat.mul_comm, ← hG] at hdm
              have hRY : R9 < Y := by rw [hR9]; exact Nat.mod_lt _ HPOS.out.2
              obtain ⟨A1, hA1⟩ : ∃ A1 : Int, IntKind.u64.wrap ((qa : Int) * 4294967296) = A1 := ⟨_, rfl⟩
              obtain ⟨B1, hB1⟩ : ∃ B1 : Int, IntKind.u64.wrap ((F : Int) * 4294967296) = B1 := ⟨_, rfl⟩
              obtain ⟨B2, hB2⟩ : ∃ B2 : Int, IntKind.u64.wrap (B1 + u0) = B2 := ⟨_, rfl⟩
              obtain ⟨C1, hC1⟩ : ∃ C1 : Int, IntKind.u64.wrap ((zb : Int) * Y) = C1 := ⟨_, rfl⟩
              have f1 : IntKind.u64.wrap (A1 + zb) = ((qa * 4294967296 + zb : Nat) : Int) := by rw [← hA1]; simp only [u64_wrap]; omega
              have hg2 : (zb : Int) * Y = (G : Int) := by rw [hG]; exact (Int.natCast_mul _ _).symm
              have f2 : IntKind.u64.wrap (B2 - C1) = (R9 : Int) := by
                rw [hg2] at hC1
                have x3 := HB.out
                rw [← hB2, ← hB1, ← hC1]
                simp only [u64_wrap]
                omega
              have f3 : (R9 : Int) / 2 ^ s.toNat = ((R9 / 2 ^ t : Nat) : Int) := by rw [HT.out.2.1, shrN]
              rw [HA.out.1] at f1
              rw [HA.out.2] at f3
              obtain ⟨RR, hRR⟩ : ∃ RR : Int, RR = (R9 : Int) := ⟨_, rfl⟩
              rw [← hRR] at f2 f3
              have HS0 := hidd (show 0 ≤ s ∧ s < 64 by have := HT.out; omega)
              have W1 := hidd hA1
              have W2 := hidd f1
              have W3 := hidd hB1
              have W4 := hidd hB2
              have W5 := hidd hC1
              have W6 := hidd f2
              have W7 := hidd f3
              have W8 := hidd (show ¬ s < 0 by have := HS0.out; omega)
              clear hA1 f1 hB1 hB2 hC1 f2 f3 hg2 hdm hRY hG hz1 hz2 hR9 K2 HA hRR DONE DONE1 HL3 HYY HB HU1 HU2 HF HPOS HT
              go_upto_region 28 with (fail)
              refine region_fr (C := [Fq.is (.int .u64 (qa : Int)), Fq.is (.int .u64 A1), Fq.is (.int .u64 (zb : Int)), Fq.is (.int .u64 (QA : Int)), Fq.is (.int .u64 (F : Int)), Fq.is (.int .u64 B1), Fq.is (.int .u64 (u0 : Int)), Fq.is (.int .u64 B2), Fq.is (.int .u64 (zb : Int)), Fq.is (.int .u64 (Y : Int)), Fq.is (.int .u64 C1), Fq.is (.int .u64 RR), Fq.is (.int .u64 s), Fq.is (.int .u64 (RA : Int)), Fq.is (.int .u64 (QA : Int)), Fq.is (.int .u64 (RA : Int))]) (ks := []) (new := []) E rfl (by kernel_rfl) rfl rfl (fun hp => ⟨?_, ?_, ?_, ?_, ?_, ?_, ?_, ?_, ?_, ?_, ?_, ?_, ?_, ?_, ?_, ?_, trivial⟩) ?_
              · exact q_move hp (free_of rfl) trivial (sq_out (s := 15) rfl rfl (fun _ _ => rfl))
              · exact q_one (F := fun v _ => v = .int .u64 (qa : Int)) hp (free_of rfl) trivial (sq_in 0 rfl rfl (by simp) rfl (fun v w h => h)) (fun ρ w hc h => ⟨.int .u64 A1, by simp [execOp, go_sem, h, hc, W1.out], rfl⟩)
              · exact q_move hp (free_of rfl) trivial (sq_out (s := 18) rfl rfl (fun _ _ => rfl))
              · exact q_two (F := fun v _ => v = .int .u64 A1) (G := fun v _ => v = .int .u64 (zb : Int)) hp (free_of rfl) trivial (sq_in 1 rfl rfl (by simp) rfl (fun v w h => h)) (sq_in 2 rfl rfl (by simp) rfl (fun v w h => h)) (fun ρ w hc h h' => ⟨.int .u64 (QA : Int), by simp [execOp, go_sem, h, h', W2.out], rfl⟩)
              · exact q_move hp (free_of rfl) trivial (sq_out (s := 17) rfl rfl (fun _ _ => rfl))
              · exact q_one (F := fun v _ => v = .int .u64 (F : Int)) hp (free_of rfl) trivial (sq_in 4 rfl rfl (by simp) rfl (fun v w h => h)) (fun ρ w hc h => ⟨.int .u64 B1, by simp [execOp, go_sem, h, hc, W3.out], rfl⟩)
              · exact q_move hp (free_of rfl) trivial (sq_out (s := 14) rfl rfl (fun _ _ => rfl))
              · exact q_two (F := fun v _ => v = .int .u64 B1) (G := fun v _ => v = .int .u64 (u0 : Int)) hp (free_of rfl) trivial (sq_in 5 rfl rfl (by simp) rfl (fun v w h => h)) (sq_in 6 rfl rfl (by simp) rfl (fun v w h => h)) (fun ρ w hc h h' => ⟨.int .u64 B2, by simp [execOp, go_sem, h, h', W4.out], rfl⟩)
              · exact q_move hp (free_of rfl) trivial (sq_out (s := 18) rfl rfl (fun _ _ => rfl))
              · exact q_move hp (free_of rfl) trivial (sq_out (s := 2) rfl rfl (fun _ _ => rfl))
              · exact q_two (F := fun v _ => v = .int .u64 (zb : Int)) (G := fun v _ => v = .int .u64 (Y : Int)) hp (free_of rfl) trivial (sq_in 8 rfl rfl (by simp) rfl (fun v w h => h)) (sq_in 9 rfl rfl (by simp) rfl (fun v w h => h)) (fun ρ w hc h h' => ⟨.int .u64 C1, by simp [execOp, go_sem, h, h', W5.out], rfl⟩)
              · exact q_two (F := fun v _ => v = .int .u64 B2) (G := fun v _ => v = .int .u64 C1) hp (free_of rfl) trivial (sq_in 7 rfl rfl (by simp) rfl (fun v w h => h)) (sq_in 10 rfl rfl (by simp) rfl (fun v w h => h)) (fun ρ w hc h h' => ⟨.int .u64 RR, by simp [execOp, go_sem, h, h', W6.out], rfl⟩)
              · exact q_move hp (free_of rfl) trivial (sq_out (s := 8) rfl rfl (fun _ _ => rfl))
              · exact q_two (F := fun v _ => v = .int .u64 RR) (G := fun v _ => v = .int .u64 s) hp (free_of rfl) trivial (sq_in 11 rfl rfl (by simp) rfl (fun v w h => h)) (sq_in 12 rfl rfl (by simp) rfl (fun v w h => h)) (fun ρ w hc h h' => ⟨.int .u64 (RA : Int), by simp [execOp, go_sem, h, h', W7.out], rfl⟩)
              · exact q_assign hp (free_of rfl) trivial (sq_in 3 rfl rfl (by simp) rfl (fun v w h => h))
              · exact q_assign hp (free_of rfl) trivial (sq_in 13 rfl rfl (by simp) rfl (fun v w h => h))
              intro L vs w53 nb hL hC hn E53
              have e0 : vs 0 = .int .u64 (qa : Int) := hC 0 (by simp)
              have e1 : vs 1 = .int .u64 A1 := hC 1 (by simp)
              have e2 : vs 2 = .int .u64 (zb : Int) := hC 2 (by simp)
              have e3 : vs 3 = .int .u64 (QA : Int) := hC 3 (by simp)
              have e4 : vs 4 = .int .u64 (F : Int) := hC 4 (by simp)
              have e5 : vs 5 = .int .u64 B1 := hC 5 (by simp)
              have e6 : vs 6 = .int .u64 (u0 : Int) := hC 6 (by simp)
              have e7 : vs 7 = .int .u64 B2 := hC 7 (by simp)
              have e8 : vs 8 = .int .u64 (zb : Int) := hC 8 (by simp)
              have e9 : vs 9 = .int .u64 (Y : Int) := hC 9 (by simp)
              have e10 : vs 10 = .int .u64 C1 := hC 10 (by simp)
              have e11 : vs 11 = .int .u64 RR := hC 11 (by simp)
              have e12 : vs 12 = .int .u64 s := hC 12 (by simp)
              have e13 : vs 13 = .int .u64 (RA : Int) := hC 13 (by simp)
              have e14 : vs 14 = .int .u64 (QA : Int) := hC 14 (by simp)
              have e15 : vs 15 = .int .u64 (RA : Int) := hC 15 (by simp)
              have E : Fr w [] w53 := E53
              rw [lay_all hL]
              simp only [putAll, dstOf, List.length_cons, List.length_nil, Nat.zero_add, Nat.reduceAdd, List.getElem?_toArray, List.getElem?_cons_zero, List.getElem?_cons_succ, Option.bind_some, Act.put, List.setIfInBounds_toArray, List.set_cons_succ, List.set_cons_zero]
              rw [e0, e1, e2, e3, e4, e5, e6, e7, e8, e9, e10, e11, e12, e13, e14, e15]
              clear e0 e1 e2 e3 e4 e5 e6 e7 e8 e9 e10 e11 e12 e13 e14 e15 hC hn E53 hL vs L nb
              clear W1 W2 W3 W4 W5 W6 W7 W8 HS0
              go_wp2
              exact bodyPost_ret (v := .tuple #[.int .u64 (QA : Int), .int .u64 (RA : Int)]) (by simp [results, Tryd.results89, go_sem]) rfl ⟨rfl, E.below⟩
            · have b1 := hidd (show ¬ (4294967296 : Int) ≤ (v9b : Int) by omega)
              have HV : Hid (v9b < 4294967296) := by show _ < _; omega
              clear hv
              go_upto_region 27 with (fail)
              refine region_fr (C := [Fq.is (.int .u64 (v9b : Int)), Fq.is (.bool false)]) (ks := []) (new := []) E rfl (by kernel_rfl) rfl rfl (fun hp => ⟨?_, ?_, trivial⟩) ?_
              · exact q_move hp (free_of rfl) trivial (sq_out (s := 16) rfl rfl (fun _ _ => rfl))
              · exact q_one (F := fun v _ => v = .int .u64 (v9b : Int)) hp (free_of rfl) trivial (sq_in 0 rfl rfl (by simp) rfl (fun v w h => h)) (fun ρ w hc h => ⟨.bool false, by simp [execOp, go_sem, h, hc, b1.out], rfl⟩)
              intro L vs w54 nb hL hC hn E54
              have e0 : vs 0 = .int .u64 (v9b : Int) := hC 0 (by simp)
              have e1 : vs 1 = .bool false := hC 1 (by simp)
              have E : Fr w [] w54 := E54
              rw [lay_all hL]
              simp only [putAll, dstOf, List.length_cons, List.length_nil, Nat.zero_add, Nat.reduceAdd, List.getElem?_toArray, List.getElem?_cons_zero, List.getElem?_cons_succ, Option.bind_some, Act.put, List.setIfInBounds_toArray, List.set_cons_succ, List.set_cons_zero]
              rw [e0, e1]
              clear e0 e1 hC hn E54 hL vs L nb
              clear b1
              go_wp2
              go_roundw
              case rel => exact ⟨zb, v9b, rfl, rfl, ZE.out.1, ZE.out.2.1, by have := ZE.out.2.2.1; omega, HV.out, E.below⟩
              case measure => have := ZE.out.2.2.2; simp [intOf]; omega
          · have b1 := hidd (show ¬ (4294967296 : Int) ≤ (qb : Int) by omega)
            obtain ⟨P, hP⟩ : ∃ P, P = qb * y0 := ⟨_, rfl⟩
            obtain ⟨S, hS⟩ : ∃ S, S = 4294967296 * rb + u0 := ⟨_, rfl⟩
            obtain ⟨N, hN⟩ : ∃ N, N = 4294967296 * rb := ⟨_, rfl⟩
            have hPb : P < 18446744073709551616 := by
              rw [hP]
              have h1 := Nat.mul_le_mul (show qb ≤ 4294967295 by omega) (show y0 ≤ 4294967295 by have := HB.out; omega)
              omega
            have d1 := hidd (show IntKind.u64.wrap ((qb : Int) * y0) = (P : Int) by rw [show (qb : Int) * y0 = (P : Int) by rw [hP]; exact (Int.natCast_mul _ _).symm]; exact u64N hPb)
            have d2 := hidd (show IntKind.u64.wrap (4294967296 * (rb : Int)) = (N : Int) by rw [show 4294967296 * (rb : Int) = (N : Int) by omega]; exact u64N (by have := X.out; omega))
            have d3 := hidd (show IntKind.u64.wrap ((N : Int) + u0) = (S : Int) by rw [show (N : Int) + u0 = (S : Int) by omega]; exact u64N (by have := X.out; have := HB.out; omega))
            have HPS := hidd (And.intro hP hS)
            clear hP hS hN hPb hb
            by_cases ht : S < P
            · have b2 := hidd (show (S : Int) < P by omega)
              have TT : Hid (4294967296 ≤ qb ∨ 4294967296 * rb + u0 < qb * y0) := .inr (by rw [← HPS.out.1, ← HPS.out.2]; exact ht)
              clear ht HPS
              go_upto_region 24 with (fail)
              refine region_fr (C := [Fq.is (.int .u64 (qb : Int)), Fq.is (.bool false), Fq.is (.bool false), Fq.is (.int .u64 (qb : Int)), Fq.is (.int .u64 (y0 : Int)), Fq.is (.int .u64 (P : Int)), Fq.is (.int .u64 (rb : Int)), Fq.is (.int .u64 (N : Int)), Fq.is (.int .u64 (u0 : Int)), Fq.is (.int .u64 (S : Int)), Fq.is (.bool true), Fq.is (.bool true)]) (ks := []) (new := []) E rfl (by kernel_rfl) rfl rfl (fun hp => ⟨?_, ?_, ?_, ?_, ?_, ?_, ?_, ?_, ?_, ?_, ?_, ?_, trivial⟩) ?_
              · exact q_move hp (free_of rfl) trivial (sq_out (s := 18) rfl rfl (fun _ _ => rfl))
              · exact q_one (F := fun v _ => v = .int .u64 (qb : Int)) hp (free_of rfl) trivial (sq_in 0 rfl rfl (by simp) rfl (fun v w h => h)) (fun ρ w hc h => ⟨.bool false, by simp [execOp, go_sem, h, hc, b1.out], rfl⟩)
              · exact q_move hp (free_of rfl) trivial (sq_in 1 rfl rfl (by simp) rfl (fun v w h => h))
              · exact q_move hp (free_of rfl) (gq_some rfl rfl (by simp) rfl (fun v w h => h)) (sq_out (s := 18) rfl rfl (fun _ _ => rfl))
              · exact q_move hp (free_of rfl) (gq_some rfl rfl (by simp) rfl (fun v w h => h)) (sq_out (s := 10) rfl rfl (fun _ _ => rfl))
              · exact q_two (F := fun v _ => v = .int .u64 (qb : Int)) (G := fun v _ => v = .int .u64 (y0 : Int)) hp (free_of rfl) (gq_some rfl rfl (by simp) rfl (fun v w h => h)) (sq_in 3 rfl rfl (by simp) rfl (fun v w h => h)) (sq_in 4 rfl rfl (by simp) rfl (fun v w h => h)) (fun ρ w hc h h' => ⟨.int .u64 (P : Int), by simp [execOp, go_sem, h, h', d1.out], rfl⟩)
              · exact q_move hp (free_of rfl) (gq_some rfl rfl (by simp) rfl (fun v w h => h)) (sq_out (s := 16) rfl rfl (fun _ _ => rfl))
              · exact q_one (F := fun v _ => v = .int .u64 (rb : Int)) hp (free_of rfl) (gq_some rfl rfl (by simp) rfl (fun v w h => h)) (sq_in 6 rfl rfl (by simp) rfl (fun v w h => h)) (fun ρ w hc h => ⟨.int .u64 (N : Int), by simp [execOp, go_sem, h, hc, d2.out], rfl⟩)
              · exact q_move hp (free_of rfl) (gq_some rfl rfl (by simp) rfl (fun v w h => h)) (sq_out (s := 14) rfl rfl (fun _ _ => rfl))
              · exact q_two (F := fun v _ => v = .int .u64 (N : Int)) (G := fun v _ => v = .int .u64 (u0 : Int)) hp (free_of rfl) (gq_some rfl rfl (by simp) rfl (fun v w h => h)) (sq_in 7 rfl rfl (by simp) rfl (fun v w h => h)) (sq_in 8 rfl rfl (by simp) rfl (fun v w h => h)) (fun ρ w hc h h' => ⟨.int .u64 (S : Int), by simp [execOp, go_sem, h, h', d3.out], rfl⟩)
              · exact q_two (F := fun v _ => v = .int .u64 (P : Int)) (G := fun v _ => v = .int .u64 (S : Int)) hp (free_of rfl) (gq_some rfl rfl (by simp) rfl (fun v w h => h)) (sq_in 5 rfl rfl (by simp) rfl (fun v w h => h)) (sq_in 9 rfl rfl (by simp) rfl (fun v w h => h)) (fun ρ w hc h h' => ⟨.bool true, by simp [execOp, go_sem, h, h', b2.out], rfl⟩)
              · exact q_two (F := fun v _ => v = .bool false) (G := fun v _ => v = .bool true) hp (free_of rfl) trivial (sq_in 2 rfl rfl (by simp) rfl (fun v w h => h)) (sq_in 10 rfl rfl (by simp) rfl (fun v w h => h)) (fun ρ w hc h h' => ⟨_, by simp [execOp, go_sem, h, h'], rfl⟩)
              intro L vs w55 nb hL hC hn E55
              have e0 : vs 0 = .int .u64 (qb : Int) := hC 0 (by simp)
              have e1 : vs 1 = .bool false := hC 1 (by simp)
              have e2 : vs 2 = .bool false := hC 2 (by simp)
              have e3 : vs 3 = .int .u64 (qb : Int) := hC 3 (by simp)
              have e4 : vs 4 = .int .u64 (y0 : Int) := hC 4 (by simp)
              have e5 : vs 5 = .int .u64 (P : Int) := hC 5 (by simp)
              have e6 : vs 6 = .int .u64 (rb : Int) := hC 6 (by simp)
              have e7 : vs 7 = .int .u64 (N : Int) := hC 7 (by simp)
              have e8 : vs 8 = .int .u64 (u0 : Int) := hC 8 (by simp)
              have e9 : vs 9 = .int .u64 (S : Int) := hC 9 (by simp)
              have e10 : vs 10 = .bool true := hC 10 (by simp)
              have e11 : vs 11 = .bool true := hC 11 (by simp)
              have E : Fr w [] w55 := E55
              rw [lay_all hL]
              simp only [putAll, dstOf, List.length_cons, List.length_nil, Nat.zero_add, Nat.reduceAdd, List.getElem?_toArray, List.getElem?_cons_zero, List.getElem?_cons_succ, Option.bind_some, Act.put, List.setIfInBounds_toArray, List.set_cons_succ, List.set_cons_zero]
              rw [e0, e1, e2, e3, e4, e5, e6, e7, e8, e9, e10, e11]
              clear e0 e1 e2 e3 e4 e5 e6 e7 e8 e9 e10 e11 hC hn E55 hL vs L nb
              clear b1 b2 d1 d2 d3
              have KT := kd_true HYY.out X.out.1 HU2.out (by have := HB.out; omega) TT.out
              obtain ⟨zb, hz⟩ : ∃ zb, zb = qb - 1 := ⟨_, rfl⟩
              obtain ⟨v9b, hv⟩ : ∃ v9b, v9b = rb + y1 := ⟨_, rfl⟩
              have c1 := hidd (show IntKind.u64.wrap ((qb : Int) - 1) = (zb : Int) by rw [show (qb : Int) - 1 = (zb : Int) by omega]; exact u64N (by have := X.out; omega))
              have c2 := hidd (show IntKind.u64.wrap ((rb : Int) + y1) = (v9b : Int) by rw [show (rb : Int) + y1 = (v9b : Int) by omega]; exact u64N (by have := X.out; have := HB.out; omega))
              have ZE : Hid (zb * y1 + v9b = F ∧ (F * 4294967296 + u0) / Y ≤ zb ∧ zb ≤ 4294967296 ∧ zb < qb) := by
                have x1 := X.out
                have e : qb * y1 = zb * y1 + y1 := by rw [show qb = zb + 1 by omega, Nat.add_mul, Nat.one_mul]
                refine ⟨by omega, by rw [hz]; exact KT.1, by omega, by omega⟩
              clear hz hv KT TT X
              go_upto_region 25 with (fail)
              refine region_fr (C := [Fq.is (.int .u64 (qb : Int)), Fq.is (.int .u64 (zb : Int)), Fq.is (.int .u64 (zb : Int))]) (ks := []) (new := []) E rfl (by kernel_rfl) rfl rfl (fun hp => ⟨?_, ?_, ?_, trivial⟩) ?_
              · exact q_moveB 2 3 hp (free_of rfl) trivial rfl rfl rfl rfl (fun _ => rfl)
              · exact q_one (F := fun v _ => v = .int .u64 (qb : Int)) hp (free_of rfl) trivial (sq_in 0 rfl rfl (by simp) rfl (fun v w h => h)) (fun ρ w hc h => ⟨.int .u64 (zb : Int), by simp [execOp, go_sem, h, hc, c1.out], rfl⟩)
              · exact q_assign hp (free_of rfl) trivial (sq_in 1 rfl rfl (by simp) rfl (fun v w h => h))
              intro L vs w56 nb hL hC hn E56
              have e0 : vs 0 = .int .u64 (qb : Int) := hC 0 (by simp)
              have e1 : vs 1 = .int .u64 (zb : Int) := hC 1 (by simp)
              have e2 : vs 2 = .int .u64 (zb : Int) := hC 2 (by simp)
              have E : Fr w [] w56 := E56
              rw [lay_all hL]
              simp only [putAll, dstOf, List.length_cons, List.length_nil, Nat.zero_add, Nat.reduceAdd, List.getElem?_toArray, List.getElem?_cons_zero, List.getElem?_cons_succ, Option.bind_some, Act.put, List.setIfInBounds_toArray, List.set_cons_succ, List.set_cons_zero]
              rw [e0, e1, e2]
              clear e0 e1 e2 hC hn E56 hL vs L nb
              go_upto_region 26 with (fail)
              refine region_fr (C := [Fq.is (.int .u64 (rb : Int)), Fq.is (.int .u64 (y1 : Int)), Fq.is (.int .u64 (v9b : Int)), Fq.is (.int .u64 (v9b : Int))]) (ks := []) (new := []) E rfl (by kernel_rfl) rfl rfl (fun hp => ⟨?_, ?_, ?_, ?_, trivial⟩) ?_
              · exact q_moveB 3 3 hp (free_of rfl) trivial rfl rfl rfl rfl (fun _ => rfl)
              · exact q_move hp (free_of rfl) trivial (sq_out (s := 9) rfl rfl (fun _ _ => rfl))
              · exact q_two (F := fun v _ => v = .int .u64 (rb : Int)) (G := fun v _ => v = .int .u64 (y1 : Int)) hp (free_of rfl) trivial (sq_in 0 rfl rfl (by simp) rfl (fun v w h => h)) (sq_in 1 rfl rfl (by simp) rfl (fun v w h => h)) (fun ρ w hc h h' => ⟨.int .u64 (v9b : Int), by simp [execOp, go_sem, h, h', c2.out], rfl⟩)
              · exact q_assign hp (free_of rfl) trivial (sq_in 2 rfl rfl (by simp) rfl (fun v w h => h))
              intro L vs w57 nb hL hC hn E57
              have e0 : vs 0 = .int .u64 (rb : Int) := hC 0 (by simp)
              have e1 : vs 1 = .int .u64 (y1 : Int) := hC 1 (by simp)
              have e2 : vs 2 = .int .u64 (v9b : Int) := hC 2 (by simp)
              have e3 : vs 3 = .int .u64 (v9b : Int) := hC 3 (by simp)
              have E : Fr w [] w57 := E57
              rw [lay_all hL]
              simp only [putAll, dstOf, List.length_cons, List.length_nil, Nat.zero_add, Nat.reduceAdd, List.getElem?_toArray, List.getElem?_cons_zero, List.getElem?_cons_succ, Option.bind_some, Act.put, List.setIfInBounds_toArray, List.set_cons_succ, List.set_cons_zero]
              rw [e0, e1, e2, e3]
              clear e0 e1 e2 e3 hC hn E57 hL vs L nb
              clear c1 c2
              by_cases hv : 4294967296 ≤ v9b
              · have b1 := hidd (show (4294967296 : Int) ≤ (v9b : Int) by omega)
                have DONE : Hid (zb = (F * 4294967296 + u0) / Y) := kd_big HYY.out ZE.out.1 HU2.out HB.out.1 ZE.out.2.1 hv ZE.out.2.2.1
                clear ZE hv
                go_upto_region 27 with (fail)
                refine region_fr (C := [Fq.is (.int .u64 (v9b : Int)), Fq.is (.bool true)]) (ks := []) (new := []) E rfl (by kernel_rfl) rfl rfl (fun hp => ⟨?_, ?_, trivial⟩) ?_
                · exact q_move hp (free_of rfl) trivial (sq_out (s := 16) rfl rfl (fun _ _ => rfl))
                · exact q_one (F := fun v _ => v = .int .u64 (v9b : Int)) hp (free_of rfl) trivial (sq_in 0 rfl rfl (by simp) rfl (fun v w h => h)) (fun ρ w hc h => ⟨.bool true, by simp [execOp, go_sem, h, hc, b1.out], rfl⟩)
                intro L vs w58 nb hL hC hn E58
                have e0 : vs 0 = .int .u64 (v9b : Int) := hC 0 (by simp)
                have e1 : vs 1 = .bool true := hC 1 (by simp)
                have E : Fr w [] w58 := E58
                rw [lay_all hL]
                simp only [putAll, dstOf, List.length_cons, List.length_nil, Nat.zero_add, Nat.reduceAdd, List.getElem?_toArray, List.getElem?_cons_zero, List.getElem?_cons_succ, Option.bind_some, Act.put, List.setIfInBounds_toArray, List.set_cons_succ, List.set_cons_zero]
                rw [e0, e1]
                clear e0 e1 hC hn E58 hL vs L nb
                clear b1
                obtain ⟨R9, hR9⟩ : ∃ rb, rb = (F * 4294967296 + u0) % Y := ⟨_, rfl⟩
                have K2 := kd_two (U := U) (B := 4294967296) (u := u1) (v := u0) HPOS.out.2
                rw [← HF.out, ← DONE1.out, ← DONE.out, ← hR9] at K2
                have HA : Hid (qa * 4294967296 + zb = QA ∧ R9 / 2 ^ t = RA) := ⟨K2.1.trans HL3.out.1, by rw [K2.2]; exact HL3.out.2⟩
                have hz1 : qa < 4294967296 := by rw [DONE1.out]; exact kd_lt HU1.out (by have := HB.out; omega)
                have hz2 : zb < 4294967296 := by rw [DONE.out]; exact kd_lt HU2.out (by have := HB.out; omega)
                obtain ⟨G, hG⟩ : ∃ G, G = zb * Y := ⟨_, rfl⟩
                have hdm := Nat.div_add_mod (F * 4294967296 + u0) Y
                rw [← DONE.out, ← hR9, Nat.mul_comm, ← hG] at hdm
                have hRY : R9 < Y := by rw [hR9]; exact Nat.mod_lt _ HPOS.out.2
                obtain ⟨A1, hA1⟩ : ∃ A1 : Int, IntKind.u64.wrap ((qa : Int) * 4294967296) = A1 := ⟨_, rfl⟩
                obtain ⟨B1, hB1⟩ : ∃ B1 : Int, IntKind.u64.wrap ((F : Int) * 4294967296) = B1 := ⟨_, rfl⟩
                obtain ⟨B2, hB2⟩ : ∃ B2 : Int, IntKind.u64.wrap (B1 + u0) = B2 := ⟨_, rfl⟩
                obtain ⟨C1, hC1⟩ : ∃ C1 : Int, IntKind.u64.wrap ((zb : Int) * Y) = C1 := ⟨_, rfl⟩
                have f1 : IntKind.u64.wrap (A1 + zb) = ((qa * 4294967296 + zb : Nat) : Int) := by rw [← hA1]; simp only [u64_wrap]; omega
                have hg2 : (zb : Int) * Y = (G : Int) := by rw [hG]; exact (Int.natCast_mul _ _).symm
                have f2 : IntKind.u64.wrap (B2 - C1) = (R9 : Int) := by
                  rw [hg2] at hC1
                  have x3 := HB.out
                  rw [← hB2, ← hB1, ← hC1]
                  simp only [u64_wrap]
                  omega
                have f3 : (R9 : Int) / 2 ^ s.toNat = ((R9 / 2 ^ t : Nat) : Int) := by rw [HT.out.2.1, shrN]
                rw [HA.out.1] at f1
                rw [HA.out.2] at f3
                obtain ⟨RR, hRR⟩ : ∃ RR : Int, RR = (R9 : Int) := ⟨_, rfl⟩
                rw [← hRR] at f2 f3
                have HS0 := hidd (show 0 ≤ s ∧ s < 64 by have := HT.out; omega)
                have W1 := hidd hA1
                have W2 := hidd f1
                have W3 := hidd hB1
                have W4 := hidd hB2
                have W5 := hidd hC1
                have W6 := hidd f2
                have W7 := hidd f3
                have W8 := hidd (show ¬ s < 0 by have := HS0.out; omega)
                clear hA1 f1 hB1 hB2 hC1 f2 f3 hg2 hdm hRY hG hz1 hz2 hR9 K2 HA hRR DONE DONE1 HL3 HYY HB HU1 HU2 HF HPOS HT
                go_upto_region 28 with (fail)
                refine region_fr (C := [Fq.is (.int .u64 (qa : Int)), Fq.is (.int .u64 A1), Fq.is (.int .u64 (zb : Int)), Fq.is (.int .u64 (QA : Int)), Fq.is (.int .u64 (F : Int)), Fq.is (.int .u64 B1), Fq.is (.int .u64 (u0 : Int)), Fq.is (.int .u64 B2), Fq.is (.int .u64 (zb : Int)), Fq.is (.int .u64 (Y : Int)), Fq.is (.int .u64 C1), Fq.is (.int .u64 RR), Fq.is (.int .u64 s), Fq.is (.int .u64 (RA : Int)), Fq.is (.int .u64 (QA : Int)), Fq.is (.int .u64 (RA : Int))]) (ks := []) (new := []) E rfl (by kernel_rfl) rfl rfl (fun hp => ⟨?_, ?_, ?_, ?_, ?_, ?_, ?_, ?_, ?_, ?_, ?_, ?_, ?_, ?_, ?_, ?_, trivial⟩) ?_
                · exact q_move hp (free_of rfl) trivial (sq_out (s := 15) rfl rfl (fun _ _ => rfl))
                · exact q_one (F := fun v _ => v = .int .u64 (qa : Int)) hp (free_of rfl) trivial (sq_in 0 rfl rfl (by simp) rfl (fun v w h => h)) (fun ρ w hc h => ⟨.int .u64 A1, by simp [execOp, go_sem, h, hc, W1.out], rfl⟩)
                · exact q_move hp (free_of rfl) trivial (sq_out (s := 18) rfl rfl (fun _ _ => rfl))
                · exact q_two (F := fun v _ => v = .int .u64 A1) (G := fun v _ => v = .int .u64 (zb : Int)) hp (free_of rfl) trivial (sq_in 1 rfl rfl (by simp) rfl (fun v w h => h)) (sq_in 2 rfl rfl (by simp) rfl (fun v w h => h)) (fun ρ w hc h h' => ⟨.int .u64 (QA : Int), by simp [execOp, go_sem, h, h', W2.out], rfl⟩)
                · exact q_move hp (free_of rfl) trivial (sq_out (s := 17) rfl rfl (fun _ _ => rfl))
                · exact q_one (F := fun v _ => v = .int .u64 (F : Int)) hp (free_of rfl) trivial (sq_in 4 rfl rfl (by simp) rfl (fun v w h => h)) (fun ρ w hc h => ⟨.int .u64 B1, by simp [execOp, go_sem, h, hc, W3.out], rfl⟩)
                · exact q_move hp (free_of rfl) trivial (sq_out (s := 14) rfl rfl (fun _ _ => rfl))
                · exact q_two (F := fun v _ => v = .int .u64 B1) (G := fun v _ => v = .int .u64 (u0 : Int)) hp (free_of rfl) trivial (sq_in 5 rfl rfl (by simp) rfl (fun v w h => h)) (sq_in 6 rfl rfl (by simp) rfl (fun v w h => h)) (fun ρ w hc h h' => ⟨.int .u64 B2, by simp [execOp, go_sem, h, h', W4.out], rfl⟩)
                · exact q_move hp (free_of rfl) trivial (sq_out (s := 18) rfl rfl (fun _ _ => rfl))
                · exact q_move hp (free_of rfl) trivial (sq_out (s := 2) rfl rfl (fun _ _ => rfl))
                · exact q_two (F := fun v _ => v = .int .u64 (zb : Int)) (G := fun v _ => v = .int .u64 (Y : Int)) hp (free_of rfl) trivial (sq_in 8 rfl rfl (by simp) rfl (fun v w h => h)) (sq_in 9 rfl rfl (by simp) rfl (fun v w h => h)) (fun ρ w hc h h' => ⟨.int .u64 C1, by simp [execOp, go_sem, h, h', W5.out], rfl⟩)
                · exact q_two (F := fun v _ => v = .int .u64 B2) (G := fun v _ => v = .int .u64 C1) hp (free_of rfl) trivial (sq_in 7 rfl rfl (by simp) rfl (fun v w h => h)) (sq_in 10 rfl rfl (by simp) rfl (fun v w h => h)) (fun ρ w hc h h' => ⟨.int .u64 RR, by simp [execOp, go_sem, h, h', W6.out], rfl⟩)
                · exact q_move hp (free_of rfl) trivial (sq_out (s := 8) rfl rfl (fun _ _ => rfl))
                · exact q_two (F := fun v _ => v = .int .u64 RR) (G := fun v _ => v = .int .u64 s) hp (free_of rfl) trivial (sq_in 11 rfl rfl (by simp) rfl (fun v w h => h)) (sq_in 12 rfl rfl (by simp) rfl (fun v w h => h)) (fun ρ w hc h h' => ⟨.int .u64 (RA : Int), by simp [execOp, go_sem, h, h', W7.out], rfl⟩)
                · exact q_assign hp (free_of rfl) trivial (sq_in 3 rfl rfl (by simp) rfl (fun v w h => h))
                · exact q_assign hp (free_of rfl) trivial (sq_in 13 rfl rfl (by simp) rfl (fun v w h => h))
                intro L vs w59 nb hL hC hn E59
                have e0 : vs 0 = .int .u64 (qa : Int) := hC 0 (by simp)
                have e1 : vs 1 = .int .u64 A1 := hC 1 (by simp)
                have e2 : vs 2 = .int .u64 (zb : Int) := hC 2 (by simp)
                have e3 : vs 3 = .int .u64 (QA : Int) := hC 3 (by simp)
                have e4 : vs 4 = .int .u64 (F : Int) := hC 4 (by simp)
                have e5 : vs 5 = .int .u64 B1 := hC 5 (by simp)
                have e6 : vs 6 = .int .u64 (u0 : Int) := hC 6 (by simp)
                have e7 : vs 7 = .int .u64 B2 := hC 7 (by simp)
                have e8 : vs 8 = .int .u64 (zb : Int) := hC 8 (by simp)
                have e9 : vs 9 = .int .u64 (Y : Int) := hC 9 (by simp)
                have e10 : vs 10 = .int .u64 C1 := hC 10 (by simp)
                have e11 : vs 11 = .int .u64 RR := hC 11 (by simp)
                have e12 : vs 12 = .int .u64 s := hC 12 (by simp)
                have e13 : vs 13 = .int .u64 (RA : Int) := hC 13 (by simp)
                have e14 : vs 14 = .int .u64 (QA : Int) := hC 14 (by simp)
                have e15 : vs 15 = .int .u64 (RA : Int) := hC 15 (by simp)
                have E : Fr w [] w59 := E59
                rw [lay_all hL]
                simp only [putAll, dstOf, List.length_cons, List.length_nil, Nat.zero_add, Nat.reduceAdd, List.getElem?_toArray, List.getElem?_cons_zero, List.getElem?_cons_succ, Option.bind_some, Act.put, List.setIfInBounds_toArray, List.set_cons_succ, List.set_cons_zero]
                rw [e0, e1, e2, e3, e4, e5, e6, e7, e8, e9, e10, e11, e12, e13, e14, e15]
                clear e0 e1 e2 e3 e4 e5 e6 e7 e8 e9 e10 e11 e12 e13 e14 e15 hC hn E59 hL vs L nb
                clear W1 W2 W3 W4 W5 W6 W7 W8 HS0
                go_wp2
                exact bodyPost_ret (v := .tuple #[.int .u64 (QA : Int), .int .u64 (RA : Int)]) (by simp [results, Tryd.results89, go_sem]) rfl ⟨rfl, E.below⟩
              · have b1 := hidd (show ¬ (4294967296 : Int) ≤ (v9b : Int) by omega)
                have HV : Hid (v9b < 4294967296) := by show _ < _; omega
                clear hv
                go_upto_region 27 with (fail)
                refine region_fr (C := [Fq.is (.int .u64 (v9b : Int)), Fq.is (.bool false)]) (ks := []) (new := []) E rfl (by kernel_rfl) rfl rfl (fun hp => ⟨?_, ?_, trivial⟩) ?_
                · exact q_move hp (free_of rfl) trivial (sq_out (s := 16) rfl rfl (fun _ _ => rfl))
                · exact q_one (F := fun v _ => v = .int .u64 (v9b : Int)) hp (free_of rfl) trivial (sq_in 0 rfl rfl (by simp) rfl (fun v w h => h)) (fun ρ w hc h => ⟨.bool false, by simp [execOp, go_sem, h, hc, b1.out], rfl⟩)
                intro L vs w60 nb hL hC hn E60
                have e0 : vs 0 = .int .u64 (v9b : Int) := hC 0 (by simp)
                have e1 : vs 1 = .bool false := hC 1 (by simp)
                have E : Fr w [] w60 := E60
                rw [lay_all hL]
                simp only [putAll, dstOf, List.length_cons, List.length_nil, Nat.zero_add, Nat.reduceAdd, List.getElem?_toArray, List.getElem?_cons_zero, List.getElem?_cons_succ, Option.bind_some, Act.put, List.setIfInBounds_toArray, List.set_cons_succ, List.set_cons_zero]
                rw [e0, e1]
                clear e0 e1 hC hn E60 hL vs L nb
                clear b1
                go_wp2
                go_roundw
                case rel => exact ⟨zb, v9b, rfl, rfl, ZE.out.1, ZE.out.2.1, by have := ZE.out.2.2.1; omega, HV.out, E.below⟩
                case measure => have := ZE.out.2.2.2; simp [intOf]; omega
            · have b2 := hidd (show ¬ (S : Int) < P by omega)
              have DONE : Hid (qb = (F * 4294967296 + u0) / Y) := kd_false HYY.out X.out.1 HU2.out X.out.2.1 (by rw [← HPS.out.1, ← HPS.out.2]; omega)
              clear ht HPS X
              go_upto_region 24 with (fail)
              refine region_fr (C := [Fq.is (.int .u64 (qb : Int)), Fq.is (.bool false), Fq.is (.bool false), Fq.is (.int .u64 (qb : Int)), Fq.is (.int .u64 (y0 : Int)), Fq.is (.int .u64 (P : Int)), Fq.is (.int .u64 (rb : Int)), Fq.is (.int .u64 (N : Int)), Fq.is (.int .u64 (u0 : Int)), Fq.is (.int .u64 (S : Int)), Fq.is (.bool false), Fq.is (.bool false)]) (ks := []) (new := []) E rfl (by kernel_rfl) rfl rfl (fun hp => ⟨?_, ?_, ?_, ?_, ?_, ?_, ?_, ?_, ?_, ?_, ?_, ?_, trivial⟩) ?_
              · exact q_move hp (free_of rfl) trivial (sq_out (s := 18) rfl rfl (fun _ _ => rfl))
              · exact q_one (F := fun v _ => v = .int .u64 (qb : Int)) hp (free_of rfl) trivial (sq_in 0 rfl rfl (by simp) rfl (fun v w h => h)) (fun ρ w hc h => ⟨.bool false, by simp [execOp, go_sem, h, hc, b1.out], rfl⟩)
              · exact q_move hp (free_of rfl) trivial (sq_in 1 rfl rfl (by simp) rfl (fun v w h => h))
              · exact q_move hp (free_of rfl) (gq_some rfl rfl (by simp) rfl (fun v w h => h)) (sq_out (s := 18) rfl rfl (fun _ _ => rfl))
              · exact q_move hp (free_of rfl) (gq_some rfl rfl (by simp) rfl (fun v w h => h)) (sq_out (s := 10) rfl rfl (fun _ _ => rfl))
              · exact q_two (F := fun v _ => v = .int .u64 (qb : Int)) (G := fun v _ => v = .int .u64 (y0 : Int)) hp (free_of rfl) (gq_some rfl rfl (by simp) rfl (fun v w h => h)) (sq_in 3 rfl rfl (by simp) rfl (fun v w h => h)) (sq_in 4 rfl rfl (by simp) rfl (fun v w h => h)) (fun ρ w hc h h' => ⟨.int .u64 (P : Int), by simp [execOp, go_sem, h, h', d1.out], rfl⟩)
              · exact q_move hp (free_of rfl) (gq_some rfl rfl (by simp) rfl (fun v w h => h)) (sq_out (s := 16) rfl rfl (fun _ _ => rfl))
              · exact q_one (F := fun v _ => v = .int .u64 (rb : Int)) hp (free_of rfl) (gq_some rfl rfl (by simp) rfl (fun v w h => h)) (sq_in 6 rfl rfl (by simp) rfl (fun v w h => h)) (fun ρ w hc h => ⟨.int .u64 (N : Int), by simp [execOp, go_sem, h, hc, d2.out], rfl⟩)
              · exact q_move hp (free_of rfl) (gq_some rfl rfl (by simp) rfl (fun v w h => h)) (sq_out (s := 14) rfl rfl (fun _ _ => rfl))
              · exact q_two (F := fun v _ => v = .int .u64 (N : Int)) (G := fun v _ => v = .int .u64 (u0 : Int)) hp (free_of rfl) (gq_some rfl rfl (by simp) rfl (fun v w h => h)) (sq_in 7 rfl rfl (by simp) rfl (fun v w h => h)) (sq_in 8 rfl rfl (by simp) rfl (fun v w h => h)) (fun ρ w hc h h' => ⟨.int .u64 (S : Int), by simp [execOp, go_sem, h, h', d3.out], rfl⟩)
              · exact q_two (F := fun v _ => v = .int .u64 (P : Int)) (G := fun v _ => v = .int .u64 (S : Int)) hp (free_of rfl) (gq_some rfl rfl (by simp) rfl (fun v w h => h)) (sq_in 5 rfl rfl (by simp) rfl (fun v w h => h)) (sq_in 9 rfl rfl (by simp) rfl (fun v w h => h)) (fun ρ w hc h h' => ⟨.bool false, by simp [execOp, go_sem, h, h', b2.out], rfl⟩)
              · exact q_two (F := fun v _ => v = .bool false) (G := fun v _ => v = .bool false) hp (free_of rfl) trivial (sq_in 2 rfl rfl (by simp) rfl (fun v w h => h)) (sq_in 10 rfl rfl (by simp) rfl (fun v w h => h)) (fun ρ w hc h h' => ⟨_, by simp [execOp, go_sem, h, h'], rfl⟩)
              intro L vs w61 nb hL hC hn E61
              have e0 : vs 0 = .int .u64 (qb : Int) := hC 0 (by simp)
              have e1 : vs 1 = .bool false := hC 1 (by simp)
              have e2 : vs 2 = .bool false := hC 2 (by simp)
              have e3 : vs 3 = .int .u64 (qb : Int) := hC 3 (by simp)
              have e4 : vs 4 = .int .u64 (y0 : Int) := hC 4 (by simp)
              have e5 : vs 5 = .int .u64 (P : Int) := hC 5 (by simp)
              have e6 : vs 6 = .int .u64 (rb : Int) := hC 6 (by simp)
              have e7 : vs 7 = .int .u64 (N : Int) := hC 7 (by simp)
              have e8 : vs 8 = .int .u64 (u0 : Int) := hC 8 (by simp)
              have e9 : vs 9 = .int .u64 (S : Int) := hC 9 (by simp)
              have e10 : vs 10 = .bool false := hC 10 (by simp)
              have e11 : vs 11 = .bool false := hC 11 (by simp)
              have E : Fr w [] w61 := E61
              rw [lay_all hL]
              simp only [putAll, dstOf, List.length_cons, List.length_nil, Nat.zero_add, Nat.reduceAdd, List.getElem?_toArray, List.getElem?_cons_zero, List.getElem?_cons_succ, Option.bind_some, Act.put, List.setIfInBounds_toArray, List.set_cons_succ, List.set_cons_zero]
              rw [e0, e1, e2, e3, e4, e5, e6, e7, e8, e9, e10, e11]
              clear e0 e1 e2 e3 e4 e5 e6 e7 e8 e9 e10 e11 hC hn E61 hL vs L nb
              clear b1 b2 d1 d2 d3
              obtain ⟨R9, hR9⟩ : ∃ rb, rb = (F * 4294967296 + u0) % Y := ⟨_, rfl⟩
              have K2 := kd_two (U := U) (B := 4294967296) (u := u1) (v := u0) HPOS.out.2
              rw [← HF.out, ← DONE1.out, ← DONE.out, ← hR9] at K2
              have HA : Hid (qa * 4294967296 + qb = QA ∧ R9 / 2 ^ t = RA) := ⟨K2.1.trans HL3.out.1, by rw [K2.2]; exact HL3.out.2⟩
              have hz1 : qa < 4294967296 := by rw [DONE1.out]; exact kd_lt HU1.out (by have := HB.out; omega)
              have hz2 : qb < 4294967296 := by rw [DONE.out]; exact kd_lt HU2.out (by have := HB.out; omega)
              obtain ⟨G, hG⟩ : ∃ G, G = qb * Y := ⟨_, rfl⟩
              have hdm := Nat.div_add_mod (F * 4294967296 + u0) Y
              rw [← DONE.out, ← hR9, Nat.mul_comm, ← hG] at hdm
              have hRY : R9 < Y := by rw [hR9]; exact Nat.mod_lt _ HPOS.out.2
              obtain ⟨A1, hA1⟩ : ∃ A1 : Int, IntKind.u64.wrap ((qa : Int) * 4294967296) = A1 := ⟨_, rfl⟩
              obtain ⟨B1, hB1⟩ : ∃ B1 : Int, IntKind.u64.wrap ((F : Int) * 4294967296) = B1 := ⟨_, rfl⟩
              obtain ⟨B2, hB2⟩ : ∃ B2 : Int, IntKind.u64.wrap (B1 + u0) = B2 := ⟨_, rfl⟩
              obtain ⟨C1, hC1⟩ : ∃ C1 : Int, IntKind.u64.wrap ((qb : Int) * Y) = C1 := ⟨_, rfl⟩
              have f1 : IntKind.u64.wrap (A1 + qb) = ((qa * 4294967296 + qb : Nat) : Int) := by rw [← hA1]; simp only [u64_wrap]; omega
              have hg2 : (qb : Int) * Y = (G : Int) := by rw [hG]; exact (Int.natCast_mul _ _).symm
              have f2 : IntKind.u64.wrap (B2 - C1) = (R9 : Int) := by
                rw [hg2] at hC1
                have x3 := HB.out
                rw [← hB2, ← hB1, ← hC1]
                simp only [u64_wrap]
                omega
              have f3 : (R9 : Int) / 2 ^ s.toNat = ((R9 / 2 ^ t : Nat) : Int) := by rw [HT.out.2.1, shrN]
              rw [HA.out.1] at f1
              rw [HA.out.2] at f3
              obtain ⟨RR, hRR⟩ : ∃ RR : Int, RR = (R9 : Int) := ⟨_, rfl⟩
              rw [← hRR] at f2 f3
              have HS0 := hidd (show 0 ≤ s ∧ s < 64 by have := HT.out; omega)
              have W1 := hidd hA1
              have W2 := hidd f1
              have W3 := hidd hB1
              have W4 := hidd hB2
              have W5 := hidd hC1
              have W6 := hidd f2
              have W7 := hidd f3
              have W8 := hidd (show ¬ s < 0 by have := HS0.out; omega)
              clear hA1 f1 hB1 hB2 hC1 f2 f3 hg2 hdm hRY hG hz1 hz2 hR9 K2 HA hRR DONE DONE1 HL3 HYY HB HU1 HU2 HF HPOS HT
              go_upto_region 28 with (fail)
              refine region_fr (C := [Fq.is (.int .u64 (qa : Int)), Fq.is (.int .u64 A1), Fq.is (.int .u64 (qb : Int)), Fq.is (.int .u64 (QA : Int)), Fq.is (.int .u64 (F : Int)), Fq.is (.int .u64 B1), Fq.is (.int .u64 (u0 : Int)), Fq.is (.int .u64 B2), Fq.is (.int .u64 (qb : Int)), Fq.is (.int .u64 (Y : Int)), Fq.is (.int .u64 C1), Fq.is (.int .u64 RR), Fq.is (.int .u64 s), Fq.is (.int .u64 (RA : Int)), Fq.is (.int .u64 (QA : Int)), Fq.is (.int .u64 (RA : Int))]) (ks := []) (new := []) E rfl (by kernel_rfl) rfl rfl (fun hp => ⟨?_, ?_, ?_, ?_, ?_, ?_, ?_, ?_, ?_, ?_, ?_, ?_, ?_, ?_, ?_, ?_, trivial⟩) ?_
              · exact q_move hp (free_of rfl) trivial (sq_out (s := 15) rfl rfl (fun _ _ => rfl))
              · exact q_one (F := fun v _ => v = .int .u64 (qa : Int)) hp (free_of rfl) trivial (sq_in 0 rfl rfl (by simp) rfl (fun v w h => h)) (fun ρ w hc h => ⟨.int .u64 A1, by simp [execOp, go_sem, h, hc, W1.out], rfl⟩)
              · exact q_move hp (free_of rfl) trivial (sq_out (s := 18) rfl rfl (fun _ _ => rfl))
              · exact q_two (F := fun v _ => v = .int .u64 A1) (G := fun v _ => v = .int .u64 (qb : Int)) hp (free_of rfl) trivial (sq_in 1 rfl rfl (by simp) rfl (fun v w h => h)) (sq_in 2 rfl rfl (by simp) rfl (fun v w h => h)) (fun ρ w hc h h' => ⟨.int .u64 (QA : Int), by simp [execOp, go_sem, h, h', W2.out], rfl⟩)
              · exact q_move hp (free_of rfl) trivial (sq_out (s := 17) rfl rfl (fun _ _ => rfl))
              · exact q_one (F := fun v _ => v = .int .u64 (F : Int)) hp (free_of rfl) trivial (sq_in 4 rfl rfl (by simp) rfl (fun v w h => h)) (fun ρ w hc h => ⟨.int .u64 B1, by simp [execOp, go_sem, h, hc, W3.out], rfl⟩)
              · exact q_move hp (free_of rfl) trivial (sq_out (s := 14) rfl rfl (fun _ _ => rfl))
              · exact q_two (F := fun v _ => v = .int .u64 B1) (G := fun v _ => v = .int .u64 (u0 : Int)) hp (free_of rfl) trivial (sq_in 5 rfl rfl (by simp) rfl (fun v w h => h)) (sq_in 6 rfl rfl (by simp) rfl (fun v w h => h)) (fun ρ w hc h h' => ⟨.int .u64 B2, by simp [execOp, go_sem, h, h', W4.out], rfl⟩)
              · exact q_move hp (free_of rfl) trivial (sq_out (s := 18) rfl rfl (fun _ _ => rfl))
              · exact q_move hp (free_of rfl) trivial (sq_out (s := 2) rfl rfl (fun _ _ => rfl))
              · exact q_two (F := fun v _ => v = .int .u64 (qb : Int)) (G := fun v _ => v = .int .u64 (Y : Int)) hp (free_of rfl) trivial (sq_in 8 rfl rfl (by simp) rfl (fun v w h => h)) (sq_in 9 rfl rfl (by simp) rfl (fun v w h => h)) (fun ρ w hc h h' => ⟨.int .u64 C1, by simp [execOp, go_sem, h, h', W5.out], rfl⟩)
              · exact q_two (F := fun v _ => v = .int .u64 B2) (G := fun v _ => v = .int .u64 C1) hp (free_of rfl) trivial (sq_in 7 rfl rfl (by simp) rfl (fun v w h => h)) (sq_in 10 rfl rfl (by simp) rfl (fun v w h => h)) (fun ρ w hc h h' => ⟨.int .u64 RR, by simp [execOp, go_sem, h, h', W6.out], rfl⟩)
              · exact q_move hp (free_of rfl) trivial (sq_out (s := 8) rfl rfl (fun _ _ => rfl))
              · exact q_two (F := fun v _ => v = .int .u64 RR) (G := fun v _ => v = .int .u64 s) hp (free_of rfl) trivial (sq_in 11 rfl rfl (by simp) rfl (fun v w h => h)) (sq_in 12 rfl rfl (by simp) rfl (fun v w h => h)) (fun ρ w hc h h' => ⟨.int .u64 (RA : Int), by simp [execOp, go_sem, h, h', W7.out], rfl⟩)
              · exact q_assign hp (free_of rfl) trivial (sq_in 3 rfl rfl (by simp) rfl (fun v w h => h))
              · exact q_assign hp (free_of rfl) trivial (sq_in 13 rfl rfl (by simp) rfl (fun v w h => h))
              intro L vs w62 nb hL hC hn E62
              have e0 : vs 0 = .int .u64 (qa : Int) := hC 0 (by simp)
              have e1 : vs 1 = .int .u64 A1 := hC 1 (by simp)
              have e2 : vs 2 = .int .u64 (qb : Int) := hC 2 (by simp)
              have e3 : vs 3 = .int .u64 (QA : Int) := hC 3 (by simp)
              have e4 : vs 4 = .int .u64 (F : Int) := hC 4 (by simp)
              have e5 : vs 5 = .int .u64 B1 := hC 5 (by simp)
              have e6 : vs 6 = .int .u64 (u0 : Int) := hC 6 (by simp)
              have e7 : vs 7 = .int .u64 B2 := hC 7 (by simp)
              have e8 : vs 8 = .int .u64 (qb : Int) := hC 8 (by simp)
              have e9 : vs 9 = .int .u64 (Y : Int) := hC 9 (by simp)
              have e10 : vs 10 = .int .u64 C1 := hC 10 (by simp)
              have e11 : vs 11 = .int .u64 RR := hC 11 (by simp)
              have e12 : vs 12 = .int .u64 s := hC 12 (by simp)
              have e13 : vs 13 = .int .u64 (RA : Int) := hC 13 (by simp)
              have e14 : vs 14 = .int .u64 (QA : Int) := hC 14 (by simp)
              have e15 : vs 15 = .int .u64 (RA : Int) := hC 15 (by simp)
              have E : Fr w [] w62 := E62
              rw [lay_all hL]
              simp only [putAll, dstOf, List.length_cons, List.length_nil, Nat.zero_add, Nat.reduceAdd, List.getElem?_toArray, List.getElem?_cons_zero, List.getElem?_cons_succ, Option.bind_some, Act.put, List.setIfInBounds_toArray, List.set_cons_succ, List.set_cons_zero]
              rw [e0, e1, e2, e3, e4, e5, e6, e7, e8, e9, e10, e11, e12, e13, e14, e15]
              clear e0 e1 e2 e3 e4 e5 e6 e7 e8 e9 e10 e11 e12 e13 e14 e15 hC hn E62 hL vs L nb
              clear W1 W2 W3 W4 W5 W6 W7 W8 HS0
              go_wp2
              exact bodyPost_ret (v := .tuple #[.int .u64 (QA : Int), .int .u64 (RA : Int)]) (by simp [results, Tryd.results89, go_sem]) rfl ⟨rfl, E.below⟩
theorem div64_any (a b y : Nat) (w : World) (h0 : 0 < a) (h1 : a < y) (h2 : y < 18446744073709551616) (h4 : b < 18446744073709551616) :
    Calls Tryd.prog 89 #[.int .u64 a, .int .u64 b, .int .u64 y] w fun e w' => e = .returned (.tuple #[.int .u64 (((a * 18446744073709551616 + b) / y : Nat) : Int), .int .u64 (((a * 18446744073709551616 + b) % y : Nat) : Int)]) ∧ Below w.heap.size w w' := div64_core a b y _ _ _ rfl rfl rfl w h0 h1 h2 h4
end Go.Proofs.YthgpcgijhmgenaaDoor

/- Walks: package prime: the least divisor of a small number, the word of a number. -/
namespace Go.Proofs.YthgpcgijhmgenaaDoor
open Go Go.RowKit

end Go.Proofs.YthgpcgijhmgenaaDoor
