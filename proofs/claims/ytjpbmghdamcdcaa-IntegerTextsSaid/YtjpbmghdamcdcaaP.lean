/- Walk: powers of sizes. -/
import Derived.Test.YtjpbmghdamcdcaaM
import Derived.Test.YtjpbmghdamcdcaaG
namespace Go.Proofs.Ytjpbmghdamcdcaa
open Go.RowKit

theorem and_one_i64 (n : Int) : bits .and .i64 n 1 = n % 2 := by
  have h1 : (BitVec.ofInt 64 1).toNat = 2 ^ 1 - 1 := by decide
  have key : (BitVec.ofInt 64 n &&& BitVec.ofInt 64 1).toNat = (n % ((2 ^ 64 : Nat) : Int)).toNat % 2 ^ 1 := by
    rw [BitVec.toNat_and, BitVec.toNat_ofInt, h1, Nat.and_two_pow_sub_one_eq_mod]
  show IntKind.i64.wrap ((BitVec.ofInt 64 n &&& BitVec.ofInt 64 1).toNat : Nat) = n % 2
  rw [key, IntKind.wrap_i64]
  omega

theorem pow_double (x : Int) (j : Nat) : (x * x) ^ j = x ^ (2 * j) := by
  rw [Int.pow_mul]; congr 1; rw [Int.pow_succ, Int.pow_succ, Int.pow_zero, Int.one_mul]

theorem pow_odd {z x : Int} {k : Nat} (h : k % 2 = 1) : z * x * (x * x) ^ (k / 2) = z * x ^ k := by
  rw [pow_double, Int.mul_assoc, Int.mul_comm x, ← Int.pow_succ]
  congr 2; omega

theorem pow_even {z x : Int} {k : Nat} (h : k % 2 = 0) : z * (x * x) ^ (k / 2) = z * x ^ k := by
  rw [pow_double]; congr 2; omega

/-- The powers that the loop holds. -/
def PowInv (L : Nat) (X0 : Int) (K : Nat) (w : World) (vx vk vz : Value) (wr : World) : Prop :=
  ∃ ax cx nx xs k az cz nz zs, vx = .slice ax nx cx ∧ vk = .int .i64 ((k : Nat) : Int) ∧ vz = .slice az nz cz ∧ Sl wr ax nx cx xs ∧ Sl wr az nz cz zs ∧ Canon xs ∧ Canon zs ∧ Below w.heap.size w wr ∧
    val zs * val xs ^ k = X0 ^ K ∧ k ≤ K ∧ (1 ≤ k → nx ≤ L) ∧ nz ≤ L ∧ (1 ≤ X0 → 1 ≤ val xs ∧ 1 ≤ val zs) ∧ (X0 = 0 → val xs = 0)

theorem pow_le_of {z x : Int} {k : Nat} (hz : 1 ≤ z) (hx : 1 ≤ x) (hk : 1 ≤ k) : z * x ≤ z * x ^ k := by
  refine Int.mul_le_mul_of_nonneg_left ?_ (by omega)
  obtain ⟨j, rfl⟩ : ∃ j, k = j + 1 := ⟨k - 1, by omega⟩
  rw [Int.pow_succ]
  have := Int.mul_le_mul_of_nonneg_right (show 1 ≤ x ^ j from Int.pow_pos (by omega)) (show 0 ≤ x by omega)
  omega

theorem sq_le_of {z x : Int} {k : Nat} (hz : 1 ≤ z) (hx : 1 ≤ x) (hk : 2 ≤ k) : x * x ≤ z * x ^ k := by
  obtain ⟨j, rfl⟩ : ∃ j, k = j + 1 := ⟨k - 1, by omega⟩
  have h1 := pow_le_of (z := x) (x := x) (k := j) hx hx (by omega)
  have h2 : x * x ^ j = x ^ (j + 1) := by rw [Int.pow_succ, Int.mul_comm]
  have h3 := Int.mul_le_mul_of_nonneg_right hz (show 0 ≤ x ^ (j + 1) from Int.le_of_lt (Int.pow_pos (by omega)))
  omega

/-- The next power is not greater than the result. -/
theorem step_lt {z x X0 : Int} {k K L : Nat} (hsum : z * x ^ k = X0 ^ K) (hM : X0 ^ K < pw L) (hX0 : 0 ≤ X0) (h1 : 1 ≤ X0 → 1 ≤ x ∧ 1 ≤ z) (h2 : X0 = 0 → x = 0) (hk : 1 ≤ k) : z * x < pw L := by
  have hp := pw_pos L
  rcases (by omega : X0 = 0 ∨ 1 ≤ X0) with h | h
  · rw [h2 h, Int.mul_zero]; exact hp
  · have := pow_le_of (h1 h).2 (h1 h).1 hk; omega

theorem step_sq {z x X0 : Int} {k K L : Nat} (hsum : z * x ^ k = X0 ^ K) (hM : X0 ^ K < pw L) (hX0 : 0 ≤ X0) (h1 : 1 ≤ X0 → 1 ≤ x ∧ 1 ≤ z) (h2 : X0 = 0 → x = 0) (hk : 2 ≤ k) : x * x < pw L := by
  have hp := pw_pos L
  rcases (by omega : X0 = 0 ∨ 1 ≤ X0) with h | h
  · rw [h2 h, Int.mul_zero]; exact hp
  · have := sq_le_of (h1 h).2 (h1 h).1 hk; omega

theorem one_mul_le {a b : Int} (ha : 1 ≤ a) (hb : 1 ≤ b) : 1 ≤ a * b := Int.mul_pos (by omega) (by omega)

set_option maxHeartbeats 1000000 in
theorem powSize_any (w : World) (ax : Option Addr) (n c : Nat) (xs : List Int) (hX : Sl w ax n c xs) (hcx : Canon xs) (K L : Nat) (hK : K ≤ 9000000) (hL : 1 ≤ L) (hL2 : L ≤ 900000) (hM : val xs ^ K < pw L) :
    Calls Try.prog 73 #[.slice ax n c, .int .i64 K] w fun e w' => ∃ az nz cz zs, e = .returned (.slice az nz cz) ∧ Sl w' az nz cz zs ∧ Canon zs ∧ val zs = val xs ^ K ∧ Below w.heap.size w w' := by
  have hnn := val_nonneg hX.digs
  go_enter Try.func73, Try.ntmps73
  go_wp2
  have hone : Row (w.alloc (.cells #[.int .u32 1] 63)) 63 w.heap.size [1] := by
    refine ⟨fun x hx => ?_, ?_⟩
    · simp at hx; subst hx; exact ⟨by omega, by omega⟩
    · rw [heap_alloc_new]; rfl
  have hbl : Below w.heap.size w (w.alloc (.cells #[.int .u32 1] 63)) := (Below.refl _ _).alloc (Nat.le_refl _) _
  go_loopw [0, 1, 5] (fun vx vk vz wr => PowInv L (val xs) K w vx vk vz wr) (fun _ vk _ _ => (intOf vk).toNat)
  case atStart =>
    refine ⟨ax, c, n, xs, K, _, _, 1, [1], rfl, rfl, rfl, hX.mono hbl, hone.sl rfl, hcx, ⟨hone.1, .inr (by simp [val, pw_zero])⟩, hbl, by simp [val], Nat.le_refl _, fun hk => ?_, by omega, fun h => ⟨h, by simp [val]⟩, id⟩
    have := step_lt (z := 1) (x := val xs) (X0 := val xs) (k := K) (K := K) (L := L) (by rw [Int.one_mul]) hM hnn (fun h => ⟨h, by omega⟩) id hk
    rw [Int.one_mul] at this
    have := hcx.length_le this
    rw [hX.len] at this; exact this
  case round =>
    obtain ⟨ax, cx, nx, xs', k, az, cz, nz, zs, rfl, rfl, rfl, hsx, hsz, hcx', hcz, hB, hsum, hk, hnx, hnz, h1, h2⟩ := hrel
    have HSUM := hidd hsum
    clear hsum hone hbl
    by_cases hk0 : 0 < k
    · have hk0' : (0 : Int) < (k : Int) := by omega
      have hnxL := hnx hk0
      by_cases hodd : k % 2 = 1
      · have hand : (bits .and .i64 (k : Int) 1 == 1) = true := by rw [and_one_i64]; simp; omega
        go_wp2_with fail
        refine (mulSize_any _ _ _ _ _ _ _ _ _ hsz hsx (by omega) (by omega)).mono ?_
        rintro e w2 ⟨a2, c2, zs2, rfl, hs2, hv2, hB2⟩
        go_wp2_with fail
        refine (trim_any _ _ _ _ _ hs2 (by omega)).mono ?_
        rintro e w3 ⟨m2, rfl, hm2, hs3, hv3, hc3, rfl⟩
        have hv4 := hv3.trans hv2
        have hlt2 := step_lt HSUM.out hM hnn h1 h2 hk0
        have hm2L : m2 ≤ L := by
          have := hc3.length_le (k := L) (by rw [hv4]; exact hlt2)
          rw [hs3.len] at this; exact this
        have hsx2 := hsx.mono hB2
        have hB3 := hB.trans (hB2.mono hB.size)
        have HV4 := hidd hv4
        clear hs2 hv2 hv3 hv4 hlt2 hB2 hsz hsx hB
        by_cases hk1 : 1 < k
        · have hk1' : (1 : Int) < (k : Int) := by omega
          go_wp2_with fail
          refine (mulSize_any _ _ _ _ _ _ _ _ _ hsx2 hsx2 (by omega) (by omega)).mono ?_
          rintro e w4 ⟨a5, c5, zs5, rfl, hs5, hv5, hB5⟩
          go_wp2_with fail
          refine (trim_any _ _ _ _ _ hs5 (by omega)).mono ?_
          rintro e w6 ⟨m6, rfl, hm6, hs6, hv6, hc6, rfl⟩
          have hv7 := hv6.trans hv5
          have hm6L : m6 ≤ L := by
            have := hc6.length_le (k := L) (by rw [hv7]; exact step_sq HSUM.out hM hnn h1 h2 hk1)
            rw [hs6.len] at this; exact this
          have HV7 := hidd hv7
          clear hs5 hv5 hv6 hv7
          go_wp2
          go_roundw
          case rel =>
            refine ⟨_, _, _, _, k / 2, _, _, _, _, rfl, by congr 1, rfl, hs6, hs3.mono hB5, hc6, hc3, hB3.trans (hB5.mono hB3.size), ?_, by omega, fun _ => hm6L, hm2L, fun h => ?_, fun h => ?_⟩
            · rw [HV7.out, HV4.out, pow_odd hodd]; exact HSUM.out
            · rw [HV7.out, HV4.out]; exact ⟨one_mul_le (h1 h).1 (h1 h).1, one_mul_le (h1 h).2 (h1 h).1⟩
            · rw [HV7.out, h2 h, Int.mul_zero]
          case measure => simp [intOf]; omega
        · obtain rfl : k = 1 := by omega
          go_wp2
          go_roundw
          case rel =>
            refine ⟨_, _, _, _, 0, _, _, _, _, rfl, rfl, rfl, hsx2, hs3, hcx', hc3, hB3, ?_, by omega, fun h => by omega, hm2L, fun h => ?_, h2⟩
            · rw [HV4.out, Int.pow_zero, Int.mul_one, ← HSUM.out, Int.pow_succ, Int.pow_zero, Int.one_mul]
            · rw [HV4.out]; exact ⟨(h1 h).1, one_mul_le (h1 h).2 (h1 h).1⟩
          case measure => simp [intOf]
      · have hand : (bits .and .i64 (k : Int) 1 == 1) = false := by rw [and_one_i64]; simp; omega
        have hk1' : (1 : Int) < (k : Int) := by omega
        go_wp2_with fail
        refine (mulSize_any _ _ _ _ _ _ _ _ _ hsx hsx (by omega) (by omega)).mono ?_
        rintro e w4 ⟨a5, c5, zs5, rfl, hs5, hv5, hB5⟩
        go_wp2_with fail
        refine (trim_any _ _ _ _ _ hs5 (by omega)).mono ?_
        rintro e w6 ⟨m6, rfl, hm6, hs6, hv6, hc6, rfl⟩
        have hv7 := hv6.trans hv5
        have hm6L : m6 ≤ L := by
          have := hc6.length_le (k := L) (by rw [hv7]; exact step_sq HSUM.out hM hnn h1 h2 (by omega))
          rw [hs6.len] at this; exact this
        have HV7 := hidd hv7
        clear hs5 hv5 hv6 hv7
        go_wp2
        go_roundw
        case rel =>
          refine ⟨_, _, _, _, k / 2, _, _, _, _, rfl, by congr 1, rfl, hs6, hsz.mono hB5, hc6, hcz, hB.trans (hB5.mono hB.size), ?_, by omega, fun _ => hm6L, hnz, fun h => ?_, fun h => ?_⟩
          · rw [HV7.out, pow_even (by omega)]; exact HSUM.out
          · rw [HV7.out]; exact ⟨one_mul_le (h1 h).1 (h1 h).1, (h1 h).2⟩
          · rw [HV7.out, h2 h, Int.mul_zero]
        case measure => simp [intOf]; omega
    · obtain rfl : k = 0 := by omega
      go_wp2
      go_ret
      refine ⟨_, _, _, zs, rfl, hsz, hcz, ?_, hB⟩
      have := HSUM.out
      rw [Int.pow_zero, Int.mul_one] at this
      exact this

end Go.Proofs.Ytjpbmghdamcdcaa
