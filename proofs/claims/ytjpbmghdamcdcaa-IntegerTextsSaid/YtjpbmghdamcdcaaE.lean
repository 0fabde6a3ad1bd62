/- Walks: a size is shifted up and down. -/
import Derived.Test.YtjpbmghdamcdcaaA
import Derived.StillTailTactics
namespace Go.Proofs.Ytjpbmghdamcdcaa
open Go.RowKit

/-- Quotient and remainder are those that the division determines. -/
theorem ediv_unique {a P V r : Int} (h : a = P * V + r) (h0 : 0 ≤ r) (h1 : r < P) (hP : 0 < P) : V = a / P := by
  subst h
  rw [Int.mul_add_ediv_left _ _ (Int.ne_of_gt hP), Int.ediv_eq_zero_of_lt h0 h1, Int.add_zero]

/-- One word of a shift. -/
theorem shl_step {zs xs : List Int} {k wd : Nat} {p x z : Int} (hk : k + wd + 1 < zs.length) (h : val (zs.take (k + wd + 1)) = val (xs.take k) * p * pw wd) (hz : zs.getD (k + wd) 0 = z) (hx : xs.getD k 0 = x) :
    val (((zs.set (k + wd) (z + x * p % 4294967296)).set (k + wd + 1) (x * p / 4294967296)).take (k + 1 + wd + 1)) = val (xs.take (k + 1)) * p * pw wd := by
  rw [show k + 1 + wd + 1 = (k + wd + 1) + 1 from by omega, val_take_succ, val_take_set _ _ _ _ (Nat.le_refl _), getD_set _ _ _ (by simpa using hk), val_take_succ, val_take_set _ _ _ _ (Nat.le_refl _), getD_set _ _ _ (by omega)]
  rw [val_take_succ, hz] at h
  rw [val_take_succ, hx, Int.add_mul, Int.add_mul, ← h]
  have h1 := pw_split (k + wd) (x * p)
  have h2 : pw k * x * p * pw wd = pw (k + wd) * (x * p) := by rw [pw_add]; ac_rfl
  rw [Int.mul_add]
  omega

theorem two_le (r : Nat) (h : r < 32) : (1 : Int) ≤ 2 ^ r ∧ (2 : Int) ^ r ≤ 2147483648 := by
  refine ⟨pow_two_pos r, ?_⟩
  have h1 := Nat.pow_le_pow_right (n := 2) (by decide) (show r ≤ 31 by omega)
  have e : ((2 ^ r : Nat) : Int) = 2 ^ r := by simp
  rw [← e]; omega

theorem mul_pow_dvd (x : Int) (r : Nat) (h : r ≤ 32) : x * 2 ^ r % 4294967296 % 2 ^ r = 0 := by
  have e : (4294967296 : Int) = 2 ^ r * 2 ^ (32 - r) := by rw [← Int.pow_add, show r + (32 - r) = 32 from by omega]; rfl
  rw [e, Int.mul_comm x, Int.mul_emod_mul_of_pos _ _ (pow_two_pos r)]
  exact Int.mul_emod_right _ _

set_option maxHeartbeats 400000 in
theorem shiftUp_any (w : World) (ax : Option Addr) (n c : Nat) (xs : List Int) (hX : Sl w ax n c xs) (hb : n ≤ 1000000) (s : Nat) (hs : s ≤ 1000000) :
    Calls Try.prog 85 #[.slice ax n c, .int .i64 s] w fun e w' => ∃ zs, e = .returned (.slice (some ⟨w.heap.size, 0, none⟩) (n + s / 32 + 1) (n + s / 32 + 1)) ∧ zs.length = n + s / 32 + 1 ∧ Row w' 63 w.heap.size zs ∧ val zs = val xs * 2 ^ s ∧ Below w.heap.size w w' := by
  have hn := hidd hX.len
  have hrs : s % 32 < 32 := Nat.mod_lt _ (by decide)
  obtain ⟨hp0, hp1⟩ := two_le _ hrs
  go_enter Try.func85, Try.ntmps85
  go_wp2_with (at_make; refine wpList_make_words _ rfl _ _ 22 rfl 63 Try.underlying22 (by kernel_rfl) _ _ _ _ rfl rfl (n + s / 32 + 1) rfl rfl (by omega) ?_; intro w1 hrow hb1 hs1)
  go_loopw [23] (fun i wr => ∃ (k : Nat) (zs : List Int), k ≤ n ∧ i = .int .i64 k ∧ zs.length = n + s / 32 + 1 ∧ Row wr 63 w.heap.size zs ∧ Below w.heap.size w wr ∧ val (zs.take (k + s / 32 + 1)) = val (xs.take k) * 2 ^ (s % 32) * pw (s / 32) ∧ zs.getD (k + s / 32) 0 < 2 ^ (s % 32)) (fun i _ => n - (intOf i).toNat)
  case atStart =>
    refine ⟨0, _, Nat.zero_le _, rfl, by simp, hrow, hb1, ?_, ?_⟩
    · rw [List.take_replicate, val_replicate]; simp [val]
    · rw [show (List.replicate (n + s / 32 + 1) (0 : Int)).getD (0 + s / 32) 0 = 0 from by simp [List.getD, List.getElem?_replicate]; split <;> rfl]; omega
  case round =>
    obtain ⟨k, zs, hk, rfl, hzl, hr, hbr, hv, hlt⟩ := hrel
    have HZ := hidd hzl
    have HV := hidd hv
    have HL := hidd hlt
    clear hv hlt
    by_cases hkn : k < n
    · have hkz : k + s / 32 < zs.length := by omega
      have hkz2 : k + s / 32 + 1 < zs.length := by omega
      have hfr := hr.frozen (k + s / 32)
      have hfr2 := hr.frozen (k + s / 32 + 1)
      clear hzl hrow hb1 hs1
      obtain ⟨b, off, rfl, hbl, x, hxc0, hx0, hx1, HX⟩ := hX.cells.at (k := k) (by rw [hn.out]; exact hkn)
      have hxc := (hbr.cell (p := ⟨b, off + k, none⟩) hbl).trans hxc0
      clear hxc0
      obtain ⟨z, hzc, hz0, hz1, HZK⟩ := hr.at hkz
      obtain ⟨z2, hzc2, _, _, _⟩ := hr.at hkz2
      have hxp0 : 0 ≤ x * 2 ^ (s % 32) := Int.mul_nonneg hx0 (by omega)
      have hxp2 : x * 2 ^ (s % 32) ≤ 4294967295 * 2 ^ (s % 32) := Int.mul_le_mul_of_nonneg_right (by omega) (by omega)
      have hxp1 : x * 2 ^ (s % 32) ≤ 9223372036854775807 := by omega
      have hzp : z < 2 ^ (s % 32) := by have := HL.out; rw [HZK.out] at this; exact this
      obtain ⟨u, hor⟩ : ∃ u, bits .or .u32 z (x * 2 ^ (s % 32) % 4294967296) = u := ⟨_, rfl⟩
      have HU : Hid (u = z + x * 2 ^ (s % 32) % 4294967296) := by
        have := (or_u32 (s % 32) (x * 2 ^ (s % 32) % 4294967296) z (by omega) (by omega) hz0 hz1 hzp (mul_pow_dvd x _ (by omega))).2
        exact hor.symm.trans (this.trans (Int.add_comm _ _))
      have hu0 : 0 ≤ u := by have := HU.out; omega
      have hu1 : u < 4294967296 := by
        rw [← hor]
        obtain ⟨a, rfl⟩ := Int.eq_ofNat_of_zero_le hz0
        have hnn : 0 ≤ x * 2 ^ (s % 32) % 4294967296 := by omega
        have hlt : x * 2 ^ (s % 32) % 4294967296 < 4294967296 := by omega
        generalize x * 2 ^ (s % 32) % 4294967296 = y at *
        obtain ⟨b', rfl⟩ := Int.eq_ofNat_of_zero_le hnn
        rw [u32_or_nat a b' (by omega) (by omega)]
        have := Nat.or_lt_two_pow (x := a) (y := b') (n := 32) (by omega) (by omega)
        omega
      go_wp2
      go_roundw
      case rel =>
        have h2 : x * 2 ^ (s % 32) / 4294967296 < 2 ^ (s % 32) := Int.ediv_lt_of_lt_mul (by decide) (by omega)
        refine ⟨k + 1, _, by omega, by go_num, ?_, (hr.set ⟨hu0, hu1⟩).set ⟨by omega, by omega⟩, (hbr.setCell (Nat.le_refl _) _).setCell (Nat.le_refl _) _, ?_, ?_⟩
        · simp [HZ.out]
        · rw [HU.out]; exact shl_step hkz2 HV.out HZK.out HX.out
        · rw [show k + 1 + s / 32 = k + s / 32 + 1 from by omega, getD_set _ _ _ (by simpa using hkz2)]; exact h2
      case measure => simp [intOf]; omega
    · obtain rfl : k = n := by omega
      clear hrow hb1 hs1
      go_wp2
      go_ret
      refine ⟨zs, rfl, HZ.out, hr, ?_, hbr⟩
      have := HV.out
      rw [val_take_all _ (by rw [HZ.out]; omega), val_take_all _ (by rw [hn.out]; omega)] at this
      rw [this, pw_two, Int.mul_assoc, ← Int.pow_add]
      congr 2
      omega

/-- One word of a shift down. -/
theorem shr_step {zs ys : List Int} {k : Nat} {p y y2 z : Int} (hk : k < zs.length) (h : p * val (zs.take k) = val (ys.take k) - ys.getD 0 0 % p + pw k * (ys.getD k 0 % p))
    (hy : ys.getD k 0 = y) (hy2 : ys.getD (k + 1) 0 = y2) (hz : p * z = y - y % p + 4294967296 * (y2 % p)) :
    p * val ((zs.set k z).take (k + 1)) = val (ys.take (k + 1)) - ys.getD 0 0 % p + pw (k + 1) * (ys.getD (k + 1) 0 % p) := by
  rw [val_take_succ, val_take_set _ _ _ _ (Nat.le_refl _), getD_set _ _ _ hk, val_take_succ, hy, hy2, Int.mul_add, h, hy, pw_succ]
  have h1 : p * (pw k * z) = pw k * (p * z) := by ac_rfl
  rw [h1, hz, Int.mul_add, Int.mul_sub]
  have h2 : pw k * 4294967296 * (y2 % p) = pw k * (4294967296 * (y2 % p)) := by ac_rfl
  rw [h2]
  omega

theorem shr_end {xs ys : List Int} {p : Int} {s n : Nat} {V : Int} (hp : p = 2 ^ (s % 32)) (hn : xs.length = n) (hd : Digs xs) (hs : s ≤ 32 * n) (hys : ys = xs.drop (s / 32)) (h : p * V = val ys - ys.getD 0 0 % p) : V = val xs / 2 ^ s := by
  have hp0 : 0 < p := by rw [hp]; exact pow_two_pos _
  have e := val_split xs (k := s / 32) (by omega)
  rw [← hys] at e
  have hd1 := val_nonneg (hd.take (s / 32))
  have hd2 := val_lt (hd.take (s / 32))
  rw [List.length_take, Nat.min_eq_left (by omega)] at hd2
  have hm0 := Int.emod_nonneg (ys.getD 0 0) (Int.ne_of_gt hp0)
  have hm1 := Int.emod_lt_of_pos (ys.getD 0 0) hp0
  have e2 : (2 : Int) ^ s = pw (s / 32) * p := by
    rw [hp, pw_two, ← Int.pow_add]; congr 1; omega
  have h3 : val ys = p * V + ys.getD 0 0 % p := by omega
  rw [h3, Int.mul_add] at e
  have hle := Int.mul_le_mul_of_nonneg_left (show ys.getD 0 0 % p + 1 ≤ p by omega) (Int.le_of_lt (pw_pos (s / 32)))
  rw [Int.mul_add] at hle
  have h4 := Int.mul_nonneg (Int.le_of_lt (pw_pos (s / 32))) hm0
  have e5 : pw (s / 32) * (p * V) = (pw (s / 32) * p) * V := by ac_rfl
  rw [e5] at e
  rw [e2]
  generalize hP : pw (s / 32) * p = P at *
  have hP0 : 0 < P := by rw [← hP]; exact Int.mul_pos (pw_pos _) hp0
  refine ediv_unique (r := val (xs.take (s / 32)) + pw (s / 32) * (ys.getD 0 0 % p)) (by rw [e]; omega) ?_ ?_ hP0
  · omega
  · omega

end Go.Proofs.Ytjpbmghdamcdcaa
