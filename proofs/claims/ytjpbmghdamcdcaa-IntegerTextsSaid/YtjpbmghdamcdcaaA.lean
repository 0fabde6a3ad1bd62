/- Walks: the leaves: order, trim, copied, toWord, fromWord, bits, cmpSize. -/
import Derived.Test.YtjpbmghdamcdcaaRows
import Derived.Test.YtjpbmghdamcdcaaVal
import Derived.BigQuiet
import Derived.Deep.QuietTactic
namespace Go.Proofs.Ytjpbmghdamcdcaa
open Go.RowKit

theorem order_any (b : Bool) (w : World) : Calls Try.prog 69 #[.bool b] w fun e w' => e = .returned (.int .i64 (if b then -1 else 1)) ∧ w = w' := by
  cases b
  · go_enter Try.func69, Try.ntmps69
    go_wp2
    go_ret
    exact ⟨rfl, rfl⟩
  · go_enter Try.func69, Try.ntmps69
    go_wp2
    go_ret
    exact ⟨rfl, rfl⟩

set_option maxHeartbeats 400000 in
theorem trim_any (w : World) (ax : Option Addr) (n c : Nat) (xs : List Int) (hX : Sl w ax n c xs) (hb : n ≤ 4000000) :
    Calls Try.prog 53 #[.slice ax n c] w fun e w' => ∃ m, e = .returned (.slice ax m c) ∧ m ≤ n ∧ Sl w ax m c (xs.take m) ∧ val (xs.take m) = val xs ∧ Canon (xs.take m) ∧ w = w' := by
  have hn := hidd hX.len
  have hx := hX.cells
  have hnc := hX.cap
  go_enter Try.func53, Try.ntmps53
  go_wp2
  go_loop [3] (fun v => ∃ k : Nat, k ≤ n ∧ v = .int .i64 k ∧ val (xs.take k) = val xs) (fun v => (intOf v).toNat)
  case atStart => exact ⟨n, Nat.le_refl _, rfl, val_take_all _ (by rw [hn.out]; omega)⟩
  case round =>
    obtain ⟨k, hk, rfl, ht⟩ := hrel
    have HT := hidd ht
    clear ht
    by_cases h0 : 0 < k
    · obtain ⟨b, off, rfl, hbl, x, hxc, hx0, hx1, HX⟩ := hx.at (k := k - 1) (by rw [hn.out]; omega)
      by_cases hz : x = 0
      · have hz1 : (x == 0) = true := by simp [hz]
        have HZ := hidd hz
        clear hz
        go_wp2
        go_round
        case rel =>
          refine ⟨k - 1, by omega, by go_num, ?_⟩
          have e := val_take_succ xs (k - 1)
          rw [show k - 1 + 1 = k from by omega, HX.out, HZ.out, HT.out] at e
          omega
        case measure => simp [intOf]; omega
      · have hz1 : (x == 0) = false := by simp [hz]
        go_wp2
        go_ret
        refine ⟨k, rfl, hk, hX.take hk, HT.out, ⟨(hX.take hk).digs, .inr ?_⟩, rfl⟩
        have e := val_take_succ xs (k - 1)
        rw [show k - 1 + 1 = k from by omega, HX.out] at e
        have h1 := val_nonneg (hX.take (show k - 1 ≤ n by omega)).digs
        have h2 := Int.mul_le_mul_of_nonneg_left (show (1 : Int) ≤ x by omega) (Int.le_of_lt (pw_pos (k - 1)))
        rw [(hX.take hk).len]
        omega
    · obtain rfl : k = 0 := by omega
      go_wp2
      go_ret
      exact ⟨0, rfl, hk, hX.take hk, HT.out, ⟨(hX.take hk).digs, .inl (by simp)⟩, rfl⟩

set_option maxHeartbeats 400000 in
theorem copied_any (w : World) (ax : Option Addr) (n c : Nat) (xs : List Int) (hX : Sl w ax n c xs) (hb : n ≤ 4000000) :
    Calls Try.prog 62 #[.slice ax n c] w fun e w' => e = .returned (.slice (some ⟨w.heap.size, 0, none⟩) n n) ∧ Row w' 63 w.heap.size xs ∧ Below w.heap.size w w' := by
  go_enter Try.func62, Try.ntmps62
  go_wp2_with (first | (at_make; refine wpList_make_words _ rfl _ _ 22 rfl 63 Try.underlying22 (by kernel_rfl) _ _ _ _ rfl rfl n rfl rfl (by omega) ?_; intro w1 hrow hb1 hs1) | (with_reducible refine wpList_copy_words rfl (.tmp 7) (.tmp 8) 22 22 rfl 63 Try.underlying22 (by kernel_rfl) 63 _ n n c _ xs ax rfl rfl hrow (by simp) (hX.mono hb1) w.heap.size w hb1 (Nat.le_refl _) ?_; intro w2 hrow2 hb2))
  go_ret
  exact ⟨rfl, hrow2, hb2⟩

set_option maxHeartbeats 400000 in
theorem toWord_any (w : World) (ax : Option Addr) (n c : Nat) (xs : List Int) (hX : Sl w ax n c xs) (hb : n ≤ 2) :
    Calls Try.prog 63 #[.slice ax n c] w fun e w' => e = .returned (.int .u64 (val xs)) ∧ w = w' := by
  have hn := hidd hX.len
  have hx := hX.cells
  go_enter Try.func63, Try.ntmps63
  go_wp2
  go_loop [3, 8] (fun u i => ∃ (k : Nat) (q : Int), k ≤ n ∧ i = .int .i64 k ∧ u = .int .u64 q ∧ 0 ≤ q ∧ q < 18446744073709551616 ∧ q = val (xs.take k)) (fun _ i => n - (intOf i).toNat)
  case atStart => exact ⟨0, 0, by omega, rfl, rfl, by omega, by omega, by simp [val]⟩
  case round =>
    obtain ⟨k, q, hk, rfl, rfl, hq0, hq1, hv⟩ := hrel
    have HV := hidd hv
    clear hv
    by_cases h0 : k < n
    · obtain ⟨b, off, rfl, hbl, x, hxc, hx0, hx1, HX⟩ := hx.at (k := k) (by rw [hn.out]; omega)
      rcases (by omega : k = 0 ∨ k = 1) with rfl | rfl
      · simp only [Nat.add_zero] at hxc
        go_wp2
        go_round
        case rel =>
          have e0 : q = 0 := HV.out
          have e1 : val (xs.take 1) = x := by rw [val_take_succ xs 0, HX.out, pw_zero]; simp [val]
          subst e0
          rw [or_zero_u64 x hx0 (by omega)]
          exact ⟨1, x, by omega, rfl, rfl, hx0, by omega, e1.symm⟩
        case measure => simp [intOf]; omega
      · go_wp2
        go_round
        case rel =>
          have h0 := (val_take_succ xs 0)
          have g := hX.digs.getD 0
          have e2 : val (xs.take 2) = q + x * 4294967296 := by rw [val_take_succ xs 1, HX.out, HV.out, pw_succ, pw_zero]; omega
          have e1 : q = xs.getD 0 0 := by rw [HV.out, h0, pw_zero]; simp [val]
          rw [(or_halves q x hq0 (by omega) hx0 hx1).1]
          exact ⟨2, _, by omega, rfl, rfl, by omega, by omega, e2.symm⟩
        case measure => simp [intOf]; omega
    · go_wp2
      go_ret
      have e : q = val xs := by rw [HV.out, val_take_all _ (by rw [hn.out]; omega)]
      subst e
      exact ⟨rfl, rfl⟩

/-- How many binary digits a number has. -/
def IsBits (v : Int) (m : Nat) : Prop := (v = 0 ∧ m = 0) ∨ (0 < m ∧ 2 ^ (m - 1) ≤ v ∧ v < 2 ^ m)

theorem bits_end {xs : List Int} {n k : Nat} {x q : Int} (hd : Digs xs) (hl : xs.length = n) (h0 : 0 < n) (hx : xs.getD (n - 1) 0 = x) (hx0 : 0 < x) (hx1 : x < 4294967296)
    (hq : q = 0) (h1 : q * 2 ^ k ≤ x) (h2 : x < (q + 1) * 2 ^ k) (h3 : k = 0 ∨ 2 ^ (k - 1) ≤ x) : IsBits (val xs) (32 * (n - 1) + k) := by
  subst hq
  have e := val_take_succ xs (n - 1)
  rw [show n - 1 + 1 = n from by omega, hx, val_take_all xs (by omega)] at e
  have hd' : Digs (xs.take (n - 1)) := fun y hy => hd y (List.mem_of_mem_take hy)
  have l0 := val_nonneg hd'
  have l1 := val_lt hd'
  rw [List.length_take, hl, Nat.min_eq_left (by omega)] at l1
  have hp := pw_pos (n - 1)
  have hk : 0 < k := by
    rcases Nat.eq_zero_or_pos k with rfl | h
    · simp at h2; omega
    · exact h
  refine .inr ⟨by omega, ?_, ?_⟩
  · have h4 : (2 : Int) ^ (k - 1) ≤ x := by rcases h3 with h | h; omega; exact h
    rw [show 32 * (n - 1) + k - 1 = 32 * (n - 1) + (k - 1) from by omega, Int.pow_add, ← pw_two]
    have := Int.mul_le_mul_of_nonneg_left h4 (Int.le_of_lt hp)
    omega
  · have h5 : x < 2 ^ k := by simpa using h2
    have h4 : x + 1 ≤ 2 ^ k := by omega
    rw [Int.pow_add, ← pw_two]
    have := Int.mul_le_mul_of_nonneg_left h4 (Int.le_of_lt hp)
    rw [Int.mul_add] at this
    omega

set_option maxHeartbeats 400000 in
theorem bits_any (w : World) (ax : Option Addr) (n c : Nat) (xs : List Int) (hX : Sl w ax n c xs) (hc : Canon xs) (hb : n ≤ 4000000) :
    Calls Try.prog 70 #[.slice ax n c] w fun e w' => ∃ m : Nat, e = .returned (.int .i64 m) ∧ IsBits (val xs) m ∧ m ≤ 32 * n ∧ w = w' := by
  have hn := hidd hX.len
  have hx := hX.cells
  by_cases h0 : n = 0
  · obtain rfl := h0
    have e : xs = [] := List.eq_nil_of_length_eq_zero hn.out
    go_enter Try.func70, Try.ntmps70
    go_wp2
    go_ret
    exact ⟨0, rfl, .inl ⟨by subst e; rfl, rfl⟩, by omega, rfl⟩
  · have h1 : ((n : Int) == 0) = false := by simp; omega
    obtain ⟨b, off, rfl, hbl, x, hxc, hx0, hx1, HX⟩ := hx.at (k := n - 1) (by rw [hn.out]; omega)
    have hxp : 0 < x := by
      rcases hc.2 with h | h
      · have := hn.out; omega
      · rcases (by omega : x = 0 ∨ 0 < x) with h2 | h2
        · exfalso
          have e := val_take_succ xs (n - 1)
          rw [show n - 1 + 1 = n from by omega, HX.out, h2, val_take_all xs (by rw [hn.out]; omega)] at e
          have l1 := val_lt (hX.take (show n - 1 ≤ n by omega)).digs
          rw [(hX.take (show n - 1 ≤ n by omega)).len] at l1
          rw [hn.out] at h
          omega
        · exact h2
    go_enter Try.func70, Try.ntmps70
    go_wp2
    go_loop [3, 4] (fun i u => ∃ (k : Nat) (q : Int), k ≤ 32 ∧ 0 ≤ q ∧ q < 4294967296 ∧ i = .int .i64 (32 * ((n : Int) - 1) + k) ∧ u = .int .u32 q ∧ q * 2 ^ k ≤ x ∧ x < (q + 1) * 2 ^ k ∧ (k = 0 ∨ 2 ^ (k - 1) ≤ x)) (fun _ u => (intOf u).toNat)
    case atStart => exact ⟨0, x, by omega, hx0, hx1, by simp, rfl, by simp, by simp; omega, .inl rfl⟩
    case round =>
      obtain ⟨k, q, hk, hq0, hq1, rfl, rfl, hv⟩ := hrel
      have HV := hidd hv
      clear hv
      by_cases hq : 0 < q
      · go_wp2
        go_round
        case rel =>
          obtain ⟨v1, v2, _⟩ := HV.out
          have hp := pow_two_pos k
          have h5 : (2 : Int) ^ k ≤ x := by
            have := Int.mul_le_mul_of_nonneg_right (show 1 ≤ q by omega) (Int.le_of_lt hp)
            omega
          have hk2 : k < 32 := by
            rcases Nat.lt_or_ge k 32 with h | h
            · exact h
            · have : k = 32 := by omega
              subst this; simp at h5; omega
          refine ⟨k + 1, q / 2, by omega, by omega, by omega, by rw [show ((k + 1 : Nat) : Int) = (k : Int) + 1 from rfl]; congr 1; omega, rfl, ?_, ?_, .inr h5⟩
          · rw [pow_two_succ]
            have : q / 2 * (2 ^ k * 2) = (q / 2 * 2) * 2 ^ k := by rw [Int.mul_comm (2 ^ k), Int.mul_assoc]
            have h6 := Int.mul_le_mul_of_nonneg_right (show q / 2 * 2 ≤ q by omega) (Int.le_of_lt hp)
            omega
          · rw [pow_two_succ]
            have : (q / 2 + 1) * (2 ^ k * 2) = ((q / 2 + 1) * 2) * 2 ^ k := by rw [Int.mul_comm (2 ^ k), Int.mul_assoc]
            have h6 := Int.mul_le_mul_of_nonneg_right (show q + 1 ≤ (q / 2 + 1) * 2 by omega) (Int.le_of_lt hp)
            omega
        case measure => simp [intOf]; omega
      · go_wp2
        go_ret
        obtain ⟨v1, v2, v3⟩ := HV.out
        refine ⟨32 * (n - 1) + k, ?_, bits_end hX.digs hn.out (by omega) HX.out hxp hx1 (by omega) v1 v2 v3, by omega, rfl⟩
        have : ((32 * (n - 1) + k : Nat) : Int) = 32 * ((n : Int) - 1) + k := by omega
        rw [this]; rfl

end Go.Proofs.Ytjpbmghdamcdcaa
