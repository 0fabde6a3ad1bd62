/- Walks: the sum, the difference and the product of sizes. -/
import Derived.Test.YtjpbmghdamcdcaaRows
import Derived.Test.YtjpbmghdamcdcaaVal
namespace Go.Proofs.Ytjpbmghdamcdcaa
open Go.RowKit

set_option maxHeartbeats 400000 in
theorem addSize_le (w : World) (ax ay : Option Addr) (n m cx cy : Nat) (xs ys : List Int) (hX : Sl w ax n cx xs) (hY : Sl w ay m cy ys) (hnm : m ≤ n) (hb : n ≤ 1000000) :
    Calls Try.prog 55 #[.slice ax n cx, .slice ay m cy] w fun e w' => ∃ ao c zs, e = .returned (.slice ao (n + 1) c) ∧ Sl w' ao (n + 1) c zs ∧ val zs = val xs + val ys ∧ Below w.heap.size w w' := by
  have hn := hidd hX.len
  have hm := hidd hY.len
  have hx := hX.cells
  have hy := hY.cells
  clear hX hY
  go_enter Try.func55, Try.ntmps55
  have hnm' : ¬ (n < m) := by omega
  go_wp2_with (at_make; refine wpList_make_words _ rfl _ _ 22 rfl 63 Try.underlying22 (by kernel_rfl) _ _ _ _ rfl rfl (n+1) rfl rfl (by omega) ?_; intro w1 hrow hb1 hs1)
  go_loopw [6, 23] (fun c i wr => ∃ (k : Nat) (q : Int) (zs : List Int), k ≤ n ∧ i = .int .i64 k ∧ c = .int .u64 q ∧ 0 ≤ q ∧ q ≤ 1 ∧ zs.length = n + 1 ∧ Row wr 63 w.heap.size zs ∧ Below w.heap.size w wr ∧ val (zs.take k) + pw k * q = val (xs.take k) + val (ys.take k)) (fun _ i _ => n - (intOf i).toNat)
  case atStart => exact ⟨0, 0, _, Nat.zero_le _, rfl, rfl, by omega, by omega, by simp, hrow, hb1, by simp [val]⟩
  case round =>
    obtain ⟨k, q, zs, hk, rfl, rfl, hq0, hq1, hzl, hr, hbr, hval⟩ := hrel
    have HV := hidd hval
    have HZ := hidd hzl
    have hkz : k < zs.length := by omega
    have hnz : n < zs.length := by omega
    have hfr := hr.frozen k
    clear hval hzl hrow hb1 hs1
    by_cases hkn : k < n
    · obtain ⟨b, off, rfl, hbl, x, hxc0, hx0, hx1, HX⟩ := hx.at (k := k) (by rw [hn.out]; exact hkn)
      have hxc := (hbr.cell (p := ⟨b, off + k, none⟩) hbl).trans hxc0
      clear hxc0
      obtain ⟨z, hzc, _, _, _⟩ := hr.at hkz
      by_cases hkm : k < m
      · obtain ⟨b2, off2, rfl, hbl2, y, hyc0, hy0, hy1, HY⟩ := hy.at (k := k) (by rw [hm.out]; exact hkm)
        have hyc := (hbr.cell (p := ⟨b2, off2 + k, none⟩) hbl2).trans hyc0
        clear hyc0
        go_wp2
        go_roundw
        case rel => exact ⟨k + 1, _, zs.set k ((x + q + y) % 4294967296), by omega, by go_num, rfl, by omega, by omega, by simp [HZ.out], hr.set ⟨by omega, by omega⟩, hbr.setCell (Nat.le_refl _) _, add_step hkz HV.out HX.out HY.out⟩
        case measure => simp [intOf]; omega
      · go_wp2
        go_roundw
        case rel =>
          have HY : ys.getD k 0 = 0 := getD_out (by rw [hm.out]; omega)
          have := add_step hkz HV.out HX.out HY
          simp only [Int.add_zero] at this
          exact ⟨k + 1, _, zs.set k ((x + q) % 4294967296), by omega, by go_num, rfl, by omega, by omega, by simp [HZ.out], hr.set ⟨by omega, by omega⟩, hbr.setCell (Nat.le_refl _) _, this⟩
        case measure => simp [intOf]; omega
    · obtain rfl : k = n := by omega
      obtain ⟨z, hzc, _, _, _⟩ := hr.at hkz
      go_wp2
      go_ret
      refine ⟨_, _, zs.set k q, rfl, ⟨by simp [HZ.out], Nat.le_refl _, (hr.set ⟨by omega, by omega⟩).cells⟩, ?_, hbr.setCell (Nat.le_refl _) _⟩
      have e1 := val_take_succ (zs.set k q) k
      rw [val_take_all _ (by simp [HZ.out]), val_take_set _ _ _ _ (Nat.le_refl _), getD_set _ _ _ hkz] at e1
      have e2 := HV.out
      rw [val_take_all xs (by rw [hn.out]; omega), val_take_all ys (by rw [hm.out]; omega)] at e2
      omega

set_option maxHeartbeats 400000 in
theorem addSize_gt (w : World) (ax ay : Option Addr) (n m cx cy : Nat) (xs ys : List Int) (hX : Sl w ax n cx xs) (hY : Sl w ay m cy ys) (hnm : n < m) (hb : m ≤ 1000000) :
    Calls Try.prog 55 #[.slice ax n cx, .slice ay m cy] w fun e w' => ∃ ao c zs, e = .returned (.slice ao (m + 1) c) ∧ Sl w' ao (m + 1) c zs ∧ val zs = val xs + val ys ∧ Below w.heap.size w w' := by
  have hn := hidd hX.len
  have hm := hidd hY.len
  have hx := hX.cells
  have hy := hY.cells
  clear hX hY
  go_enter Try.func55, Try.ntmps55
  go_wp2_with (at_make; refine wpList_make_words _ rfl _ _ 22 rfl 63 Try.underlying22 (by kernel_rfl) _ _ _ _ rfl rfl (m+1) rfl rfl (by omega) ?_; intro w1 hrow hb1 hs1)
  go_loopw [6, 23] (fun c i wr => ∃ (k : Nat) (q : Int) (zs : List Int), k ≤ m ∧ i = .int .i64 k ∧ c = .int .u64 q ∧ 0 ≤ q ∧ q ≤ 1 ∧ zs.length = m + 1 ∧ Row wr 63 w.heap.size zs ∧ Below w.heap.size w wr ∧ val (zs.take k) + pw k * q = val (ys.take k) + val (xs.take k)) (fun _ i _ => m - (intOf i).toNat)
  case atStart => exact ⟨0, 0, _, Nat.zero_le _, rfl, rfl, by omega, by omega, by simp, hrow, hb1, by simp [val]⟩
  case round =>
    obtain ⟨k, q, zs, hk, rfl, rfl, hq0, hq1, hzl, hr, hbr, hval⟩ := hrel
    have HV := hidd hval
    have HZ := hidd hzl
    have hkz : k < zs.length := by omega
    have hnz : m < zs.length := by omega
    have hfr := hr.frozen k
    clear hval hzl hrow hb1 hs1
    by_cases hkm : k < m
    · obtain ⟨b2, off2, rfl, hbl2, y, hyc0, hy0, hy1, HY⟩ := hy.at (k := k) (by rw [hm.out]; exact hkm)
      have hyc := (hbr.cell (p := ⟨b2, off2 + k, none⟩) hbl2).trans hyc0
      clear hyc0
      obtain ⟨z, hzc, _, _, _⟩ := hr.at hkz
      by_cases hkn : k < n
      · obtain ⟨b, off, rfl, hbl, x, hxc0, hx0, hx1, HX⟩ := hx.at (k := k) (by rw [hn.out]; exact hkn)
        have hxc := (hbr.cell (p := ⟨b, off + k, none⟩) hbl).trans hxc0
        clear hxc0
        go_wp2
        go_roundw
        case rel => exact ⟨k + 1, _, zs.set k ((y + q + x) % 4294967296), by omega, by go_num, rfl, by omega, by omega, by simp [HZ.out], hr.set ⟨by omega, by omega⟩, hbr.setCell (Nat.le_refl _) _, add_step hkz HV.out HY.out HX.out⟩
        case measure => simp [intOf]; omega
      · go_wp2
        go_roundw
        case rel =>
          have HX : xs.getD k 0 = 0 := getD_out (by rw [hn.out]; omega)
          have := add_step hkz HV.out HY.out HX
          simp only [Int.add_zero] at this
          exact ⟨k + 1, _, zs.set k ((y + q) % 4294967296), by omega, by go_num, rfl, by omega, by omega, by simp [HZ.out], hr.set ⟨by omega, by omega⟩, hbr.setCell (Nat.le_refl _) _, this⟩
        case measure => simp [intOf]; omega
    · obtain rfl : k = m := by omega
      obtain ⟨z, hzc, _, _, _⟩ := hr.at hkz
      go_wp2
      go_ret
      refine ⟨_, _, zs.set k q, rfl, ⟨by simp [HZ.out], Nat.le_refl _, (hr.set ⟨by omega, by omega⟩).cells⟩, ?_, hbr.setCell (Nat.le_refl _) _⟩
      have e1 := val_take_succ (zs.set k q) k
      rw [val_take_all _ (by simp [HZ.out]), val_take_set _ _ _ _ (Nat.le_refl _), getD_set _ _ _ hkz] at e1
      have e2 := HV.out
      rw [val_take_all xs (by rw [hn.out]; omega), val_take_all ys (by rw [hm.out]; omega)] at e2
      omega

/-- The sum of two sizes. -/
theorem addSize_any (w : World) (ax ay : Option Addr) (n m cx cy : Nat) (xs ys : List Int) (hX : Sl w ax n cx xs) (hY : Sl w ay m cy ys) (hb1 : n ≤ 1000000) (hb2 : m ≤ 1000000) :
    Calls Try.prog 55 #[.slice ax n cx, .slice ay m cy] w fun e w' => ∃ ao k c zs, e = .returned (.slice ao k c) ∧ k ≤ max n m + 1 ∧ Sl w' ao k c zs ∧ val zs = val xs + val ys ∧ Below w.heap.size w w' := by
  by_cases h : m ≤ n
  · refine (addSize_le w ax ay n m cx cy xs ys hX hY h hb1).mono ?_
    rintro e w' ⟨ao, c, zs, he, hs, hv, hB⟩
    exact ⟨ao, _, c, zs, he, by omega, hs, hv, hB⟩
  · refine (addSize_gt w ax ay n m cx cy xs ys hX hY (by omega) hb2).mono ?_
    rintro e w' ⟨ao, c, zs, he, hs, hv, hB⟩
    exact ⟨ao, _, c, zs, he, by omega, hs, hv, hB⟩

set_option maxHeartbeats 400000 in
theorem subSize_any (w : World) (ax ay : Option Addr) (n m cx cy : Nat) (xs ys : List Int) (hX : Sl w ax n cx xs) (hY : Sl w ay m cy ys) (hnm : m ≤ n) (hle : val ys ≤ val xs) (hb : n ≤ 1000000) :
    Calls Try.prog 56 #[.slice ax n cx, .slice ay m cy] w fun e w' => ∃ ao c zs, e = .returned (.slice ao n c) ∧ Sl w' ao n c zs ∧ val zs = val xs - val ys ∧ Below w.heap.size w w' := by
  have hn := hidd hX.len
  have hm := hidd hY.len
  have hx := hX.cells
  have hy := hY.cells
  have HLE := hidd hle
  clear hX hY hle
  go_enter Try.func56, Try.ntmps56
  go_wp2_with (at_make; refine wpList_make_words _ rfl _ _ 22 rfl 63 Try.underlying22 (by kernel_rfl) _ _ _ _ rfl rfl n rfl rfl (by omega) ?_; intro w1 hrow hb1 hs1)
  go_loopw [6, 15] (fun c i wr => ∃ (k : Nat) (q : Int) (zs : List Int), k ≤ n ∧ i = .int .i64 k ∧ c = .int .u64 q ∧ 0 ≤ q ∧ q ≤ 1 ∧ zs.length = n ∧ Row wr 63 w.heap.size zs ∧ Below w.heap.size w wr ∧ val (zs.take k) = val (xs.take k) - val (ys.take k) + pw k * q) (fun _ i _ => n - (intOf i).toNat)
  case atStart => exact ⟨0, 0, _, Nat.zero_le _, rfl, rfl, by omega, by omega, by simp, hrow, hb1, by simp [val]⟩
  case round =>
    obtain ⟨k, q, zs, hk, rfl, rfl, hq0, hq1, hzl, hr, hbr, hval⟩ := hrel
    have HV := hidd hval
    have HZ := hidd hzl
    have hfr := hr.frozen k
    by_cases hkn : k < n
    · have hkz : k < zs.length := by omega
      clear hval hzl hrow hb1 hs1
      obtain ⟨b, off, rfl, hbl, x, hxc0, hx0, hx1, HX⟩ := hx.at (k := k) (by rw [hn.out]; exact hkn)
      have hxc := (hbr.cell (p := ⟨b, off + k, none⟩) hbl).trans hxc0
      clear hxc0
      obtain ⟨z, hzc, _, _, _⟩ := hr.at hkz
      by_cases hkm : k < m
      · obtain ⟨b2, off2, rfl, hbl2, y, hyc0, hy0, hy1, HY⟩ := hy.at (k := k) (by rw [hm.out]; exact hkm)
        have hyc := (hbr.cell (p := ⟨b2, off2 + k, none⟩) hbl2).trans hyc0
        clear hyc0
        go_wp2
        go_roundw
        case rel =>
          rw [sub_dig x q y hx0 hx1 hq0 hq1 hy0 hy1, sub_bor x q y hx0 hx1 hq0 hq1 hy0 hy1]
          exact ⟨k + 1, _, zs.set k ((x - q - y) % 4294967296), by omega, by go_num, rfl, by omega, by omega, by simp [HZ.out], hr.set ⟨by omega, by omega⟩, hbr.setCell (Nat.le_refl _) _, sub_step hkz HV.out HX.out HY.out⟩
        case measure => simp [intOf]; omega
      · go_wp2
        go_roundw
        case rel =>
          rw [sub_dig0 x q hx0 hx1 hq0 hq1, sub_bor0 x q hx0 hx1 hq0 hq1]
          have HY : ys.getD k 0 = 0 := getD_out (by rw [hm.out]; omega)
          have := sub_step hkz HV.out HX.out HY
          simp only [Int.sub_zero] at this
          exact ⟨k + 1, _, zs.set k ((x - q) % 4294967296), by omega, by go_num, rfl, by omega, by omega, by simp [HZ.out], hr.set ⟨by omega, by omega⟩, hbr.setCell (Nat.le_refl _) _, this⟩
        case measure => simp [intOf]; omega
    · obtain rfl : k = n := by omega
      clear hval hzl hrow hb1 hs1
      go_wp2
      go_ret
      refine ⟨_, _, zs, rfl, ⟨HZ.out, Nat.le_refl _, hr.cells⟩, ?_, hbr⟩
      have e2 := HV.out
      rw [val_take_all xs (by rw [hn.out]; omega), val_take_all ys (by rw [hm.out]; omega), val_take_all zs (by rw [HZ.out]; omega)] at e2
      have hlt := val_lt hr.1
      rw [HZ.out] at hlt
      have h0 := val_nonneg hr.1
      have hle := HLE.out
      have hp := pw_pos k
      rcases (by omega : q = 0 ∨ q = 1) with rfl | rfl
      · omega
      · omega

end Go.Proofs.Ytjpbmghdamcdcaa
