/- Walks: a word as a size, and the division of a size by a word in its place. -/
import Derived.Test.YtjpbmghdamcdcaaA
namespace Go.Proofs.Ytjpbmghdamcdcaa
open Go.RowKit

set_option maxHeartbeats 400000 in
theorem fromWord_any (w : World) (q : Int) (hq0 : 0 ≤ q) (hq1 : q < 18446744073709551616) :
    Calls Try.prog 64 #[.int .u64 q] w fun e w' => ∃ ao m c zs, e = .returned (.slice ao m c) ∧ m ≤ 2 ∧ Sl w' ao m c zs ∧ Canon zs ∧ val zs = q ∧ Below w.heap.size w w' := by
  have hr : Row (w.alloc (.cells #[.int .u32 (q % 4294967296), .int .u32 (q / 4294967296)] 63)) 63 w.heap.size [q % 4294967296, q / 4294967296] := by
    refine ⟨fun x hx => ?_, ?_⟩
    · simp at hx
      unfold Dig
      rcases hx with rfl | rfl <;> omega
    · rw [heap_alloc_new]; rfl
  have hs := hr.sl (n := 2) rfl
  have hbl : Below w.heap.size w (w.alloc (.cells #[.int .u32 (q % 4294967296), .int .u32 (q / 4294967296)] 63)) := (Below.refl _ _).alloc (Nat.le_refl _) _
  have hv : val [q % 4294967296, q / 4294967296] = q := by simp only [val]; omega
  have HV := hidd hv
  clear hv hr
  go_enter Try.func64, Try.ntmps64
  go_wp2_with (go_at_call 53; refine (trim_any _ _ _ _ _ hs (by omega)).mono ?_; rintro e w' ⟨m, rfl, hm, hsm, hvm, hcm, rfl⟩)
  go_ret
  exact ⟨_, m, 2, _, rfl, hm, hsm, hcm, hvm.trans HV.out, hbl⟩

set_option maxHeartbeats 400000 in
theorem divWord_any (w : World) (b n c : Nat) (zs : List Int) (hR : Row w 63 b zs) (hn : n ≤ zs.length) (hb : n ≤ 4000000) (d : Int) (hd0 : 0 < d) (hd1 : d < 4294967296) :
    Calls Try.prog 77 #[.slice (some ⟨b, 0, none⟩) n c, .int .u32 d] w fun e w' => ∃ r zs', e = .returned (.int .u32 r) ∧ 0 ≤ r ∧ r < d ∧ Row w' 63 b zs' ∧ zs'.length = zs.length ∧ zs'.drop n = zs.drop n ∧
      val (zs.take n) = val (zs'.take n) * d + r ∧ w.grownBy w' (some b) := by
  go_enter Try.func77, Try.ntmps77
  go_wp2
  go_loopw [5, 6] (fun u i wr => ∃ (k : Nat) (r : Int) (us : List Int), k ≤ n ∧ i = .int .i64 ((k : Int) - 1) ∧ u = .int .u64 r ∧ 0 ≤ r ∧ r < d ∧ us.length = zs.length ∧ Row wr 63 b us ∧ us.drop n = zs.drop n ∧ us.take k = zs.take k ∧
      val ((zs.take n).drop k) = val ((us.take n).drop k) * d + r ∧ w.grownBy wr (some b)) (fun _ i _ => (intOf i + 1).toNat)
  case atStart => exact ⟨n, 0, zs, Nat.le_refl _, rfl, rfl, by omega, by omega, rfl, hR, rfl, rfl, by rw [List.drop_of_length_le (by rw [List.length_take]; omega)]; simp [val], World.grownBy.refl _ _⟩
  case round =>
    obtain ⟨k, r, us, hk, rfl, rfl, hr0, hr1, hul, hr, hdr, htk, hv, hg⟩ := hrel
    have HUL := hidd hul
    have HDR := hidd hdr
    have HTK := hidd htk
    have HV := hidd hv
    clear hul hdr htk hv
    by_cases h0 : 0 < k
    · have hku : k - 1 < us.length := by rw [HUL.out]; omega
      obtain ⟨x, hxc, hx0, hx1, HX⟩ := hr.at hku
      have hfr := hr.frozen (k - 1)
      obtain ⟨t, hor⟩ : ∃ t, bits .or .u64 (r * 4294967296) x = t := ⟨_, rfl⟩
      have HT : Hid (t = x + r * 4294967296) := hor.symm.trans (or_halves x r hx0 hx1 hr0 (by omega)).2
      have ht0 : 0 ≤ t := by have := HT.out; omega
      have ht1 : t < 18446744073709551616 := by have := HT.out; omega
      have hq0 : 0 ≤ t / d := Int.ediv_nonneg ht0 (by omega)
      have hq1 : t / d < 4294967296 := by
        rw [HT.out]
        refine Int.ediv_lt_of_lt_mul hd0 ?_
        have h1 : (r + 1) * 4294967296 ≤ d * 4294967296 := by omega
        omega
      have hm0 : 0 ≤ t % d := Int.emod_nonneg _ (by omega)
      have hm1 : t % d < d := Int.emod_lt_of_pos _ hd0
      go_wp2
      go_roundw
      case rel =>
        have e1 : t / d % 4294967296 = t / d := Int.emod_eq_of_lt hq0 hq1
        refine ⟨k - 1, t % d, us.set (k - 1) (t / d), by omega, by go_num, rfl, hm0, hm1, by simp [HUL.out], ?_, ?_, ?_, ?_, ?_⟩
        · first | exact hr.set ⟨hq0, hq1⟩ | (rw [e1]; exact hr.set ⟨hq0, hq1⟩)
        · rw [List.drop_set_of_lt (by omega)]; exact HDR.out
        · rw [List.take_set_of_le (Nat.le_refl _)]
          have := congrArg (List.take (k - 1)) HTK.out
          simpa [List.take_take, Nat.min_eq_left (show k - 1 ≤ k by omega)] using this
        · have hx : zs.getD (k - 1) 0 = x := by
            have := congrArg (fun l : List Int => l.getD (k - 1) 0) HTK.out
            simp only [getD_take, if_pos (show k - 1 < k by omega)] at this
            rw [← this]; exact HX.out
          rw [val_drop_step (zs.take n) (k := k - 1) (by rw [List.length_take]; omega), val_drop_step ((us.set (k - 1) (t / d)).take n) (k := k - 1) (by simp; omega)]
          rw [getD_take, getD_take, if_pos (by omega), if_pos (by omega), getD_set _ _ _ hku, hx, show k - 1 + 1 = k from by omega, HV.out]
          rw [List.take_set, List.drop_set_of_lt (by omega)]
          have h3 := Int.mul_ediv_add_emod t d
          have h4 := HT.out
          rw [Int.add_mul, Int.mul_assoc, Int.mul_comm (t / d) d]
          omega
        · exact grownBy_trans hg (grownBy_set _ _ _ _)
      case measure => simp [intOf]; omega
    · go_wp2
      go_ret
      obtain rfl : k = 0 := by omega
      have e1 : r % 4294967296 = r := Int.emod_eq_of_lt hr0 (by omega)
      refine ⟨r, us, by first | rfl | (rw [← e1]; rfl), hr0, hr1, hr, HUL.out, HDR.out, by simpa using HV.out, hg⟩

end Go.Proofs.Ytjpbmghdamcdcaa
