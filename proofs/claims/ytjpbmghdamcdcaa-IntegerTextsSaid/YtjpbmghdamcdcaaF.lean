/- Walk: a size is shifted down. -/
import Derived.Test.YtjpbmghdamcdcaaE
import Derived.StillTailTactics
namespace Go.Proofs.Ytjpbmghdamcdcaa
open Go.RowKit

theorem Sl.drop {w : World} {ao : Option Addr} {n c : Nat} {xs : List Int} (h : Sl w ao n c xs) {k : Nat} (hk : k ≤ n) : Sl w (if c = k then ao else ao.map (·.add k)) (n - k) (c - k) (xs.drop k) := by
  have hc := h.cap
  refine ⟨by rw [List.length_drop, h.len], by omega, h.digs.drop k, ?_⟩
  by_cases hkn : k < n
  · rw [if_neg (by omega)]
    rcases h.cells.2 with h0 | ⟨b, off, hao, hlt, hcell⟩
    · have := h.len; rw [h0] at this; simp at this; omega
    · have hadd : (⟨b, off, none⟩ : Addr).add k = ⟨b, off + k, none⟩ := by unfold Addr.add; split <;> simp_all
      refine .inr ⟨b, off + k, by rw [hao]; simp [hadd], hlt, fun j hj => ?_⟩
      rw [List.length_drop] at hj
      rw [getD_drop, Nat.add_assoc]
      exact hcell (k + j) (by omega)
  · exact .inl (by rw [List.drop_of_length_le (by rw [h.len]; omega)])

/-- A word of a shift down: the upper part of one word and the lower part of the next one. -/
theorem shr_word (z y : Int) (r : Nat) (hr : r < 32) (hz0 : 0 ≤ z) (hz1 : z < 4294967296) (_ : 0 ≤ y) (_ : y < 4294967296) :
    0 ≤ bits .or .u32 (z / 2 ^ r) (y * 4294967296 / 2 ^ r % 4294967296) ∧ bits .or .u32 (z / 2 ^ r) (y * 4294967296 / 2 ^ r % 4294967296) < 4294967296 ∧
      2 ^ r * bits .or .u32 (z / 2 ^ r) (y * 4294967296 / 2 ^ r % 4294967296) = z - z % 2 ^ r + 4294967296 * (y % 2 ^ r) := by
  have e : (4294967296 : Int) = 2 ^ r * 2 ^ (32 - r) := by rw [← Int.pow_add, show r + (32 - r) = 32 from by omega]; rfl
  have hp := pow_two_pos r
  have hq := pow_two_pos (32 - r)
  have e1 : y * 4294967296 / 2 ^ r = y * 2 ^ (32 - r) := by
    have : y * 4294967296 = 2 ^ r * (y * 2 ^ (32 - r)) := by rw [e]; ac_rfl
    rw [this, Int.mul_ediv_cancel_left _ (by omega)]
  have e2 : y * 4294967296 / 2 ^ r % 4294967296 = (y % 2 ^ r) * 2 ^ (32 - r) := by
    rw [e1, e, Int.mul_comm y, Int.mul_comm (2 ^ r), Int.mul_emod_mul_of_pos _ _ hq, Int.mul_comm]
  have m0 := Int.emod_nonneg y (Int.ne_of_gt hp)
  have m1 := Int.emod_lt_of_pos y hp
  have z1 : z / 2 ^ r < 2 ^ (32 - r) := Int.ediv_lt_of_lt_mul hp (by rw [Int.mul_comm, ← e]; exact hz1)
  have z0 : 0 ≤ z / 2 ^ r := Int.ediv_nonneg hz0 (by omega)
  have z2 : z / 2 ^ r ≤ z := Int.ediv_le_self _ hz0
  rw [e2]
  have b0 : 0 ≤ (y % 2 ^ r) * 2 ^ (32 - r) := Int.mul_nonneg m0 (by omega)
  have b1 : (y % 2 ^ r + 1) * 2 ^ (32 - r) ≤ 2 ^ r * 2 ^ (32 - r) := Int.mul_le_mul_of_nonneg_right (by omega) (by omega)
  rw [← e, Int.add_mul] at b1
  have o := (or_u32 (32 - r) (y % 2 ^ r * 2 ^ (32 - r)) (z / 2 ^ r) b0 (by omega) z0 (by omega) z1 (Int.mul_emod_left _ _)).2
  rw [o]
  refine ⟨by omega, by omega, ?_⟩
  have h1 := Int.mul_ediv_add_emod z (2 ^ r)
  have h2 : 2 ^ r * (y % 2 ^ r * 2 ^ (32 - r)) = 4294967296 * (y % 2 ^ r) := by rw [e]; ac_rfl
  rw [Int.mul_add, h2]
  omega

set_option maxHeartbeats 400000 in
theorem shiftDown_any (w : World) (ax : Option Addr) (n c : Nat) (xs : List Int) (hX : Sl w ax n c xs) (hb : n ≤ 1000000) (s : Nat) (hs : s ≤ 32 * n) :
    Calls Try.prog 84 #[.slice ax n c, .int .i64 s] w fun e w' => ∃ zs, e = .returned (.slice (some ⟨w.heap.size, 0, none⟩) (n - s / 32) (n - s / 32)) ∧ zs.length = n - s / 32 ∧ Row w' 63 w.heap.size zs ∧ val zs = val xs / 2 ^ s ∧ Below w.heap.size w w' := by
  have hn := hidd hX.len
  have hwd : s / 32 ≤ n := by omega
  have hcap := hX.cap
  have hrs : s % 32 < 32 := Nat.mod_lt _ (by decide)
  obtain ⟨hp0, hp1⟩ := two_le _ hrs
  have hdl : (xs.drop (s / 32)).length = n - s / 32 := by rw [List.length_drop, hn.out]
  by_cases hcw : c = s / 32
  · subst hcw
    obtain rfl : n = s / 32 := by omega
    have hD : Sl w ax 0 0 (xs.drop (s / 32)) := by have := hX.drop hwd; rw [if_pos rfl, Nat.sub_self] at this; exact this
    have HE : Hid (val (xs.drop (s / 32)) = 0) := by
      have := List.eq_nil_of_length_eq_zero hD.len
      show val _ = 0
      rw [this]; rfl
    have HDL : Hid ((xs.drop (s / 32)).length = 0) := hD.len
    clear hdl hwd hcap
    go_enter Try.func84, Try.ntmps84
    go_wp2_with (go_at_call 62; refine (copied_any _ _ _ _ _ hD (by omega)).mono ?_; rintro e w1 ⟨rfl, hr, hb1⟩)
    go_loop [19] (fun i => i = .int .i64 0) (fun _ => 0)
    case atStart => rfl
    case round =>
      obtain rfl := hrel
      go_wp2
      go_ret
      have hnil : xs.drop (s / 32) = [] := List.eq_nil_of_length_eq_zero HDL.out
      rw [hnil] at hr
      refine ⟨rfl, hr, ?_, hb1⟩
      refine shr_end (ys := xs.drop (s / 32)) rfl hn.out hX.digs hs rfl ?_
      rw [HE.out, getD_out (by rw [HDL.out]; omega)]
      simp [val]
  · have hD := hX.drop hwd
    rw [if_neg hcw] at hD
    go_enter Try.func84, Try.ntmps84
    go_wp2_with (go_at_call 62; refine (copied_any _ _ _ _ _ hD (by omega)).mono ?_; rintro e w1 ⟨rfl, hr, hb1⟩)
    generalize Option.map (fun x => Addr.add x (s / 32)) ax = aD at *
    obtain ⟨ys, hys⟩ : ∃ ys, ys = xs.drop (s / 32) := ⟨_, rfl⟩
    rw [← hys] at hr hdl hD
    have HYS := hidd hys
    have HDL := hidd hdl
    have hyd := hr.1
    clear hys hdl
    go_loopw [19] (fun i wr => ∃ (k : Nat) (zs : List Int), k ≤ n - s / 32 ∧ i = .int .i64 k ∧ zs.length = n - s / 32 ∧ Row wr 63 w.heap.size zs ∧ Below w.heap.size w wr ∧ zs.drop k = ys.drop k ∧ 2 ^ (s % 32) * val (zs.take k) = val (ys.take k) - ys.getD 0 0 % 2 ^ (s % 32) + pw k * (ys.getD k 0 % 2 ^ (s % 32))) (fun i _ => n - (intOf i).toNat)
    case atStart => exact ⟨0, ys, Nat.zero_le _, rfl, HDL.out, hr, hb1, rfl, by simp only [List.take_zero, val, pw_zero]; omega⟩
    case round =>
      obtain ⟨k, zs, hk, rfl, hzl, hr, hbr, hdr, hv⟩ := hrel
      have HZ := hidd hzl
      have HV := hidd hv
      have HDR := hidd hdr
      clear hv hdr
      by_cases hkn : k < n - s / 32
      · have hkz : k < zs.length := by omega
        have hfr := hr.frozen k
        clear hzl
        obtain ⟨z, hzc, hz0, hz1, HZK⟩ := hr.at hkz
        by_cases hk1 : k + 1 < n - s / 32
        · obtain ⟨b, off, rfl, hbl, y, hyc0, hy0, hy1, HY⟩ := hX.cells.at (k := s / 32 + k + 1) (by rw [hn.out]; omega)
          have hyc := (hbr.cell (p := ⟨b, off + (s / 32 + k + 1), none⟩) hbl).trans hyc0
          clear hyc0
          have hq0 : 0 ≤ z / 2 ^ (s % 32) := Int.ediv_nonneg hz0 (by omega)
          have hq1 : z / 2 ^ (s % 32) ≤ z := Int.ediv_le_self _ hz0
          go_wp2
          obtain ⟨w3, hw3⟩ : ∃ w3, w3 = wr.setCell ⟨w.heap.size, k, none⟩ (.int .u32 (z / 2 ^ (s % 32))) := ⟨_, rfl⟩
          rw [← hw3]
          have hr3 : Row w3 63 w.heap.size (zs.set k (z / 2 ^ (s % 32))) := by rw [hw3]; exact hr.set ⟨hq0, by omega⟩
          have hb3 : Below w.heap.size w w3 := by rw [hw3]; exact hbr.setCell (Nat.le_refl _) _
          have hyc3 : w3.cell? ⟨b, off + (s / 32 + k + 1), none⟩ = some (.int .u32 y) := by rw [hw3, World.cell?_setCell_other _ _ _ _ (by intro e; cases e)]; exact hyc
          have hz3 : w3.cell? ⟨w.heap.size, k, none⟩ = some (.int .u32 (z / 2 ^ (s % 32))) := by
            have := hr3.cell (j := k) (by simpa using hkz)
            rwa [getD_set _ _ _ hkz] at this
          have hf3 := hr3.frozen k
          clear hw3 hyc hzc hfr hr hbr hb1
          have g1 : IntKind.i64.wrap ((s : Int) / 32 + k) = (s : Int) / 32 + k := IntWalk.i64_in _ (by omega)
          have g2 : IntKind.i64.wrap ((s : Int) / 32 + k + 1) = (s : Int) / 32 + k + 1 := IntWalk.i64_in _ (by omega)
          have g3 : ((s : Int) / 32 + k + 1).toNat = s / 32 + k + 1 := by omega
          have g4 : 0 ≤ (s : Int) / 32 + k + 1 := by omega
          have g5 : (s : Int) / 32 + k + 1 < n := by omega
          have g6 : (k : Int) < ((n - s / 32 : Nat) : Int) := by omega
          go_still_tail 18, (by kernel_rfl)
          go_wp2
          go_roundw
          case rel =>
            have hyk : ys.getD k 0 = z := by
              have := congrArg (fun l : List Int => l.getD 0 0) HDR.out
              simp only [getD_drop, Nat.add_zero] at this
              rw [← this]; exact HZK.out
            have hyk1 : ys.getD (k + 1) 0 = y := by rw [HYS.out, getD_drop, ← Nat.add_assoc]; exact HY.out
            obtain ⟨e1, e2, e3⟩ := shr_word z y (s % 32) hrs hz0 hz1 hy0 hy1
            refine ⟨k + 1, (zs.set k (z / 2 ^ (s % 32))).set k (bits BinOp.or IntKind.u32 (z / 2 ^ (s % 32)) (y * 4294967296 / 2 ^ (s % 32) % 4294967296)), by omega, by go_num, by simp [HZ.out], hr3.set ⟨e1, e2⟩, (hb3.setCell (Nat.le_refl _) _).drew, ?_, ?_⟩
            · rw [List.set_set, List.drop_set_of_lt (by omega)]
              have := congrArg (List.drop 1) HDR.out
              simpa [List.drop_drop] using this
            · rw [List.set_set]
              exact shr_step hkz HV.out hyk hyk1 e3
          case measure => simp [intOf]; omega
        · have hq0 : 0 ≤ z / 2 ^ (s % 32) := Int.ediv_nonneg hz0 (by omega)
          have hq1 : z / 2 ^ (s % 32) ≤ z := Int.ediv_le_self _ hz0
          go_wp2
          go_roundw
          case rel =>
            have hyk : ys.getD k 0 = z := by
              have := congrArg (fun l : List Int => l.getD 0 0) HDR.out
              simp only [getD_drop, Nat.add_zero] at this
              rw [← this]; exact HZK.out
            have hyk1 : ys.getD (k + 1) 0 = 0 := getD_out (by rw [HDL.out]; omega)
            refine ⟨k + 1, zs.set k (z / 2 ^ (s % 32)), by omega, by go_num, by simp [HZ.out], hr.set ⟨hq0, by omega⟩, hbr.setCell (Nat.le_refl _) _, ?_, ?_⟩
            · rw [List.drop_set_of_lt (by omega)]
              have := congrArg (List.drop 1) HDR.out
              simpa [List.drop_drop] using this
            · refine shr_step hkz HV.out hyk hyk1 ?_
              have := Int.mul_ediv_add_emod z (2 ^ (s % 32))
              rw [Int.zero_emod]
              omega
          case measure => simp [intOf]; omega
      · clear hb1
        go_wp2
        go_ret
        refine ⟨zs, rfl, HZ.out, hr, ?_, hbr⟩
        obtain rfl : k = n - s / 32 := by omega
        have e := HV.out
        rw [val_take_all _ (by rw [HZ.out]; omega), val_take_all _ (by rw [HDL.out]; omega), getD_out (xs := ys) (k := n - s / 32) (by rw [HDL.out]; omega), Int.zero_emod, Int.mul_zero, Int.add_zero] at e
        exact shr_end rfl hn.out hX.digs hs HYS.out e
end Go.Proofs.Ytjpbmghdamcdcaa
