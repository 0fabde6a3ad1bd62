/- Walks: a size times a word is added; the product of sizes. -/
import Derived.Test.YtjpbmghdamcdcaaA
namespace Go.Proofs.Ytjpbmghdamcdcaa
open Go.RowKit

/-- One step of adding a multiple. -/
theorem mac_step {k : Nat} {vs ws ys : List Int} {q c x y : Int} (hk : k < ws.length) (h : val (ws.take k) + pw k * c = val (vs.take k) + q * val (ys.take k))
    (hx : vs.getD k 0 = x) (hy : ys.getD k 0 = y) :
    val ((ws.set k ((q * y + x + c) % 4294967296)).take (k + 1)) + pw (k + 1) * ((q * y + x + c) / 4294967296) = val (vs.take (k + 1)) + q * val (ys.take (k + 1)) := by
  rw [val_take_succ, val_take_set _ _ _ _ (Nat.le_refl _), getD_set _ _ _ hk, val_take_succ vs, val_take_succ ys, hx, hy]
  have h1 := pw_split k (q * y + x + c)
  rw [Int.mul_add, Int.mul_add] at h1
  rw [Int.mul_add]
  have h2 : q * (pw k * y) = pw k * (q * y) := by ac_rfl
  rw [h2]
  omega

theorem mul_bd {a b : Int} (ha0 : 0 ≤ a) (ha : a < 4294967296) (hb0 : 0 ≤ b) (hb : b < 4294967296) : 0 ≤ a * b ∧ a * b ≤ 18446744065119617025 := by
  refine ⟨Int.mul_nonneg ha0 hb0, ?_⟩
  have h1 := Int.mul_le_mul_of_nonneg_right (show a ≤ 4294967295 by omega) hb0
  omega

/-- A cell of another block is as it was. -/
theorem grownBy_cell {w w' : World} {b b' o : Nat} (h : w.grownBy w' (some b)) (hne : b' ≠ b) (hlt : b' < w.heap.size) : w'.cell? ⟨b', o, none⟩ = w.cell? ⟨b', o, none⟩ :=
  World.cell?_of_block (h.block b' hlt (by simpa using hne))

/-- What adding a multiple leaves. -/
def MacDone (w : World) (b off m : Nat) (zs ys : List Int) (q : Int) (e : Ending) (w' : World) : Prop :=
  ∃ r zs', e = .returned (.int .u32 r) ∧ 0 ≤ r ∧ r < 4294967296 ∧ Row w' 63 b zs' ∧ zs'.length = zs.length ∧ zs'.take off = zs.take off ∧
      zs'.drop (off + m) = zs.drop (off + m) ∧ val ((zs'.drop off).take m) + pw m * r = val ((zs.drop off).take m) + q * val ys ∧ w.grownBy w' (some b)

set_option maxHeartbeats 400000 in
theorem addTimes_any (w : World) (b off nz cz m cy : Nat) (zs ys : List Int) (ay : Option Addr) (q : Int) (hR : Row w 63 b zs) (hlen : off + m ≤ zs.length) (hnz : m ≤ nz) (hY : Sl w ay m cy ys)
    (hne : ∀ b' o, ay = some ⟨b', o, none⟩ → 0 < m → b' ≠ b) (hb : m ≤ 4000000) (hq0 : 0 ≤ q) (hq1 : q < 4294967296) :
    Calls Try.prog 83 #[.slice (some ⟨b, off, none⟩) nz cz, .slice ay m cy, .int .u64 q] w (MacDone w b off m zs ys q) := by
  have hm := hidd hY.len
  go_enter Try.func83, Try.ntmps83
  go_wp2
  go_loopw [7, 13] (fun u i wr => ∃ (k : Nat) (c : Int) (us : List Int), k ≤ m ∧ i = .int .i64 k ∧ u = .int .u64 c ∧ 0 ≤ c ∧ c < 4294967296 ∧ us.length = zs.length ∧ Row wr 63 b us ∧ us.take off = zs.take off ∧ us.drop (off + k) = zs.drop (off + k) ∧
      val ((us.drop off).take k) + pw k * c = val ((zs.drop off).take k) + q * val (ys.take k) ∧ w.grownBy wr (some b)) (fun _ i _ => m - (intOf i).toNat)
  case atStart => exact ⟨0, 0, zs, Nat.zero_le _, rfl, rfl, by omega, by omega, rfl, hR, rfl, rfl, by simp [val], World.grownBy.refl _ _⟩
  case round =>
    obtain ⟨k, c, us, hk, rfl, rfl, hc0, hc1, hul, hr, htk, hdr, hv, hg⟩ := hrel
    have HUL := hidd hul
    have HDR := hidd hdr
    have HTK := hidd htk
    have HV := hidd hv
    have hku : off + k < us.length ∨ k = m := by omega
    clear hul hdr htk hv
    by_cases hkm : k < m
    · have hku : off + k < us.length := by omega
      obtain ⟨x, hxc, hx0, hx1, HX⟩ := hr.at hku
      have hfr := hr.frozen (off + k)
      obtain ⟨b2, off2, rfl, hbl2, y, hyc0, hy0, hy1, HY⟩ := hY.cells.at (k := k) (by rw [hm.out]; exact hkm)
      have hyc := (grownBy_cell (o := off2 + k) hg (hne _ _ rfl (by omega)) hbl2).trans hyc0
      clear hyc0
      obtain ⟨hp0, hp1⟩ := mul_bd hq0 hq1 hy0 hy1
      have hknz : k < nz := by omega
      go_wp2
      go_roundw
      case rel =>
        have hkd : k < (us.drop off).length := by rw [List.length_drop]; omega
        have hxz : (zs.drop off).getD k 0 = x := by
          have := congrArg (fun l : List Int => l.getD 0 0) HDR.out
          simp only [getD_drop, Nat.add_zero] at this
          rw [getD_drop, ← this]; exact HX.out
        refine ⟨k + 1, _, us.set (off + k) ((q * y + x + c) % 4294967296), by omega, by go_num, rfl, by omega, by omega, by simp [HUL.out], hr.set ⟨by omega, by omega⟩, ?_, ?_, ?_, grownBy_trans hg (grownBy_set _ _ _ _)⟩
        · rw [List.take_set_of_le (by omega)]; exact HTK.out
        · rw [List.drop_set_of_lt (by omega)]
          have := congrArg (List.drop 1) HDR.out
          simpa [List.drop_drop, Nat.add_assoc] using this
        · rw [show (us.set (off + k) ((q * y + x + c) % 4294967296)).drop off = (us.drop off).set k ((q * y + x + c) % 4294967296) from by rw [List.drop_set, if_neg (by omega), Nat.add_sub_cancel_left]]
          exact mac_step hkd HV.out hxz HY.out
      case measure => simp [intOf]; omega
    · obtain rfl : k = m := by omega
      go_wp2
      go_ret
      have e := HV.out
      rw [val_take_all ys (by rw [hm.out]; omega)] at e
      have e1 : c % 4294967296 = c := Int.emod_eq_of_lt hc0 hc1
      exact ⟨c, us, by first | rfl | (rw [← e1]; rfl), hc0, hc1, hr, HUL.out, HTK.out, HDR.out, e, hg⟩

set_option maxHeartbeats 400000 in
theorem mulSize_any (w : World) (ax ay : Option Addr) (n m cx cy : Nat) (xs ys : List Int) (hX : Sl w ax n cx xs) (hY : Sl w ay m cy ys) (hb1 : n ≤ 1000000) (hb2 : m ≤ 1000000) :
    Calls Try.prog 68 #[.slice ax n cx, .slice ay m cy] w fun e w' => ∃ ao c zs, e = .returned (.slice ao (n + m) c) ∧ Sl w' ao (n + m) c zs ∧ val zs = val xs * val ys ∧ Below w.heap.size w w' := by
  have hn := hidd hX.len
  have hm := hidd hY.len
  go_enter Try.func68, Try.ntmps68
  go_wp2_with (at_make; refine wpList_make_words _ rfl _ _ 22 rfl 63 Try.underlying22 (by kernel_rfl) _ _ _ _ rfl rfl (n + m) rfl rfl (by omega) ?_; intro w1 hrow hb1 hs1)
  go_loopw [16] (fun i wr => ∃ (k : Nat) (zs : List Int), k ≤ n ∧ i = .int .i64 k ∧ zs.length = n + m ∧ Row wr 63 w.heap.size zs ∧ Below w.heap.size w wr ∧ val (zs.take (k + m)) = val (xs.take k) * val ys) (fun i _ => n - (intOf i).toNat)
  case atStart =>
    refine ⟨0, _, Nat.zero_le _, rfl, by simp, hrow, hb1, ?_⟩
    rw [List.take_replicate, val_replicate]; simp [val]
  case round =>
    obtain ⟨k, zs, hk, rfl, hzl, hr, hbr, hv⟩ := hrel
    have HZ := hidd hzl
    have HV := hidd hv
    clear hv
    by_cases hkn : k < n
    · have hkz : k + m < zs.length := by omega
      have hlen : k + m ≤ zs.length := by omega
      obtain ⟨b, off, rfl, hbl, x, hxc0, hx0, hx1, HX⟩ := hX.cells.at (k := k) (by rw [hn.out]; exact hkn)
      have hxc := (hbr.cell (p := ⟨b, off + k, none⟩) hbl).trans hxc0
      have hcne : ¬ (n + m = k) := by omega
      have hYr := hY.mono (hbr.mono (Nat.le_refl _))
      have hne : ∀ b' o, ay = some ⟨b', o, none⟩ → 0 < m → b' ≠ w.heap.size := by
        intro b' o h1 h2
        obtain ⟨b3, off3, h3, h4, _⟩ := hY.cells.at (k := 0) (by rw [hm.out]; exact h2)
        rw [h1] at h3; cases h3; omega
      clear hzl hrow hb1 hs1 hxc0
      go_wp2_with fail
      refine (addTimes_any wr w.heap.size k m (n + m - k) m cy zs ys ay x hr hlen (Nat.le_refl _) hYr hne (by omega) hx0 hx1).mono ?_
      rintro e w2 ⟨r, zs2, rfl, hr0, hr1, hrow2, hl2, ht2, hd2, hv2, hg2⟩
      have HL2 := hidd hl2
      have HT2 := hidd ht2
      have HD2 := hidd hd2
      have HV2 := hidd hv2
      have hkz2 : k + m < zs2.length := by omega
      have hb2' : Below w.heap.size w w2 := hbr.grown hg2 hbr.size (by intro j hj; cases hj; exact Nat.le_refl _)
      obtain ⟨z, hzc, _, _, _⟩ := hrow2.at hkz2
      have hfr := hrow2.frozen (k + m)
      clear hl2 ht2 hd2 hv2 hr hxc hYr hg2
      go_wp2
      go_roundw
      case rel =>
        refine ⟨k + 1, zs2.set (k + m) r, by omega, by go_num, by simp [HL2.out, HZ.out], hrow2.set ⟨hr0, hr1⟩, hb2'.setCell (Nat.le_refl _) _, ?_⟩
        rw [show k + 1 + m = (k + m) + 1 from by omega, val_take_succ, val_take_set _ _ _ _ (Nat.le_refl _), getD_set _ _ _ hkz2, val_take_succ xs, HX.out]
        have e1 : val (zs2.take (k + m)) = val (zs2.take k) + pw k * val ((zs2.drop k).take m) := by
          have := val_split (zs2.take (k + m)) (k := k) (by rw [List.length_take]; omega)
          rw [this, List.take_take, Nat.min_eq_left (by omega), List.drop_take, Nat.add_sub_cancel_left]
        have e2 : val (zs.take (k + m)) = val (zs.take k) + pw k * val ((zs.drop k).take m) := by
          have := val_split (zs.take (k + m)) (k := k) (by rw [List.length_take]; omega)
          rw [this, List.take_take, Nat.min_eq_left (by omega), List.drop_take, Nat.add_sub_cancel_left]
        have e3 := HV2.out
        have e4 := HV.out
        rw [HT2.out] at e1
        have e5 := congrArg (fun t => pw k * t) e3
        simp only [Int.mul_add] at e5
        have e6 : pw k * (pw m * r) = pw (k + m) * r := by rw [pw_add]; ac_rfl
        have e7 : (val (xs.take k) + pw k * x) * val ys = val (xs.take k) * val ys + pw k * (x * val ys) := by rw [Int.add_mul]; congr 1; ac_rfl
        rw [e7]
        omega
      case measure => simp [intOf]; omega
    · obtain rfl : k = n := by omega
      clear hrow hb1 hs1
      go_wp2
      go_ret
      refine ⟨_, _, zs, rfl, hr.sl HZ.out, ?_, hbr⟩
      have e := HV.out
      rw [val_take_all _ (by rw [HZ.out]; omega), val_take_all xs (by rw [hn.out]; omega)] at e
      exact e

end Go.Proofs.Ytjpbmghdamcdcaa
