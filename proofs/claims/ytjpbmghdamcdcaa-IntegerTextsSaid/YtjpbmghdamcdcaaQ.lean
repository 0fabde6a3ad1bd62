/- Walks: the steps of the long division. -/
import Derived.Test.YtjpbmghdamcdcaaM
import Derived.Test.YtjpbmghdamcdcaaC
import Derived.Test.YtjpbmghdamcdcaaAlg
namespace Go.Proofs.Ytjpbmghdamcdcaa
open Go.RowKit

theorem sub2_dig (x a b : Int) (_ : 0 ≤ x) (_ : x < 4294967296) (_ : 0 ≤ a) (_ : a < 4294967296) (_ : 0 ≤ b) (_ : b ≤ 1) :
    IntKind.u64.wrap (IntKind.u64.wrap (x - a) - b) % 4294967296 = (x - a - b) % 4294967296 := by
  rw [u64_wrap, u64_wrap]; omega
theorem sub2_bor (x a b : Int) (_ : 0 ≤ x) (_ : x < 4294967296) (_ : 0 ≤ a) (_ : a < 4294967296) (_ : 0 ≤ b) (_ : b ≤ 1) :
    IntKind.u64.wrap (IntKind.u64.wrap (x - a) - b) / 9223372036854775808 = -((x - a - b) / 4294967296) := by
  rw [u64_wrap, u64_wrap]; omega

/-- One step of subtracting a multiple. -/
theorem msb_step {k : Nat} {vs ws ys : List Int} {g c d x y p : Int} (hk : k < ws.length) (h : val (ws.take k) = val (vs.take k) - g * val (ys.take k) + pw k * (c + d))
    (hx : vs.getD k 0 = x) (hy : ys.getD k 0 = y) (hp : p = g * y + c) :
    val ((ws.set k ((x - p % 4294967296 - d) % 4294967296)).take (k + 1)) = val (vs.take (k + 1)) - g * val (ys.take (k + 1)) + pw (k + 1) * (p / 4294967296 + -((x - p % 4294967296 - d) / 4294967296)) := by
  rw [val_take_succ, val_take_set _ _ _ _ (Nat.le_refl _), getD_set _ _ _ hk, val_take_succ vs, val_take_succ ys, hx, hy]
  have h1 := pw_split k (x - p % 4294967296 - d)
  have h2 := pw_split k p
  rw [Int.mul_sub, Int.mul_sub] at h1
  rw [hp, Int.mul_add, ← hp] at h2
  rw [Int.mul_add] at h ⊢
  rw [Int.mul_add, Int.mul_neg]
  have h3 : g * (pw k * y) = pw k * (g * y) := by ac_rfl
  rw [h3]
  omega

/-- What subtracting a multiple leaves. -/
def MsbDone (w : World) (b off m : Nat) (zs ys : List Int) (g : Int) (e : Ending) (w' : World) : Prop :=
  ∃ (neg : Bool) (zs' : List Int), e = .returned (.bool neg) ∧ Row w' 63 b zs' ∧ zs'.length = zs.length ∧ zs'.take off = zs.take off ∧ zs'.drop (off + m + 1) = zs.drop (off + m + 1) ∧
    val ((zs'.drop off).take (m + 1)) = val ((zs.drop off).take (m + 1)) - g * val ys + (if neg then pw (m + 1) else 0) ∧ w.grownBy w' (some b)

set_option maxHeartbeats 400000 in
theorem subTimes_any (w : World) (b off nz cz m cy : Nat) (zs ys : List Int) (ay : Option Addr) (g : Int) (hR : Row w 63 b zs) (hlen : off + m < zs.length) (hnz : m < nz) (hY : Sl w ay m cy ys)
    (hne : ∀ b' o, ay = some ⟨b', o, none⟩ → 0 < m → b' ≠ b) (hb : m ≤ 4000000) (hg0 : 0 ≤ g) (hg1 : g < 4294967296) :
    Calls Try.prog 89 #[.slice (some ⟨b, off, none⟩) nz cz, .slice ay m cy, .int .u64 g] w (MsbDone w b off m zs ys g) := by
  have hm := hidd hY.len
  go_enter Try.func89, Try.ntmps89
  go_wp2
  go_loopw [7, 8, 16] (fun u v i wr => ∃ (k : Nat) (c d : Int) (us : List Int), k ≤ m ∧ i = .int .i64 k ∧ u = .int .u64 c ∧ v = .int .u64 d ∧ 0 ≤ c ∧ c < 4294967296 ∧ 0 ≤ d ∧ d ≤ 1 ∧ us.length = zs.length ∧ Row wr 63 b us ∧ us.take off = zs.take off ∧ us.drop (off + k) = zs.drop (off + k) ∧
      val ((us.drop off).take k) = val ((zs.drop off).take k) - g * val (ys.take k) + pw k * (c + d) ∧ w.grownBy wr (some b)) (fun _ _ i _ => m - (intOf i).toNat)
  case atStart => exact ⟨0, 0, 0, zs, Nat.zero_le _, rfl, rfl, rfl, by omega, by omega, by omega, by omega, rfl, hR, rfl, rfl, by simp [val], World.grownBy.refl _ _⟩
  case round =>
    obtain ⟨k, c, d, us, hk, rfl, rfl, rfl, hc0, hc1, hd0, hd1, hul, hr, htk, hdr, hv, hg⟩ := hrel
    have HUL := hidd hul
    have HDR := hidd hdr
    have HTK := hidd htk
    have HV := hidd hv
    have hku : off + k < us.length := by omega
    clear hul hdr htk hv
    obtain ⟨x, hxc, hx0, hx1, HX⟩ := hr.at hku
    have hfr := hr.frozen (off + k)
    have hkd : k < (us.drop off).length := by rw [List.length_drop]; omega
    have hxz : (zs.drop off).getD k 0 = x := by
      have := congrArg (fun l : List Int => l.getD 0 0) HDR.out
      simp only [getD_drop, Nat.add_zero] at this
      rw [getD_drop, ← this]; exact HX.out
    have HXZ := hidd hxz
    clear hxz
    by_cases hkm : k < m
    · obtain ⟨b2, off2, rfl, hbl2, y, hyc0, hy0, hy1, HY⟩ := hY.cells.at (k := k) (by rw [hm.out]; exact hkm)
      have hyc := (grownBy_cell (o := off2 + k) hg (hne _ _ rfl (by omega)) hbl2).trans hyc0
      clear hyc0
      obtain ⟨hp0, hp1⟩ := mul_bd hg0 hg1 hy0 hy1
      have hknz : k < nz := by omega
      go_wp2
      go_roundw
      case rel =>
        rw [sub2_dig x ((g * y + c) % 4294967296) d hx0 hx1 (by omega) (by omega) hd0 hd1, sub2_bor x ((g * y + c) % 4294967296) d hx0 hx1 (by omega) (by omega) hd0 hd1]
        refine ⟨k + 1, _, _, us.set (off + k) ((x - (g * y + c) % 4294967296 - d) % 4294967296), by omega, by go_num, rfl, rfl, by omega, by omega, by omega, by omega, by simp [HUL.out], hr.set ⟨by omega, by omega⟩, ?_, ?_, ?_, grownBy_trans hg (grownBy_set _ _ _ _)⟩
        · rw [List.take_set_of_le (by omega)]; exact HTK.out
        · rw [List.drop_set_of_lt (by omega)]
          have := congrArg (List.drop 1) HDR.out
          simpa [List.drop_drop, Nat.add_assoc] using this
        · rw [show (us.set (off + k) ((x - (g * y + c) % 4294967296 - d) % 4294967296)).drop off = (us.drop off).set k ((x - (g * y + c) % 4294967296 - d) % 4294967296) from by rw [List.drop_set, if_neg (by omega), Nat.add_sub_cancel_left]]
          exact msb_step hkd HV.out HXZ.out HY.out rfl
      case measure => simp [intOf]; omega
    · obtain rfl : k = m := by omega
      obtain ⟨t, ht⟩ : ∃ t, IntKind.u64.wrap (IntKind.u64.wrap (x - c) - d) = t := ⟨_, rfl⟩
      have e1 := sub2_dig x c d hx0 hx1 hc0 hc1 hd0 hd1
      have e2 := sub2_bor x c d hx0 hx1 hc0 hc1 hd0 hd1
      rw [ht] at e1 e2
      have ht0 : 0 ≤ t ∧ t < 18446744073709551616 := by rw [← ht, u64_wrap]; omega
      obtain ⟨ht0, ht1⟩ := ht0
      have E1 := hidd e1
      have E2 := hidd e2
      clear e1 e2
      go_wp2
      go_ret
      refine ⟨_, us.set (off + k) (t % 4294967296), rfl, hr.set ⟨by omega, by omega⟩, by simp [HUL.out], ?_, ?_, ?_, grownBy_trans hg (grownBy_set _ _ _ _)⟩
      · rw [List.take_set_of_le (by omega)]; exact HTK.out
      · rw [List.drop_set_of_lt (by omega)]
        have := congrArg (List.drop 1) HDR.out
        simpa [List.drop_drop, Nat.add_assoc] using this
      · rw [show (us.set (off + k) (t % 4294967296)).drop off = (us.drop off).set k (t % 4294967296) from by rw [List.drop_set, if_neg (by omega), Nat.add_sub_cancel_left], E1.out]
        have h := msb_step (p := c) (g := g) (y := 0) (ys := ys) hkd HV.out HXZ.out (getD_out (by rw [hm.out]; omega)) (by omega)
        rw [Int.emod_eq_of_lt hc0 hc1, Int.ediv_eq_zero_of_lt hc0 hc1, val_take_all ys (by rw [hm.out]; omega)] at h
        rw [h]
        have e2 := E2.out
        rw [Int.zero_add, ← e2]
        rcases (by omega : t / 9223372036854775808 = 0 ∨ t / 9223372036854775808 = 1) with h0 | h0
        · rw [h0]; simp
        · rw [h0]; simp

theorem Sl.drawn {w w' : World} {ao : Option Addr} {n c : Nat} {xs : List Int} (h : Sl w ao n c xs) (d : Drawn w w') : Sl w' ao n c xs :=
  h.mono (d.below _)

/-- One more than the quotient at most, and not less than it. -/
def Guess (U V g : Int) : Prop := U < (g + 1) * V ∧ (g - 1) * V ≤ U ∧ 0 ≤ g ∧ g < 4294967296

theorem val_top3 {us : List Int} {n : Nat} {u0 u1 u2 : Int} (hn : 2 ≤ n) (hl : us.length = n + 1) (h0 : us.getD n 0 = u0) (h1 : us.getD (n - 1) 0 = u1) (h2 : us.getD (n - 2) 0 = u2) :
    val us = val (us.take (n - 2)) + pw (n - 2) * (u2 + 4294967296 * (u1 + 4294967296 * u0)) := by
  rw [val_split us (k := n - 2) (by omega), val_drop_step us (by omega), val_drop_step us (by omega), val_drop_step us (by omega), List.drop_of_length_le (by omega)]
  rw [show n - 2 + 1 = n - 1 from by omega, show n - 1 + 1 = n from by omega, h0, h1, h2]
  simp [val]

theorem val_top2 {us : List Int} {n : Nat} {u1 u2 : Int} (hn : 2 ≤ n) (hl : us.length = n) (h1 : us.getD (n - 1) 0 = u1) (h2 : us.getD (n - 2) 0 = u2) :
    val us = val (us.take (n - 2)) + pw (n - 2) * (u2 + 4294967296 * u1) := by
  rw [val_split us (k := n - 2) (by omega), val_drop_step us (by omega), val_drop_step us (by omega), List.drop_of_length_le (by omega)]
  rw [show n - 2 + 1 = n - 1 from by omega, h1, h2]
  simp [val]

theorem g_big {g U V : Int} (h : 4294967296 ≤ g) (hlt : U < V * 4294967296) (hV : 0 ≤ V) : U < g * V := by
  have := Int.mul_le_mul_of_nonneg_right h hV
  omega

set_option maxHeartbeats 1000000 in
theorem guess_any (w : World) (au ay : Option Addr) (n cu cy : Nat) (us ys : List Int) (hU : Sl w au (n + 1) cu us) (hY : Sl w ay n cy ys) (hn : 2 ≤ n) (hb : n ≤ 4000000)
    (htop : 2147483648 ≤ ys.getD (n - 1) 0) (hlt : val us < val ys * 4294967296) :
    Calls Try.prog 88 #[.slice au (n + 1) cu, .slice ay n cy] w fun e w' => ∃ g, e = .returned (.int .u64 g) ∧ Guess (val us) (val ys) g ∧ Drawn w w' := by
  have hul := hidd hU.len
  have hyl := hidd hY.len
  obtain ⟨b, off, rfl, hbl, u0, hu0c, hu00, hu01, HU0⟩ := hU.cells.at (k := n) (by rw [hul.out]; omega)
  obtain ⟨u1, hu1c, hu10, hu11, HU1⟩ := hU.cells.at' (k := n - 1) (by rw [hul.out]; omega)
  obtain ⟨u2, hu2c, hu20, hu21, HU2⟩ := hU.cells.at' (k := n - 2) (by rw [hul.out]; omega)
  obtain ⟨b2, off2, rfl, hbl2, f, hfc, hf0, hf1, HF⟩ := hY.cells.at (k := n - 1) (by rw [hyl.out]; omega)
  obtain ⟨s, hsc, hs0, hs1, HS⟩ := hY.cells.at' (k := n - 2) (by rw [hyl.out]; omega)
  have hfp : 2147483648 ≤ f := by have := HF.out; rw [this] at htop; exact htop
  clear htop
  -- the numbers
  obtain ⟨P, hP⟩ : ∃ P, P = pw (n - 2) := ⟨_, rfl⟩
  obtain ⟨lo, hlo⟩ : ∃ lo, lo = val (us.take (n - 2)) := ⟨_, rfl⟩
  obtain ⟨lv, hlv⟩ : ∃ lv, lv = val (ys.take (n - 2)) := ⟨_, rfl⟩
  have hP0 : 0 < P := by rw [hP]; exact pw_pos _
  have hlo0 : 0 ≤ lo := by rw [hlo]; exact val_nonneg (hU.digs.take _)
  have hlo1 : lo < P := by
    have := val_lt (hU.digs.take (n - 2))
    rw [List.length_take, hul.out, Nat.min_eq_left (by omega)] at this
    rw [hlo, hP]; exact this
  have hlv0 : 0 ≤ lv := by rw [hlv]; exact val_nonneg (hY.digs.take _)
  have hlv1 : lv < P := by
    have := val_lt (hY.digs.take (n - 2))
    rw [List.length_take, hyl.out, Nat.min_eq_left (by omega)] at this
    rw [hlv, hP]; exact this
  have hVU := val_top3 hn hul.out HU0.out HU1.out HU2.out
  have hVV := val_top2 hn hyl.out HF.out HS.out
  rw [← hP, ← hlo] at hVU
  rw [← hP, ← hlv] at hVV
  generalize val us = U at *
  generalize val ys = V at *
  have htopf : u0 ≤ f := g_top 4294967296 P U V lo u2 u1 u0 lv s f hlo0 hVU hVV hlv1 hs1 hP0 (by decide) hu20 hu10 hlt
  obtain ⟨t, hor⟩ : ∃ t, bits .or .u64 (u0 * 4294967296) u1 = t := ⟨_, rfl⟩
  have htv : t = u1 + 4294967296 * u0 := hor.symm.trans ((or_halves u1 u0 hu10 hu11 hu00 hu01).2.trans (by omega))
  rw [← htv] at hVU
  have ht0 : 0 ≤ t := by omega
  have ht1 : t < 18446744073709551616 := by omega
  have htf : t ≤ f * 4294967296 + 4294967295 := by omega
  have HVU := hidd hVU
  have HVV := hidd hVV
  clear htv hVU hVV hP hlo hlv HU0 HU1 HU2 HF HS
  have hq0 : 0 ≤ t / f := Int.ediv_nonneg ht0 (by omega)
  have hq1 : t / f ≤ t := Int.ediv_le_self _ ht0
  have hm0 : 0 ≤ t % f := Int.emod_nonneg _ (by omega)
  have hm1 : t % f < f := Int.emod_lt_of_pos _ (by omega)
  go_enter Try.func88, Try.ntmps88
  go_wp2
  go_quiet (fail)
  go_wp2
  obtain ⟨w2, hw2⟩ : ∃ w2, w2 = w.drewN nq := ⟨_, rfl⟩
  rw [← hw2]
  have hd2 : Drawn w w2 := ⟨nq, hw2⟩
  have hu0c2 := (hd2.cell _).trans hu0c
  have hu1c2 := (hd2.cell _).trans hu1c
  clear hw2
  go_quiet (fail)
  go_wp2
  obtain ⟨w3, hw3⟩ : ∃ w3, w3 = w2.drewN nq := ⟨_, rfl⟩
  rw [← hw3]
  have hd3 : Drawn w w3 := by rw [hw3]; exact hd2.drewN _
  have hu2c3 := (hd3.cell _).trans hu2c
  clear hw3 hd2 hu0c hu1c hu2c hfc hsc hu0c2 hu1c2
  have hfne : ¬ f = 0 := by omega
  have hfb : (f == 0) = false := by simp; omega
  have hqv : IntKind.u64.wrap (t.tdiv f) = t / f := IntWalk.u64_quo _ _ ⟨ht0, by omega, by omega⟩
  have hmv : t.tmod f = t % f := IntWalk.rem_in _ _ ht0
  have hqw : IntKind.u64.wrap (t / f) = t / f := IntWalk.u64_in _ ⟨hq0, by omega⟩
  have hmw : IntKind.u64.wrap (t % f) = t % f := IntWalk.u64_in _ ⟨hm0, by omega⟩
  go_quiet (fail)
  clear hqv hmv hqw hmw hfb
  obtain ⟨w4, hw4⟩ : ∃ w4, w4 = w3.drewN nq := ⟨_, rfl⟩
  rw [← hw4]
  have hd4 : Drawn w w4 := by rw [hw4]; exact hd3.drewN _
  have hu2c4 := (hd4.cell _).trans ((hd3.cell _).symm.trans hu2c3)
  clear hw4 hd3 hu2c3
  go_wp2
  go_loop [9, 10] (fun u v => ∃ (g r : Int), u = .int .u64 g ∧ v = .int .u64 r ∧ 0 ≤ g ∧ g ≤ t ∧ 0 ≤ r ∧ r < 8589934592 ∧ t = g * f + r ∧ U < (g + 1) * V) (fun _ v => (4294967296 - intOf v).toNat)
  case atStart =>
    have e := Int.mul_ediv_add_emod t f
    rw [Int.mul_comm] at e
    exact ⟨_, _, rfl, rfl, hq0, hq1, hm0, by omega, e.symm, g_init 4294967296 P U V lo u2 t lv s f (t / f) (t % f) hlo1 HVU.out HVV.out hlv0 hs0 hP0 (by decide) hu21 e.symm hm1 hq0⟩
  case round =>
    obtain ⟨g, r, rfl, rfl, hg0, hg1, hr0, hr1, htg, hug⟩ := hrel
    have HT := hidd htg
    have HUG := hidd hug
    clear htg hug
    by_cases hr : r < 4294967296
    · obtain ⟨l, hor2⟩ : ∃ l, bits .or .u64 (r * 4294967296) u2 = l := ⟨_, rfl⟩
      have hlv' : l = r * 4294967296 + u2 := hor2.symm.trans ((or_halves u2 r hu20 hu21 hr0 hr).2.trans (by omega))
      have hl0 : 0 ≤ l := by omega
      have hl1 : l < 18446744073709551616 := by omega
      have HL := hidd hlv'
      clear hlv'
      by_cases hgB : 4294967296 ≤ g
      · have hdown : U < g * V := by
          have h1 := g_big hgB hlt (by have := HVV.out; have := Int.mul_nonneg (Int.le_of_lt hP0) (show (0 : Int) ≤ s + 4294967296 * f by omega); omega)
          exact h1
        have HD := hidd hdown
        clear hdown
        go_wp2
        go_round
        case rel =>
          refine ⟨g - 1, r + f, rfl, rfl, by omega, by omega, by omega, by omega, ?_, ?_⟩
          · have := HT.out; rw [Int.sub_mul]; omega
          · rw [show g - 1 + 1 = g from by omega]; exact HD.out
        case measure => simp [intOf]; omega
      · have hgs0 : 0 ≤ g * s := Int.mul_nonneg hg0 hs0
        have hgs1 : g * s ≤ 18446744065119617025 := (mul_bd hg0 (by omega) hs0 hs1).2
        by_cases hgs : l < g * s
        · have hdown : U < g * V := g_down1 4294967296 P U V lo u2 t lv s f g r hlo1 HVU.out HVV.out hlv0 hP0 HT.out hg0 (by have := HL.out; omega)
          have HD := hidd hdown
          have hgp : 1 ≤ g := by
            rcases (by omega : g = 0 ∨ 1 ≤ g) with h | h
            · rw [h, Int.zero_mul] at hgs; omega
            · exact h
          clear hdown
          go_wp2
          go_round
          case rel =>
            refine ⟨g - 1, r + f, rfl, rfl, by omega, by omega, by omega, by omega, ?_, ?_⟩
            · have := HT.out; rw [Int.sub_mul]; omega
            · rw [show g - 1 + 1 = g from by omega]; exact HD.out
          case measure => simp [intOf]; omega
        · have hend : (g - 1) * V ≤ U := g_end 4294967296 P U V lo u2 t lv s f g r hlo0 HVU.out HVV.out hlv0 hlv1 hs0 hP0 (by omega) HT.out hg0 (by omega) (by have := HL.out; omega)
          have HG : Hid (Guess U V g) := ⟨HUG.out, hend, hg0, by omega⟩
          clear hend
          go_wp2
          go_ret
          exact ⟨g, rfl, HG.out, hd4⟩
    · have hgB : g < 4294967296 := by
        have h1 := HT.out
        rcases (by omega : g < 4294967296 ∨ 4294967296 ≤ g) with h | h
        · exact h
        · have := Int.mul_le_mul_of_nonneg_right h (show 0 ≤ f by omega)
          omega
      have hgs1 : g * s ≤ 18446744065119617025 := (mul_bd hg0 hgB hs0 hs1).2
      have hend : (g - 1) * V ≤ U := g_end 4294967296 P U V lo u2 t lv s f g r hlo0 HVU.out HVV.out hlv0 hlv1 hs0 hP0 (by omega) HT.out hg0 hgB (by omega)
      have HG : Hid (Guess U V g) := ⟨HUG.out, hend, hg0, hgB⟩
      clear hend
      go_wp2
      go_ret
      exact ⟨g, rfl, HG.out, hd4⟩

end Go.Proofs.Ytjpbmghdamcdcaa
