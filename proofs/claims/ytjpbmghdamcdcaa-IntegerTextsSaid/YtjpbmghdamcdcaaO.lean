/- Walk: sizes are divided. -/
import Derived.Test.YtjpbmghdamcdcaaN
import Derived.Test.YtjpbmghdamcdcaaD
import Derived.Test.YtjpbmghdamcdcaaG
import Derived.Test.YtjpbmghdamcdcaaI
namespace Go.Proofs.Ytjpbmghdamcdcaa
open Go.RowKit

/-- What a division leaves. -/
def DivDone (w : World) (X Y : Int) (e : Ending) (w' : World) : Prop :=
  ∃ aq ar nq nr cq cr qs rs, e = .returned (.tuple #[.slice aq nq cq, .slice ar nr cr]) ∧ Sl w' aq nq cq qs ∧ Sl w' ar nr cr rs ∧ Canon qs ∧ Canon rs ∧ val qs = X / Y ∧ val rs = X % Y ∧ Below w.heap.size w w'

theorem div_rem {X Y Q R : Int} (h : X = Q * Y + R) (h0 : 0 ≤ R) (h1 : R < Y) : Q = X / Y ∧ R = X % Y := by
  have hY : 0 < Y := by omega
  have e1 := ediv_unique (P := Y) (V := Q) (r := R) (a := X) (by rw [h, Int.mul_comm]) h0 h1 hY
  refine ⟨e1, ?_⟩
  have := Int.mul_ediv_add_emod X Y
  rw [← e1, Int.mul_comm] at this
  omega

theorem cmpI_lt {x y : Int} : cmpI x y < 0 ↔ x < y := by
  unfold cmpI
  split
  · simp_all
  · split <;> simp_all

set_option maxHeartbeats 1000000 in
theorem divSize_any (w : World) (ax ay : Option Addr) (n m cx cy : Nat) (xs ys : List Int) (hX : Sl w ax n cx xs) (hY : Sl w ay m cy ys) (hcx : Canon xs) (hcy : Canon ys) (h0 : 0 < val ys) (hb1 : n ≤ 900000) (hb2 : m ≤ 900000) :
    Calls Try.prog 54 #[.slice ax n cx, .slice ay m cy] w (DivDone w (val xs) (val ys)) := by
  have hnn := val_nonneg hX.digs
  by_cases hlt : val xs < val ys
  · have hcm : cmpI (val xs) (val ys) = -1 := if_pos hlt
    go_enter Try.func54, Try.ntmps54
    go_wp2_with (go_at_call 65; (with_reducible refine (cmpSize_any _ _ _ _ _ _ _ _ _ hX hY hcx hcy (by omega) (by omega)).mono ?_); rintro e w2 ⟨rfl, hd⟩)
    have hX2 := hX.drawn' hd
    go_wp2_with (go_at_call 62; (with_reducible refine (copied_sl _ _ _ _ _ hX2 (by omega)).mono ?_); rintro e w3 ⟨az, cz, rfl, hsz, hB2⟩)
    go_ret2
    exact ⟨_, _, _, _, _, _, [], xs, rfl, Sl.nil _, hsz, ⟨fun _ h => by simp at h, .inl rfl⟩, hcx, (Int.ediv_eq_zero_of_lt hnn hlt).symm, (Int.emod_eq_of_lt hnn hlt).symm, (hd.below _).trans (by rw [← hd.size]; exact hB2)⟩
  · have hmn : m ≤ n := len_le hcy hY hX (by omega)
    have hcm : 0 ≤ cmpI (val xs) (val ys) := by
      have := (not_congr (cmpI_lt (x := val xs) (y := val ys))).2 hlt; omega
    have hm1 : 1 ≤ m := by
      rcases Nat.eq_zero_or_pos m with h | h
      · have := hcy.zero.1 (by rw [hY.len]; exact h); omega
      · exact h
    by_cases hn2 : n ≤ 2
    · go_enter Try.func54, Try.ntmps54
      go_wp2_with (go_at_call 65; (with_reducible refine (cmpSize_any _ _ _ _ _ _ _ _ _ hX hY hcx hcy (by omega) (by omega)).mono ?_); rintro e w2 ⟨rfl, hd⟩)
      have hX2 := hX.drawn' hd
      have hY2 := hY.drawn' hd
      go_wp2_with (first | (go_at_call 63; (with_reducible refine (toWord_any _ _ _ _ _ hX2 hn2).mono ?_); rintro e w3 ⟨rfl, rfl⟩) | (go_at_call 63; (with_reducible refine (toWord_any _ _ _ _ _ hY2 (by omega)).mono ?_); rintro e w3 ⟨rfl, rfl⟩))
      have hXb : val xs < 18446744073709551616 := by
        have := val_lt hX.digs
        have h2 := pw_le (show xs.length ≤ 2 by rw [hX.len]; exact hn2)
        have e : pw 2 = 18446744073709551616 := by rfl
        omega
      have hB2 : Below w.heap.size w w2 := hd.below _
      have hsz2 := hd.size
      have HSZ := hidd hsz2
      clear hX2 hY2 hX hY hcx hcy hd hsz2
      generalize val xs = X at *
      generalize val ys = Y at *
      have hq0 : 0 ≤ X / Y := Int.ediv_nonneg hnn (by omega)
      have hq1 : X / Y ≤ X := Int.ediv_le_self _ hnn
      have hr0 : 0 ≤ X % Y := Int.emod_nonneg _ (by omega)
      have hr1 : X % Y < Y := Int.emod_lt_of_pos _ h0
      have hfne : ¬ Y = 0 := by omega
      have hfb : (Y == 0) = false := by simp; omega
      have hqv : IntKind.u64.wrap (X.tdiv Y) = X / Y := IntWalk.u64_quo _ _ ⟨hnn, by omega, by omega⟩
      have hmv : X.tmod Y = X % Y := IntWalk.rem_in _ _ hnn
      have hqw : IntKind.u64.wrap (X / Y) = X / Y := IntWalk.u64_in _ ⟨hq0, by omega⟩
      have hmw : IntKind.u64.wrap (X % Y) = X % Y := IntWalk.u64_in _ ⟨hr0, by omega⟩
      go_region_held3 (fun W => w2.heap.size ≤ W.heap.size) (first | exact Nat.le_refl _ | exact hB3.size | exact Nat.le_trans hB3.size hB4.size)
        (first | (go_at_call 64; (with_reducible refine (fromWord_any _ (X / Y) hq0 (by omega)).mono ?_); rintro e w3 ⟨aq, nq, cq, qs, rfl, hnq, hsq, hcq, hvq, hB3⟩) | (go_at_call 64; (with_reducible refine (fromWord_any _ (X % Y) hr0 (by omega)).mono ?_); rintro e w4 ⟨ar, nr, cr, rs, rfl, hnr, hsr, hcr, hvr, hB4⟩))
      go_wp2
      go_ret2
      exact ⟨_, _, _, _, _, _, qs, rs, rfl, hsq.mono hB4, hsr, hcq, hcr, hvq, hvr, (hB2.drew.trans (hB3.mono hB2.size)).trans (hB4.mono (Nat.le_trans hB2.size hB3.size))⟩
    · by_cases hm2 : m = 1
      · subst hm2
        go_enter Try.func54, Try.ntmps54
        go_wp2_with (go_at_call 65; (with_reducible refine (cmpSize_any _ _ _ _ _ _ _ _ _ hX hY hcx hcy (by omega) (by omega)).mono ?_); rintro e w2 ⟨rfl, hd⟩)
        have hX2 := hX.drawn' hd
        have hY2 := hY.drawn' hd
        have hB2 : Below w.heap.size w w2 := hd.below _
        obtain ⟨b, off, rfl, hbl, y, hyc, hy0, hy1, HY⟩ := hY2.cells.at (k := 0) (by rw [hY.len]; omega)
        have hvy : val ys = y := by
          have h1 := val_take_succ ys 0
          rw [val_take_all ys (by rw [hY.len]; omega), HY.out, pw_zero] at h1
          simp [val] at h1
          exact h1
        have HVY := hidd hvy
        have hyp : 0 < y := by omega
        simp only [Nat.add_zero] at hyc
        clear hvy hd
        go_wp2_with fail
        refine (copied_any _ _ _ _ _ hX2 (by omega)).mono ?_
        rintro e w3 ⟨rfl, hr3, hB3⟩
        have hyc3 := (hB3.cell (p := ⟨b, off, none⟩) hbl).trans hyc
        have hr3l : xs.length = n := hX.len
        have HR3 := hidd hr3l
        clear hr3l hyc
        go_wp2_with fail
        refine (divWord_any _ _ _ _ _ hr3 (by rw [HR3.out]; exact Nat.le_refl _) (by omega) y hyp hy1).mono ?_
        rintro e w4 ⟨r, qs, rfl, hr0, hr1, hrq, hql, hqd, hqv, hg4⟩
        rw [val_take_all xs (by rw [HR3.out]; exact Nat.le_refl _), val_take_all qs (by rw [hql, HR3.out]; exact Nat.le_refl _)] at hqv
        have hB4 : Below w.heap.size w w4 := (hB2.trans (hB3.mono hB2.size)).grown hg4 (Nat.le_trans hB2.size hB3.size) (by intro j hj; cases hj; exact hB2.size)
        have hsq := hrq.sl (hql.trans HR3.out)
        have HQV := hidd hqv
        clear hql hqd hqv hg4 hr3 hB3
        go_wp2_with fail
        refine (trim_any _ _ _ _ _ hsq (by omega)).mono ?_
        rintro e w5 ⟨mq, rfl, hmq, hsq2, hvq, hcq, rfl⟩
        go_wp2_with fail
        refine (fromWord_any _ r hr0 (by omega)).mono ?_
        rintro e w6 ⟨ar, nr, cr, rs, rfl, hnr, hsr, hcr, hvr, hB6⟩
        go_wp2
        go_ret2
        obtain ⟨f1, f2⟩ := div_rem (HQV.out) hr0 hr1
        rw [← HVY.out] at f1 f2
        exact ⟨_, _, _, _, _, _, _, rs, rfl, hsq2.mono hB6, hsr, hcq, hcr, hvq.trans f1, hvr.trans f2, hB4.trans (hB6.mono hB4.size)⟩
      · go_enter Try.func54, Try.ntmps54
        go_wp2_with (go_at_call 65; (with_reducible refine (cmpSize_any _ _ _ _ _ _ _ _ _ hX hY hcx hcy (by omega) (by omega)).mono ?_); rintro e w2 ⟨rfl, hd⟩)
        have hX2 := hX.drawn' hd
        have hY2 := hY.drawn' hd
        have hB2 : Below w.heap.size w w2 := hd.below _
        have hmb : ((m : Int) == 1) = false := by simp; omega
        clear hd
        go_wp2_with fail
        refine (divLong_any _ _ _ _ _ _ _ _ _ hX2 hY2 hcy (by omega) hmn (by omega)).mono ?_
        rintro e w3 ⟨aq, ar, nq, nr, cq, cr, qs, rs, rfl, hsq, hsr, hnq, hnr, hsum, hr0, hr1, hB3⟩
        obtain ⟨f1, f2⟩ := div_rem hsum hr0 hr1
        have F1 := hidd f1
        have F2 := hidd f2
        clear f1 f2 hsum hr0 hr1
        go_wp2_with fail
        refine (trim_any _ _ _ _ _ hsq (by omega)).mono ?_
        rintro e w5 ⟨mq, rfl, hmq, hsq2, hvq, hcq, rfl⟩
        go_wp2_with fail
        refine (trim_any _ _ _ _ _ hsr (by omega)).mono ?_
        rintro e w6 ⟨mr, rfl, hmr, hsr2, hvr, hcr, rfl⟩
        go_wp2
        go_ret2
        exact ⟨_, _, _, _, _, _, _, _, rfl, hsq2, hsr2, hcq, hcr, hvq.trans F1.out, hvr.trans F2.out, hB2.trans (hB3.mono hB2.size)⟩

end Go.Proofs.Ytjpbmghdamcdcaa
