/- Walks of the reference: size, Same. -/
import Derived.Test.YtjpbmghdamcdcaaRa
namespace Go.Proofs.Ytjpbmghdamcdcaa
open Go.RowKit

set_option maxHeartbeats 1000000 in
theorem size_any (w : World) (ax ay : Option Addr) (n m cx cy : Nat) (xs ys : List Int) (hX : Sl w ax n cx xs) (hY : Sl w ay m cy ys) (hcx : Canon xs) (hcy : Canon ys) (hb1 : n ≤ 4000000) (hb2 : m ≤ 4000000) :
    Calls Try.prog 61 #[.slice ax n cx, .slice ay m cy] w fun e w' => e = .returned (.int .i64 (cmpI (val xs) (val ys))) ∧ Drawn w w' := by
  have hn := hidd hX.len
  have hm := hidd hY.len
  have hx := hX.cells
  have hy := hY.cells
  by_cases hnm : n = m
  · subst hnm
    go_enter Try.func61, Try.ntmps61
    go_wp2
    go_loopw [5] (fun i wr => ∃ (k : Nat), k ≤ n ∧ i = .int .i64 ((k : Int) - 1) ∧ Drawn w wr ∧ xs.drop k = ys.drop k) (fun i _ => (intOf i + 1).toNat)
    case atStart => exact ⟨n, Nat.le_refl _, rfl, ⟨0, rfl⟩, by rw [List.drop_of_length_le (by rw [hn.out]; omega), List.drop_of_length_le (by rw [hm.out]; omega)]⟩
    case round =>
      obtain ⟨k, hk, rfl, hd, hv⟩ := hrel
      have HV := hidd hv
      clear hv
      by_cases h0 : 0 < k
      · obtain ⟨b, off, rfl, hbl, x, hxc, hx0, hx1, HX⟩ := hx.at (k := k - 1) (by rw [hn.out]; omega)
        obtain ⟨b2, off2, rfl, hbl2, y, hyc, hy0, hy1, HY⟩ := hy.at (k := k - 1) (by rw [hm.out]; omega)
        have hxr := (hd.cell _).trans hxc
        have hyr := (hd.cell _).trans hyc
        have hkx : k - 1 < xs.length := by rw [hn.out]; omega
        have hln : xs.length = ys.length := by rw [hn.out, hm.out]
        have HLN := hidd hln
        clear hxc hyc hln
        by_cases he : x < y
        · have hk1 : k - 1 + 1 = k := by omega
          have HA : Hid (cmpI (val xs) (val ys) = -1) := by
            have := cmp_at hX.digs hY.digs hkx HLN.out (by rw [hk1]; exact HV.out) (by rw [HX.out, HY.out]; exact he)
            exact if_pos this
          clear hk1
          go_wp2
          go_quiet (fail)
          go_wp2
          go_ret
          refine ⟨?_, hd.drewN _⟩
          rw [HA.out]; try rfl
        · have hle : decide (x < y) = false := by simp; omega
          by_cases hg : y < x
          · have hk1 : k - 1 + 1 = k := by omega
            have HA : Hid (cmpI (val xs) (val ys) = 1) := by
              have hky : k - 1 < ys.length := by have := HLN.out; omega
              have := cmp_at hY.digs hX.digs hky HLN.out.symm (by rw [hk1]; exact HV.out.symm) (by rw [HX.out, HY.out]; exact hg)
              exact (if_neg (by omega)).trans (if_neg (by omega))
            clear hk1
            go_wp2
            go_quiet (fail)
            go_wp2
            obtain ⟨w2, hw2⟩ : ∃ w2, w2 = wr.drewN nq := ⟨_, rfl⟩
            rw [← hw2]
            have hd2 : Drawn w w2 := by rw [hw2]; exact hd.drewN _
            have hxr2 := (hd2.cell _).trans ((hd.cell _).symm.trans hxr)
            have hyr2 := (hd2.cell _).trans ((hd.cell _).symm.trans hyr)
            clear hw2 hxr hyr
            go_quiet (fail)
            go_wp2
            go_ret
            refine ⟨?_, hd2.drewN _⟩
            rw [HA.out]; try rfl
          · have hge : decide (y < x) = false := by simp; omega
            have HE : Hid (x = y) := by show _ = _; omega
            go_wp2
            go_quiet (fail)
            go_wp2
            obtain ⟨w2, hw2⟩ : ∃ w2, w2 = wr.drewN nq := ⟨_, rfl⟩
            rw [← hw2]
            have hd2 : Drawn w w2 := by rw [hw2]; exact hd.drewN _
            have hxr2 := (hd2.cell _).trans ((hd.cell _).symm.trans hxr)
            have hyr2 := (hd2.cell _).trans ((hd.cell _).symm.trans hyr)
            clear hw2 hxr hyr
            go_quiet (fail)
            go_wp2
            go_roundw
            case rel =>
              refine ⟨k - 1, by omega, by go_num, hd2.drewN _, ?_⟩
              exact drop_step hkx HLN.out (by rw [show k - 1 + 1 = k from by omega]; exact HV.out) (by rw [HX.out, HY.out]; exact HE.out)
            case measure => simp [intOf]; omega
      · go_wp2
        go_ret
        obtain rfl : k = 0 := by omega
        refine ⟨?_, hd⟩
        have e : xs = ys := by simpa using HV.out
        subst e
        simp [cmpI]
  · have h1 : ((n : Int) == m) = false := by simp; omega
    have h2 : ((n : Int) != m) = true := by simp; omega
    by_cases hlt : n < m
    · have hli : ((n : Int) < (m : Int)) := by omega
      go_enter Try.func61, Try.ntmps61
      go_wp2
      go_ret
      refine ⟨?_, 0, rfl⟩
      have := Canon.lt_of_length hX.digs hcy (by rw [hn.out, hm.out]; exact hlt)
      simp [cmpI, this]
    · have hli : ¬ ((n : Int) < (m : Int)) := by omega
      go_enter Try.func61, Try.ntmps61
      go_wp2
      go_ret
      refine ⟨?_, 0, rfl⟩
      have := Canon.lt_of_length hY.digs hcx (by rw [hn.out, hm.out]; omega)
      simp [cmpI, show ¬ val xs < val ys by omega, show ¬ val xs = val ys by omega]

/-- Two canonical forms are the same if and only if the numbers are. -/
theorem sgn_inj {a b : Bool} {xs ys : List Int} {n m : Nat} (hdx : Canon xs) (hdy : Canon ys) (hx : 0 ≤ val xs) (hy : 0 ≤ val ys) (hn : xs.length = n) (hm : ys.length = m) (ha : a = true → n ≠ 0) (hb : b = true → m ≠ 0) :
    (sgn a (val xs) = sgn b (val ys)) ↔ (a = b ∧ val xs = val ys) := by
  have hzx := hdx.zero
  have hzy := hdy.zero
  rw [hn] at hzx
  rw [hm] at hzy
  constructor
  · intro h
    cases a <;> cases b <;> simp [sgn] at h ⊢
    · exact h
    · have := hb rfl
      have : val ys ≠ 0 := fun h => this (hzy.2 h)
      omega
    · have := ha rfl
      have : val xs ≠ 0 := fun h => this (hzx.2 h)
      omega
    · omega
  · rintro ⟨rfl, h⟩
    rw [h]

theorem cmpI_zero {x y : Int} : cmpI x y = 0 ↔ x = y := by
  unfold cmpI
  split
  · constructor <;> intro h <;> omega
  · split
    · constructor <;> intro h <;> omega
    · constructor <;> intro h <;> omega

set_option maxHeartbeats 1000000 in
theorem Same_any (w : World) (na nb : Bool) (ax ay : Option Addr) (n m cx cy : Nat) (xs ys : List Int) (hX : Sl w ax n cx xs) (hY : Sl w ay m cy ys) (hcx : Canon xs) (hcy : Canon ys) (hna : na = true → n ≠ 0) (hnb : nb = true → m ≠ 0) (hb1 : n ≤ 4000000) (hb2 : m ≤ 4000000) :
    Calls Try.prog 17 #[.agg #[.bool na, .slice ax n cx], .agg #[.bool nb, .slice ay m cy]] w fun e w' => e = .returned (.bool (decide (sgn na (val xs) = sgn nb (val ys)))) ∧ Below w.heap.size w w' := by
  have hinj := sgn_inj hcx hcy (val_nonneg hX.digs) (val_nonneg hY.digs) hX.len hY.len hna hnb
  obtain ⟨w0, hw0, hA, hB, hbl⟩ : ∃ w0, w0 = (w.alloc (.cells #[.bool na, .slice ax n cx] 27)).alloc (.cells #[.bool nb, .slice ay m cy] 27) ∧ IntBox w0 w.heap.size (.bool na) (.slice ax n cx) ∧ IntBox w0 (w.heap.size + 1) (.bool nb) (.slice ay m cy) ∧ Below w.heap.size w w0 := by
    refine ⟨_, rfl, ?_, ?_, ?_⟩
    · exact (IntBox.new w _ _ _).mono (alloc_below (w.alloc (.cells #[.bool na, .slice ax n cx] 27)) _) (by simp)
    · have := IntBox.new (w.alloc (.cells #[.bool na, .slice ax n cx] 27)) (.bool nb) (.slice ay m cy) 27
      rw [World.size_alloc] at this
      exact this
    · exact ((Below.refl _ _).alloc (Nat.le_refl _) _).alloc (by simp) _
  have hX0 := hX.mono hbl
  have hY0 := hY.mono hbl
  obtain ⟨a0, a1, _, _⟩ := hA
  obtain ⟨b0, b1, _, _⟩ := hB
  by_cases hs : na = nb
  · subst hs
    have hi : Hid (decide (sgn na (val xs) = sgn na (val ys)) = decide (val xs = val ys)) := by
      show _ = _
      rw [decide_eq_decide, hinj]; simp
    clear hinj
    go_enter Try.func17, Try.ntmps17
    go_upto_region 1 with (fail)
    rw [← hw0]
    clear hw0
    have hbb : (na == na) = true := by cases na <;> rfl
    go_wp2_with fail
    refine (size_any _ _ _ _ _ _ _ _ _ hX0 hY0 hcx hcy (by omega) (by omega)).mono ?_
    rintro e w1 ⟨rfl, hd⟩
    have hbl1 := hbl.trans (hd.below _)
    by_cases he : val xs = val ys
    · have hc : cmpI (val xs) (val ys) = 0 := cmpI_zero.2 he
      have hI : Hid (decide (sgn na (val xs) = sgn na (val ys)) = true) := hi.out.trans (by simp [he])
      rw [hc]
      clear hc he hi
      go_wp2
      go_ret
      exact ⟨by rw [hI.out]; try rfl, hbl1⟩
    · have hc : cmpI (val xs) (val ys) ≠ 0 := fun h => he (cmpI_zero.1 h)
      have hI : Hid (decide (sgn na (val xs) = sgn na (val ys)) = false) := hi.out.trans (by simp [he])
      generalize cmpI (val xs) (val ys) = t at *
      have hcb : (t == 0) = false := by simp [hc]
      clear he hi hc
      go_wp2
      go_ret
      exact ⟨by rw [hI.out]; try rfl, hbl1⟩
  · have hi : Hid (decide (sgn na (val xs) = sgn nb (val ys)) = false) := by
      show _ = _
      simp only [decide_eq_false_iff_not]
      intro h; exact hs (hinj.1 h).1
    have hbb : (na == nb) = false := by simp [hs]
    clear hinj hs
    go_enter Try.func17, Try.ntmps17
    go_upto_region 1 with (fail)
    rw [← hw0]
    clear hw0
    go_wp2
    go_ret
    exact ⟨by rw [hi.out]; try rfl, hbl⟩

end Go.Proofs.Ytjpbmghdamcdcaa
