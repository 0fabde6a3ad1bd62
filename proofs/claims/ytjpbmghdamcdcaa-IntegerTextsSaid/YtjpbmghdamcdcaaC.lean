/- Walk: sizes are compared. -/
import Derived.Test.YtjpbmghdamcdcaaA
namespace Go.Proofs.Ytjpbmghdamcdcaa
open Go.RowKit

theorem Sl.drewN {w : World} {ao : Option Addr} {n c : Nat} {xs : List Int} (h : Sl w ao n c xs) (d : Nat) : Sl (w.drewN d) ao n c xs := ⟨h.len, h.cap, h.cells⟩

theorem order_same (b : Bool) (w : World) : Calls Try.prog 69 #[.bool b] w fun e w' => e = .returned (.int .i64 (if b then -1 else 1)) ∧ w' = w :=
  (order_any b w).mono fun _ _ h => ⟨h.1, h.2.symm⟩

/-- Only draws lie between. -/
def Drawn (w w' : World) : Prop := ∃ d, w' = w.drewN d
theorem Drawn.refl (w : World) : Drawn w w := ⟨0, rfl⟩
theorem Drawn.cell {w w' : World} (h : Drawn w w') (a : Addr) : w'.cell? a = w.cell? a := by obtain ⟨d, rfl⟩ := h; rfl
theorem Drawn.drewN {w w' : World} (h : Drawn w w') (n : Nat) : Drawn w (w'.drewN n) := by
  obtain ⟨d, rfl⟩ := h
  exact ⟨d + n, by rw [World.drewN_drewN]⟩
theorem Drawn.below {w w' : World} (h : Drawn w w') (B : Nat) : Below B w w' := by
  obtain ⟨d, rfl⟩ := h
  exact ⟨rfl, rfl, rfl, Nat.le_refl _, fun _ _ => rfl⟩
theorem Drawn.size {w w' : World} (h : Drawn w w') : w'.heap.size = w.heap.size := by obtain ⟨d, rfl⟩ := h; rfl

set_option maxHeartbeats 400000 in
theorem cmpSize_any (w : World) (ax ay : Option Addr) (n m cx cy : Nat) (xs ys : List Int) (hX : Sl w ax n cx xs) (hY : Sl w ay m cy ys) (hcx : Canon xs) (hcy : Canon ys) (hb1 : n ≤ 4000000) (hb2 : m ≤ 4000000) :
    Calls Try.prog 65 #[.slice ax n cx, .slice ay m cy] w fun e w' => e = .returned (.int .i64 (cmpI (val xs) (val ys))) ∧ Drawn w w' := by
  have hn := hidd hX.len
  have hm := hidd hY.len
  have hx := hX.cells
  have hy := hY.cells
  by_cases hnm : n = m
  · subst hnm
    go_enter Try.func65, Try.ntmps65
    go_wp2
    go_loopw [5] (fun i wr => ∃ (k : Nat), k ≤ n ∧ i = .int .i64 ((k : Int) - 1) ∧ Drawn w wr ∧ xs.drop k = ys.drop k) (fun i _ => (intOf i + 1).toNat)
    case atStart => exact ⟨n, Nat.le_refl _, rfl, ⟨0, rfl⟩, by rw [List.drop_of_length_le (by rw [hn.out]; omega), List.drop_of_length_le (by rw [hm.out]; omega)]⟩
    case round =>
      obtain ⟨k, hk, rfl, hd, hv⟩ := hrel
      have HV := hidd hv
      clear hv
      by_cases h0 : 0 < k
      · obtain ⟨b, off, rfl, hbl, x, hxc, hx0, hx1, HX⟩ := hx.at (k := k - 1) (by rw [hn.out]; omega)
        obtain ⟨b2, off2, rfl, hbl2, y, hyc, hy0, hy1, HY⟩ := hy.at (k := k - 1) (by rw [hm.out]; omega)
        have hxr := (hd.cell _).trans hxc
        have hyr := (hd.cell _).trans hyc
        have hkx : k - 1 < xs.length := by rw [hn.out]; omega
        have hln : xs.length = ys.length := by rw [hn.out, hm.out]
        have HLN := hidd hln
        clear hxc hyc hln
        by_cases he : x = y
        · subst he
          go_wp2
          go_quiet (fail)
          go_wp2
          go_roundw
          case rel =>
            refine ⟨k - 1, by omega, by go_num, hd.drewN _, ?_⟩
            exact drop_step hkx HLN.out (by rw [show k - 1 + 1 = k from by omega]; exact HV.out) (by rw [HX.out, HY.out])
          case measure => simp [intOf]; omega
        · have he1 : (x == y) = false := by simp [he]
          have he2 : (x != y) = true := by simp [he]
          have hk1 : k - 1 + 1 = k := by omega
          rcases Int.lt_or_gt_of_ne he with h | h
          · have HA : Hid (cmpI (val xs) (val ys) = -1) := by
              have := cmp_at hX.digs hY.digs hkx HLN.out (by rw [hk1]; exact HV.out) (by rw [HX.out, HY.out]; exact h)
              exact if_pos this
            clear hk1
            go_wp2
            go_quiet (fail)
            go_wp2
            obtain ⟨w2, hw2⟩ : ∃ w2, w2 = wr.drewN nq := ⟨_, rfl⟩
            rw [← hw2]
            have hd2 : Drawn w w2 := by rw [hw2]; exact hd.drewN _
            have hxr2 := (hd2.cell _).trans ((hd.cell _).symm.trans hxr)
            have hyr2 := (hd2.cell _).trans ((hd.cell _).symm.trans hyr)
            clear hw2 hxr hyr
            go_quiet ((go_at_call 69; exact Calls.quiet_of_same (order_same _ _)))
            go_wp2
            go_ret
            refine ⟨?_, hd2.drewN _⟩
            rw [HA.out]
            rfl
          · have HA : Hid (cmpI (val xs) (val ys) = 1) := by
              have hky : k - 1 < ys.length := by have := HLN.out; omega
              have := cmp_at hY.digs hX.digs hky HLN.out.symm (by rw [hk1]; exact HV.out.symm) (by rw [HX.out, HY.out]; exact h)
              exact (if_neg (by omega)).trans (if_neg (by omega))
            have h' : decide (x < y) = false := by simp; omega
            clear hk1
            go_wp2
            go_quiet (fail)
            go_wp2
            obtain ⟨w2, hw2⟩ : ∃ w2, w2 = wr.drewN nq := ⟨_, rfl⟩
            rw [← hw2]
            have hd2 : Drawn w w2 := by rw [hw2]; exact hd.drewN _
            have hxr2 := (hd2.cell _).trans ((hd.cell _).symm.trans hxr)
            have hyr2 := (hd2.cell _).trans ((hd.cell _).symm.trans hyr)
            clear hw2 hxr hyr
            go_quiet ((go_at_call 69; exact Calls.quiet_of_same (order_same _ _)))
            go_wp2
            go_ret
            refine ⟨?_, hd2.drewN _⟩
            rw [HA.out]
            rfl
      · go_wp2
        go_ret
        obtain rfl : k = 0 := by omega
        refine ⟨?_, hd⟩
        have e : xs = ys := by simpa using HV.out
        subst e
        simp [cmpI]
  · have h1 : ((n : Int) == m) = false := by simp; omega
    have h2 : ((n : Int) != m) = true := by simp; omega
    by_cases hlt : n < m
    · go_enter Try.func65, Try.ntmps65
      go_wp2_with (go_at_call 69; refine (order_any _ _).mono ?_; rintro e w' ⟨rfl, rfl⟩)
      go_ret
      refine ⟨?_, 0, rfl⟩
      have := Canon.lt_of_length hX.digs hcy (by rw [hn.out, hm.out]; exact hlt)
      simp [cmpI, this]
    · go_enter Try.func65, Try.ntmps65
      go_wp2_with (go_at_call 69; refine (order_any _ _).mono ?_; rintro e w' ⟨rfl, rfl⟩)
      go_ret
      refine ⟨?_, 0, rfl⟩
      have := Canon.lt_of_length hY.digs hcx (by rw [hn.out, hm.out]; omega)
      simp [cmpI, show ¬ val xs < val ys by omega, show ¬ val xs = val ys by omega]

end Go.Proofs.Ytjpbmghdamcdcaa
