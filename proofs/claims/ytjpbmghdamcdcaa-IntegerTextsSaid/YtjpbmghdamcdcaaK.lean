/- Walks: Sub, Cmp. -/
import Derived.Test.YtjpbmghdamcdcaaJ
namespace Go.Proofs.Ytjpbmghdamcdcaa
open Go.RowKit

set_option maxHeartbeats 1000000 in
theorem Sub_any (w : World) (na nb : Bool) (ax ay : Option Addr) (n m cx cy : Nat) (xs ys : List Int) (hX : Sl w ax n cx xs) (hY : Sl w ay m cy ys) (hb1 : n ≤ 1000000) (hb2 : m ≤ 1000000) :
    Calls Try.prog 21 #[.agg #[.bool na, .slice ax n cx], .agg #[.bool nb, .slice ay m cy]] w (GivesInt w (sgn na (val xs) - sgn nb (val ys))) := by
  go_enter Try.func21, Try.ntmps21
  go_wp2_with fail
  obtain ⟨w0, hw0, hA, hB, hC, hbl, HS⟩ := boxes3 w (.bool na) (.slice ax n cx) (.bool !nb) (.slice ay m cy) 27
  rw [← hw0]
  clear hw0
  have hX0 := hX.mono hbl
  have hY0 := hY.mono hbl
  refine (Add_any _ _ _ _ _ _ _ _ _ _ _ hX0 hY0 hb1 hb2).mono ?_
  rintro e w3 ⟨v, rfl, ⟨ng, ao, nn, cc, rs, rfl, hrs, hrc, hrn, hrz⟩, hb3⟩
  obtain ⟨e0, e1, e2, e3⟩ := hC.mono hb3 hC.lt
  have hb4 := hbl.trans (hb3.mono hbl.size)
  have HZ : Hid (sgn na (val xs) - sgn nb (val ys) = sgn ng (val rs)) := by
    show _ = _
    rw [← hrz]; cases nb <;> simp [sgn] <;> omega
  clear hrz
  go_wp2
  refine bodyPost_ret (v := .agg #[.bool ng, .slice ao nn cc]) ?_ rfl ?_
  · simp [results, Try.results21, go_sem, e0, e1]
  · exact gives_store ⟨e0, e1, e2, e3⟩ hrs hrc hrn HZ.out hb4 (by omega)

theorem cmpI_self (x : Int) : cmpI x x = 0 := by unfold cmpI; rw [if_neg (by omega), if_pos rfl]

/-- Of two numbers of one sign the sizes decide. -/
theorem cmp_same {a b : Bool} {x y : Int} (hx : 0 ≤ x) (hy : 0 ≤ y) (h : cmpI (sgn a x) 0 = cmpI (sgn b y) 0) : cmpI (sgn a x) 0 * cmpI x y = cmpI (sgn a x) (sgn b y) := by
  unfold cmpI sgn at *
  cases a <;> cases b <;> simp only [Bool.false_eq_true, if_false, if_true] at * <;> (repeat' split at h) <;> (repeat' split) <;> omega

theorem cmp_diff {a b : Int} (h : cmpI a 0 ≠ cmpI b 0) : (if cmpI a 0 < cmpI b 0 then (-1 : Int) else 1) = cmpI a b := by
  unfold cmpI at *
  (repeat' split at h) <;> (repeat' split) <;> omega

theorem cmpI_bd (a b : Int) : -1 ≤ cmpI a b ∧ cmpI a b ≤ 1 := by
  unfold cmpI; split
  · omega
  · split <;> omega

set_option maxHeartbeats 1000000 in
theorem Cmp_any (w : World) (na nb : Bool) (ax ay : Option Addr) (n m cx cy : Nat) (xs ys : List Int) (hX : Sl w ax n cx xs) (hY : Sl w ay m cy ys) (hb1 : n ≤ 1000000) (hb2 : m ≤ 1000000) :
    Calls Try.prog 29 #[.agg #[.bool na, .slice ax n cx], .agg #[.bool nb, .slice ay m cy]] w fun e w' => e = .returned (.int .i64 (cmpI (sgn na (val xs)) (sgn nb (val ys)))) ∧ Below w.heap.size w w' := by
  have hx0 := val_nonneg hX.digs
  have hy0 := val_nonneg hY.digs
  obtain ⟨s, hs⟩ : ∃ s, s = cmpI (sgn na (val xs)) 0 := ⟨_, rfl⟩
  obtain ⟨t, ht⟩ : ∃ t, t = cmpI (sgn nb (val ys)) 0 := ⟨_, rfl⟩
  obtain ⟨r, hr⟩ : ∃ r, r = cmpI (sgn na (val xs)) (sgn nb (val ys)) := ⟨_, rfl⟩
  have hsb := cmpI_bd (sgn na (val xs)) 0
  rw [← hs] at hsb
  obtain ⟨hsb1, hsb2⟩ := hsb
  have HS' := hidd hs
  have HT' := hidd ht
  have HR' := hidd hr
  rw [← hr]
  clear hs ht hr
  go_enter Try.func29, Try.ntmps29
  go_wp2_with fail
  obtain ⟨w0, hw0⟩ : ∃ w0, w0 = (w.alloc (.cells #[.bool na, .slice ax n cx] 27)).alloc (.cells #[.bool nb, .slice ay m cy] 27) := ⟨_, rfl⟩
  rw [← hw0]
  have hA : IntBox w0 w.heap.size (.bool na) (.slice ax n cx) := by rw [hw0]; exact (IntBox.new w _ _ _).mono (alloc_below _ _) (by simp)
  have hB : IntBox w0 (w.heap.size + 1) (.bool nb) (.slice ay m cy) := by
    rw [hw0]
    have := IntBox.new (w.alloc (.cells #[.bool na, .slice ax n cx] 27)) (.bool nb) (.slice ay m cy) 27
    rw [World.size_alloc] at this
    exact this
  have hbl : Below w.heap.size w w0 := by rw [hw0]; exact (alloc_below _ _).trans ((alloc_below _ _).mono (by simp))
  have hsz0 : w0.heap.size = w.heap.size + 2 := by rw [hw0]; simp
  have HSZ := hidd hsz0
  clear hw0 hsz0
  have hXd := (hX.mono hbl).drew
  have hYd := (hY.mono hbl).drew
  have hcut : w.heap.size + 2 ≤ w0.heap.size := by have := HSZ.out; omega
  obtain ⟨ca0, ca1, _, _⟩ := hA
  obtain ⟨cb0, cb1, _, _⟩ := hB
  go_region_held3 (fun W => w.heap.size + 2 ≤ W.heap.size ∧ (∀ b o, b < w.heap.size + 2 → W.cell? ⟨b, o, none⟩ = w0.cell? ⟨b, o, none⟩) ∧ ∀ b o, b < w.heap.size + 2 → W.frozen? ⟨b, o, none⟩ = w0.frozen? ⟨b, o, none⟩)
    (first | exact Kept.start hcut | assumption | exact Kept.call (by assumption) (by assumption))
    (first | (go_at_call 31; (with_reducible refine (Sign_any _ _ _ _ _ _ hXd (by omega)).mono ?_); rw [← HS'.out]; rintro e w2 ⟨rfl, hB2⟩; have hY2 := hYd.mono hB2) | (go_at_call 31; (with_reducible refine (Sign_any _ _ _ _ _ _ hY2 (by omega)).mono ?_); rw [← HT'.out]; rintro e w3 ⟨rfl, hB3⟩))
  have hbl3 : Below w.heap.size w w3 := (hbl.drew.trans (hB2.mono hbl.size)).trans (hB3.mono (Nat.le_trans hbl.size hB2.size))
  by_cases hst : s = t
  · subst hst
    have hsb : (s != s) = false := by simp
    have hX3 : Sl w3 ax n cx xs := (hXd.mono hB2).mono hB3
    have hY3 : Sl w3 ay m cy ys := hY2.mono hB3
    have hX3d := hX3.drew
    have hY3d := hY3.drew
    have da1 : w3.cell? ⟨w.heap.size, 1, none⟩ = some (.slice ax n cx) := ((hB3.cell (p := ⟨w.heap.size, 1, none⟩) (by have := HSZ.out; have := hB2.size; simp at this; show w.heap.size < _; omega)).trans (hB2.cell (p := ⟨w.heap.size, 1, none⟩) (by have := HSZ.out; show w.heap.size < _; simp; omega))).trans ca1
    have db1 : w3.cell? ⟨w.heap.size + 1, 1, none⟩ = some (.slice ay m cy) := ((hB3.cell (p := ⟨w.heap.size + 1, 1, none⟩) (by have := HSZ.out; have := hB2.size; simp at this; show w.heap.size + 1 < _; omega)).trans (hB2.cell (p := ⟨w.heap.size + 1, 1, none⟩) (by have := HSZ.out; show w.heap.size + 1 < _; simp; omega))).trans cb1
    have hcut3 : w.heap.size + 2 ≤ w3.heap.size := by have := hB2.size; have := hB3.size; simp at *; omega
    obtain ⟨c, hc⟩ : ∃ c, c = cmpI (val xs) (val ys) := ⟨_, rfl⟩
    have hcb := cmpI_bd (val xs) (val ys)
    rw [← hc] at hcb
    have hsc : s * c = r := by rw [HS'.out, hc, HR'.out]; exact cmp_same hx0 hy0 (by rw [← HS'.out, ← HT'.out])
    have hsw : IntKind.i64.wrap (s * c) = r := by
      rw [hsc, HR'.out]
      have := cmpI_bd (sgn na (val xs)) (sgn nb (val ys))
      exact IntWalk.i64_in _ (by omega)
    have HC := hidd hc
    clear hc hsc hXd hYd hcut hbl hB2 hB3 hY2
    go_wp2
    go_region_held3 (fun W => w.heap.size + 2 ≤ W.heap.size ∧ (∀ b o, b < w.heap.size + 2 → W.cell? ⟨b, o, none⟩ = w3.cell? ⟨b, o, none⟩) ∧ ∀ b o, b < w.heap.size + 2 → W.frozen? ⟨b, o, none⟩ = w3.frozen? ⟨b, o, none⟩)
      (first | exact Kept.start hcut3 | assumption | exact Kept.call (by assumption) (hd.below _))
      (first | (go_at_call 53; (with_reducible refine (trim_any _ _ _ _ _ hX3d (by omega)).mono ?_); rintro e w' ⟨m1, rfl, hm1, hs1, hv1, hc1, rfl⟩) | (go_at_call 53; (with_reducible refine (trim_any _ _ _ _ _ hY3d (by omega)).mono ?_); rintro e w' ⟨m2, rfl, hm2, hs2, hv2, hc2, rfl⟩) | (go_at_call 65; (with_reducible refine (cmpSize_any _ _ _ _ _ _ _ _ _ hs1 hs2 hc1 hc2 (by omega) (by omega)).mono ?_); rw [hv1, hv2, ← HC.out]; rintro e w5 ⟨rfl, hd⟩))
    go_wp2
    go_ret
    exact ⟨rfl, hbl3.drew.trans (hd.below _)⟩
  · have hsb : (s != t) = true := by simp [hst]
    have hans : (if decide (s < t) then (-1 : Int) else 1) = r := by
      have h := cmp_diff (a := sgn na (val xs)) (b := sgn nb (val ys)) (by rw [← HS'.out, ← HT'.out]; exact hst)
      rw [← HS'.out, ← HT'.out, ← HR'.out] at h
      simpa using h
    have HA := hidd hans
    clear hans
    by_cases hlt : s < t
    · have hr1 : r = -1 := by have := HA.out; simp [hlt] at this; exact this.symm
      have HR1 := hidd hr1
      clear hr1
      go_wp2_with (go_at_call 69; refine (order_any _ _).mono ?_; rintro e w' ⟨rfl, rfl⟩)
      go_ret
      exact ⟨by rw [HR1.out]; rfl, hbl3⟩
    · have hr1 : r = 1 := by have := HA.out; simp [hlt] at this; exact this.symm
      have HR1 := hidd hr1
      have hlt' : decide (s < t) = false := by simp [hlt]
      clear hr1
      go_wp2_with (go_at_call 69; refine (order_any _ _).mono ?_; rintro e w' ⟨rfl, rfl⟩)
      go_ret
      exact ⟨by rw [HR1.out]; rfl, hbl3⟩

end Go.Proofs.Ytjpbmghdamcdcaa
