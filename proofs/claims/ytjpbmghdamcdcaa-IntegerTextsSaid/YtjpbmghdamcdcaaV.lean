/- Walk: Sqrt. -/
import Derived.Test.YtjpbmghdamcdcaaU
namespace Go.Proofs.Ytjpbmghdamcdcaa
open Go.RowKit

/-- Two boxes hold what they held. -/
def Two (n a b : Nat) (p q p' q' : Value) (W : World) : Prop :=
  n ≤ W.heap.size ∧ W.cell? ⟨a, 0, none⟩ = some p ∧ W.cell? ⟨a, 1, none⟩ = some q ∧ W.cell? ⟨b, 0, none⟩ = some p' ∧ W.cell? ⟨b, 1, none⟩ = some q'

theorem Two.call {n a b : Nat} {p q p' q' : Value} {W W' : World} (h : Two n a b p q p' q' W) (hb : Below W.heap.size W W') (ha : a < n) (hb' : b < n) : Two n a b p q p' q' W' :=
  ⟨Nat.le_trans h.1 hb.size, (hb.cell (p := ⟨a, 0, none⟩) (Nat.lt_of_lt_of_le ha h.1)).trans h.2.1, (hb.cell (p := ⟨a, 1, none⟩) (Nat.lt_of_lt_of_le ha h.1)).trans h.2.2.1,
    (hb.cell (p := ⟨b, 0, none⟩) (Nat.lt_of_lt_of_le hb' h.1)).trans h.2.2.2.1, (hb.cell (p := ⟨b, 1, none⟩) (Nat.lt_of_lt_of_le hb' h.1)).trans h.2.2.2.2⟩

theorem Two.set {n a b c o : Nat} {p q p' q' : Value} {W : World} (h : Two n a b p q p' q' W) (ha : c ≠ a) (hb : c ≠ b) (v : Value) : Two n a b p q p' q' (W.setCell ⟨c, o, none⟩ v) := by
  refine ⟨by rw [World.size_setCell]; exact h.1, ?_, ?_, ?_, ?_⟩
  · rw [World.cell?_setCell_other _ _ _ _ (by intro e; cases e; exact ha rfl)]; exact h.2.1
  · rw [World.cell?_setCell_other _ _ _ _ (by intro e; cases e; exact ha rfl)]; exact h.2.2.1
  · rw [World.cell?_setCell_other _ _ _ _ (by intro e; cases e; exact hb rfl)]; exact h.2.2.2.1
  · rw [World.cell?_setCell_other _ _ _ _ (by intro e; cases e; exact hb rfl)]; exact h.2.2.2.2

/-- Three boxes: an argument and two results. -/
theorem boxes12 (w : World) (a1 a2 : Value) (t : TypeId) :
    ∃ w0, w0 = ((w.alloc (.cells #[a1, a2] t)).alloc (.cells #[.bool false, .slice none 0 0] t)).alloc (.cells #[.bool false, .slice none 0 0] t) ∧ IntBox w0 w.heap.size a1 a2 ∧ IntBox w0 (w.heap.size + 1) (.bool false) (.slice none 0 0) ∧
      IntBox w0 (w.heap.size + 1 + 1) (.bool false) (.slice none 0 0) ∧ Below w.heap.size w w0 ∧ Hid (w0.heap.size = w.heap.size + 3) :=
  boxes3 w a1 a2 (.bool false) (.slice none 0 0) t

/-- How long a square is. -/
theorem mul_len {w w' : World} {a a' : Option Addr} {n c n' c' : Nat} {xs ys : List Int} {b b' : Bool} (h : Sl w a n c xs) (h' : Sl w' a' n' c' ys) (hc : Canon ys) (hz : sgn b (val xs) * sgn b (val xs) = sgn b' (val ys)) : n' ≤ n + n := by
  have h0 := val_nonneg h.digs
  have h1 := val_lt h.digs
  have h2 := val_nonneg h'.digs
  have e1 : sgn b (val xs) * sgn b (val xs) = val xs * val xs := by cases b <;> simp [sgn, Int.neg_mul_neg]
  rw [e1] at hz
  have h3 := Int.mul_nonneg h0 h0
  have h4 : val ys = val xs * val xs := by
    cases b'
    · exact hz.symm
    · simp [sgn] at hz; omega
  have h5 : val xs * val xs < pw n * pw n := by
    rw [h.len] at h1
    have i1 := Int.mul_le_mul_of_nonneg_left (show val xs ≤ pw n by omega) h0
    have i2 := Int.mul_lt_mul_of_pos_right h1 (pw_pos n)
    omega
  have := hc.length_le (k := n + n) (by rw [h4, pw_add]; exact h5)
  rw [h'.len] at this; exact this

/-- What Sqrt leaves. -/
def SqrtGives (w : World) (z : Int) (e : Ending) (w' : World) : Prop :=
  Below w.heap.size w w' ∧ ((z < 0 ∧ e = .returned (.tuple #[zeroV, zeroV, .int .i64 1])) ∨ (0 ≤ z ∧ ∃ v v' r, e = .returned (.tuple #[v, v', .int .i64 0]) ∧ IsInt w' v r ∧ IsInt w' v' (z - r * r) ∧ IsRoot z 2 r))

set_option maxHeartbeats 2000000 in
theorem Sqrt_any (w : World) (na : Bool) (ax : Option Addr) (n cx : Nat) (xs : List Int) (hX : Sl w ax n cx xs) (hb1 : n ≤ 60000) :
    Calls Try.prog 35 #[.agg #[.bool na, .slice ax n cx]] w (SqrtGives w (sgn na (val xs))) := by
  have hx0 := val_nonneg hX.digs
  obtain ⟨s, hs⟩ : ∃ s, s = cmpI (sgn na (val xs)) 0 := ⟨_, rfl⟩
  have HS' := hidd hs
  clear hs
  go_enter Try.func35, Try.ntmps35
  go_wp2_with fail
  obtain ⟨w0, hw0, hA, hC, hD, hbl, HSZ⟩ := boxes12 w (.bool na) (.slice ax n cx) 27
  rw [← hw0]
  clear hw0
  refine (Sign_any _ _ _ _ _ _ (hX.mono hbl) (by omega)).mono ?_
  rw [← HS'.out]
  rintro e w2 ⟨rfl, hB2⟩
  have hA2 := hA.mono hB2 hA.lt
  have hC2 := hC.mono hB2 hC.lt
  have hD2 := hD.mono hB2 hD.lt
  have hbl2 := hbl.trans (hB2.mono hbl.size)
  have hX2 := (hX.mono hbl).mono hB2
  have HA2 := hidd hA2
  have HC2 := hidd hC2
  have HD2 := hidd hD2
  obtain ⟨a0, a1, _, _⟩ := hA2
  obtain ⟨c0, c1, c2, c3⟩ := hC2
  obtain ⟨d0, d1, d2, d3⟩ := hD2
  clear hA hC hD hbl hB2
  by_cases hs0 : s < 0
  · have hneg : sgn na (val xs) < 0 := by rw [← cmpI_neg, ← HS'.out]; exact hs0
    have HN := hidd hneg
    clear hneg
    go_wp2
    refine bodyPost_ret (v := .tuple #[zeroV, zeroV, .int .i64 1]) ?_ rfl ⟨?_, .inl ⟨HN.out, rfl⟩⟩
    · simp [results, Try.results35, go_sem, c0, c1, d0, d1, zeroV]
    · exact (((hbl2.setCell (by show w.heap.size ≤ w.heap.size + 1; omega) _).setCell (by show w.heap.size ≤ w.heap.size + 1; omega) _).setCell (by show w.heap.size ≤ w.heap.size + 1 + 1; omega) _).setCell (by show w.heap.size ≤ w.heap.size + 1 + 1; omega) _
  · have hz0 : 0 ≤ sgn na (val xs) := by
      have := (not_congr (cmpI_neg (z := sgn na (val xs)))).1 (by rw [← HS'.out]; exact hs0)
      omega
    have HZ : Hid (sgn na (val xs) = val xs) := sgn_nonneg hx0 hz0
    go_wp2_with fail
    refine (trim_any _ _ _ _ _ hX2 (by omega)).mono ?_
    rintro e w' ⟨m, rfl, hm, hsm, hvm, hcm, rfl⟩
    have HVM := hidd hvm
    clear hvm
    go_wp2_with fail
    refine (rootSize_any _ _ _ _ _ hsm hcm (by omega) 2 (by omega) (by omega)).mono ?_
    rintro e w4 ⟨a4, n4, k4, rs4, rfl, hs4, hc4, hroot, hB4⟩
    rw [HVM.out] at hroot
    have hn4 : n4 ≤ m := by
      have h1 : val rs4 ≤ val xs := by
        rcases (by have := hroot.1; omega : val rs4 = 0 ∨ 1 ≤ val rs4) with h | h
        · omega
        · have h2 := pow_one_le h (show 1 ≤ 2 by omega)
          have h3 := hroot.2.1
          omega
      exact len_le hc4 hs4 (hsm.mono hB4) (by rw [HVM.out]; exact h1)
    have HR := hidd hroot
    have hA4 := HA2.out.mono hB4 HA2.out.lt
    have hC4 := HC2.out.mono hB4 HC2.out.lt
    have hD4 := HD2.out.mono hB4 HD2.out.lt
    have hbl4 := hbl2.trans (hB4.mono hbl2.size)
    have hX4 := hX2.mono hB4
    clear hroot a0 a1 c0 c1 c2 c3 d0 d1 d2 d3 hbl2 hB4 HC2 HD2 HA2 hX2 hsm
    go_wp2_with fail
    refine (signed_any _ _ _ _ _ _ hs4 (by omega)).mono ?_
    rintro e w5 ⟨v, rfl, ⟨ng, ao, nn, cc, rs, rfl, hrs, hrc, hrn, hrz⟩, hb5⟩
    have hnn : nn ≤ n4 := by
      have h1 : val rs = val rs4 := by
        have h0 := val_nonneg hrs.digs
        have h1 := val_nonneg hs4.digs
        have h2 : val rs4 = sgn ng (val rs) := hrz
        cases ng
        · exact h2.symm
        · simp [sgn] at h2; omega
      exact len_le hrc hrs (hs4.mono hb5) (by omega)
    have hA5 := hA4.mono hb5 hA4.lt
    have hC5 := hC4.mono hb5 hC4.lt
    have hD5 := hD4.mono hb5 hD4.lt
    have hbl5 := hbl4.trans (hb5.mono hbl4.size)
    have hX5 := hX4.mono hb5
    have HRZ : Hid (val rs4 = sgn ng (val rs)) := hrz
    clear hrz hA4 hC4 hD4 hbl4 hX4 hb5 hs4
    go_wp2_with fail
    obtain ⟨w6, hw6⟩ : ∃ w6, w6 = w5.alloc (.cells #[.bool ng, .slice ao nn cc] 27) := ⟨_, rfl⟩
    obtain ⟨b5, hb5⟩ : ∃ b5, b5 = w5.heap.size := ⟨_, rfl⟩
    rw [← hw6, ← hb5]
    have hE : IntBox w6 b5 (.bool ng) (.slice ao nn cc) := by rw [hw6, hb5]; exact IntBox.new w5 _ _ _
    have hba : Below w5.heap.size w5 w6 := by rw [hw6]; exact alloc_below _ _
    have hA6 := hA5.mono hba hA5.lt
    have hC6 := hC5.mono hba hC5.lt
    have hD6 := hD5.mono hba hD5.lt
    have hbl6 := hbl5.trans (hba.mono hbl5.size)
    have hX6d := (hX5.mono hba).drew
    have hs6 := hrs.mono hba
    have hs6d := hs6.drew
    have hDlt := hD5.lt
    have hb5a : w.heap.size + 1 + 1 < b5 := by rw [hb5]; exact hDlt
    have hb5n : b5 < w6.heap.size := hE.lt
    clear hw6 hb5 hA5 hC5 hD5 hbl5 hX5 hba hrs
    have hTwo : Two w6.heap.size w.heap.size b5 (.bool na) (.slice ax n cx) (.bool ng) (.slice ao nn cc) w6.drew := ⟨Nat.le_refl _, hA6.1, hA6.2.1, hE.1, hE.2.1⟩
    have hC6d : IntBox w6.drew (w.heap.size + 1) (.bool false) (.slice none 0 0) := hC6
    have hD6d : IntBox w6.drew (w.heap.size + 1 + 1) (.bool false) (.slice none 0 0) := hD6
    go_region_held3 (fun W => w6.heap.size ≤ W.heap.size ∧ W.cell? ⟨w.heap.size, 0, none⟩ = some (.bool na) ∧ W.cell? ⟨w.heap.size, 1, none⟩ = some (.slice ax n cx) ∧ W.cell? ⟨b5, 0, none⟩ = some (.bool ng) ∧ W.cell? ⟨b5, 1, none⟩ = some (.slice ao nn cc))
      (first | exact hTwo | assumption | exact Two.call (by assumption) hB7 (by omega) (by omega) | exact Two.call (by assumption) hB8 (by omega) (by omega) | exact Two.set (Two.set (by assumption) (by omega) (by omega) _) (by omega) (by omega) _)
      (first | (go_at_call 23; (with_reducible refine (Mul_any _ _ _ _ _ _ _ _ _ _ _ hs6d hs6d (by omega) (by omega)).mono ?_); rintro e w7 ⟨v7, rfl, ⟨n7, a7, k7, c7, s7, rfl, hs7, hc7, hn7, hz7⟩, hB7⟩; have hX7 := hX6d.mono hB7; have hk7 := mul_len hs6d hs7 hc7 hz7) | (go_at_call 21; (with_reducible refine (Sub_any _ _ _ _ _ _ _ _ _ _ _ hX7 hs7 (by omega) (by omega)).mono ?_); rintro e w8 ⟨v8, rfl, ⟨n8, a8, k8, c8, s8, rfl, hs8, hc8, hn8, hz8⟩, hB8⟩; obtain ⟨e0, e1, e2, e3⟩ := (hC6d.mono hB7 hC6d.lt).mono hB8 (Nat.lt_of_lt_of_le hC6d.lt hB7.size); obtain ⟨g0, g1, g2, g3⟩ := (hD6d.mono hB7 hD6d.lt).mono hB8 (Nat.lt_of_lt_of_le hD6d.lt hB7.size)))
    go_wp2
    have hbl8 : Below w.heap.size w w8 := (hbl6.drew.trans (hB7.mono hbl6.size)).trans (hB8.mono (Nat.le_trans hbl6.size hB7.size))
    have hs68 := (hs6d.mono hB7).mono hB8
    have hfin := gives_store2 (n1 := ng) (n2 := n8) ⟨e0, e1, e2, e3⟩ ⟨g0, g1, g2, g3⟩ (by omega) hs68 hs8 hbl8 (by omega) (by omega)
    have hr2 : val rs4 = sgn ng (val rs) := HRZ.out
    refine bodyPost_ret (v := .tuple #[.agg #[.bool ng, .slice ao nn cc], .agg #[.bool n8, .slice a8 k8 c8], .int .i64 0]) ?_ rfl ⟨hfin.2.2, .inr ⟨hz0, _, _, val rs4, rfl, ⟨ng, ao, nn, cc, rs, rfl, hfin.1, hrc, hrn, hr2⟩, ⟨n8, a8, k8, c8, s8, rfl, hfin.2.1, hc8, hn8, ?_⟩, ?_⟩⟩
    · simp [results, Try.results35, go_sem, e0, e1, g0, g1]
    · rw [← hz8, ← hz7, hr2]
    · rw [HZ.out]; exact HR.out

end Go.Proofs.Ytjpbmghdamcdcaa
