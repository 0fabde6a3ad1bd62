/- Walks: Neg, Abs, Mul, Sign, Bits. -/
import Derived.Test.YtjpbmghdamcdcaaG
import Derived.Test.YtjpbmghdamcdcaaM
namespace Go.Proofs.Ytjpbmghdamcdcaa
open Go.RowKit

/-- Two boxes: an argument and the result. -/
theorem boxes2 (w : World) (a1 a2 : Value) (t : TypeId) :
    ∃ w0, w0 = (w.alloc (.cells #[a1, a2] t)).alloc (.cells #[.bool false, .slice none 0 0] t) ∧ IntBox w0 w.heap.size a1 a2 ∧ IntBox w0 (w.heap.size + 1) (.bool false) (.slice none 0 0) ∧
      Below w.heap.size w w0 ∧ Hid (w0.heap.size = w.heap.size + 2) := by
  have l1 := (Below.refl (w.heap.size + 1) (w.alloc (.cells #[a1, a2] t))).alloc (by simp) (.cells #[.bool false, .slice none 0 0] t)
  refine ⟨_, rfl, ?_, ?_, ?_, ?_⟩
  · exact (IntBox.new w a1 a2 t).mono l1 (by omega)
  · have := IntBox.new (w.alloc (.cells #[a1, a2] t)) (.bool false) (.slice none 0 0) t
    rw [World.size_alloc] at this
    exact this
  · exact ((Below.refl _ _).alloc (Nat.le_refl _) _).alloc (by simp) _
  · show _ = _
    simp

/-- One box: an argument. -/
theorem boxes1 (w : World) (a1 a2 : Value) (t : TypeId) :
    ∃ w0, w0 = w.alloc (.cells #[a1, a2] t) ∧ IntBox w0 w.heap.size a1 a2 ∧ Below w.heap.size w w0 ∧ Hid (w0.heap.size = w.heap.size + 1) := by
  refine ⟨_, rfl, IntBox.new w a1 a2 t, (Below.refl _ _).alloc (Nat.le_refl _) _, ?_⟩
  show _ = _
  simp

/-- A copy, wherever it lies. -/
theorem copied_sl (w : World) (ax : Option Addr) (n c : Nat) (xs : List Int) (hX : Sl w ax n c xs) (hb : n ≤ 4000000) :
    Calls Try.prog 62 #[.slice ax n c] w fun e w' => ∃ ao co, e = .returned (.slice ao n co) ∧ Sl w' ao n co xs ∧ Below w.heap.size w w' :=
  (copied_any w ax n c xs hX hb).mono fun _ _ ⟨he, hr, hb⟩ => ⟨_, _, he, hr.sl hX.len, hb⟩

theorem sgn_not (b : Bool) (v : Int) : sgn (!b) v = -sgn b v := by cases b <;> simp [sgn]

set_option maxHeartbeats 1000000 in
theorem Neg_any (w : World) (na : Bool) (ax : Option Addr) (n cx : Nat) (xs : List Int) (hX : Sl w ax n cx xs) (hb1 : n ≤ 1000000) :
    Calls Try.prog 25 #[.agg #[.bool na, .slice ax n cx]] w (GivesInt w (-sgn na (val xs))) := by
  go_enter Try.func25, Try.ntmps25
  go_wp2
  obtain ⟨w0, hw0, hA, hC, hbl, HS⟩ := boxes2 w (.bool na) (.slice ax n cx) 27
  rw [← hw0]
  clear hw0
  have hXd := (hX.mono hbl).drew
  have hcut : w.heap.size + 1 ≤ w0.heap.size := by have := HS.out; omega
  have hCd : IntBox w0.drew (w.heap.size + 1) (.bool false) (.slice none 0 0) := hC
  obtain ⟨ca0, ca1, _, _⟩ := hA
  go_region_held3 (fun W => w.heap.size + 1 ≤ W.heap.size ∧ (∀ b o, b < w.heap.size + 1 → W.cell? ⟨b, o, none⟩ = w0.cell? ⟨b, o, none⟩) ∧ ∀ b o, b < w.heap.size + 1 → W.frozen? ⟨b, o, none⟩ = w0.frozen? ⟨b, o, none⟩)
    (first | exact Kept.start hcut | assumption | exact Kept.call (by assumption) (by assumption) | exact Kept.set (Kept.set (by assumption) (by omega) _) (by omega) _)
    (first | (go_at_call 62; (with_reducible refine (copied_sl _ _ _ _ _ hXd (by omega)).mono ?_); rintro e w2 ⟨az, cz, rfl, hsz, hB2⟩) | (go_at_call 57; (with_reducible refine (signed_any _ _ _ _ _ _ hsz (by omega)).mono ?_); rintro e w3 ⟨v, rfl, ⟨ng, ao, nn, cc, rs, rfl, hrs, hrc, hrn, hrz⟩, hb3⟩; obtain ⟨e0, e1, e2, e3⟩ := (hCd.mono hB2 hCd.lt).mono hb3 (Nat.lt_of_lt_of_le hCd.lt hB2.size)))
  go_wp2
  refine bodyPost_ret (v := .agg #[.bool ng, .slice ao nn cc]) ?_ rfl ?_
  · simp [results, Try.results25, go_sem, e0, e1]
  · have hb4 : Below w.heap.size w w3 := (hbl.drew.trans (hB2.mono (by have := HS.out; simp; omega))).trans (hb3.mono (by have := HS.out; have := hB2.size; simp at this; omega))
    have hz : -sgn na (val xs) = sgn ng (val rs) := by rw [← hrz, sgn_not]
    exact gives_store ⟨e0, e1, e2, e3⟩ hrs hrc hrn hz hb4 (by omega)

set_option maxHeartbeats 1000000 in
theorem Abs_any (w : World) (na : Bool) (ax : Option Addr) (n cx : Nat) (xs : List Int) (hX : Sl w ax n cx xs) (hb1 : n ≤ 1000000) :
    Calls Try.prog 27 #[.agg #[.bool na, .slice ax n cx]] w (GivesInt w (val xs)) := by
  go_enter Try.func27, Try.ntmps27
  obtain ⟨w0, hw0, hA, hC, hbl, HS⟩ := boxes2 w (.bool na) (.slice ax n cx) 27
  have hX0 := hX.mono hbl
  obtain ⟨ca0, ca1, _, _⟩ := hA
  go_wp2_with fail
  rw [← hw0]
  clear hw0
  go_wp2_with (first | (go_at_call 62; (with_reducible refine (copied_sl _ _ _ _ _ hX0 (by omega)).mono ?_); rintro e w2 ⟨az, cz, rfl, hsz, hB2⟩) | (go_at_call 57; (with_reducible refine (signed_any _ _ _ _ _ _ hsz (by omega)).mono ?_); rintro e w3 ⟨v, rfl, ⟨ng, ao, nn, cc, rs, rfl, hrs, hrc, hrn, hrz⟩, hb3⟩; obtain ⟨e0, e1, e2, e3⟩ := (hC.mono hB2 hC.lt).mono hb3 (Nat.lt_of_lt_of_le hC.lt hB2.size)))
  refine bodyPost_ret (v := .agg #[.bool ng, .slice ao nn cc]) ?_ rfl ?_
  · simp [results, Try.results27, go_sem, e0, e1]
  · have hb4 : Below w.heap.size w w3 := (hbl.trans (hB2.mono (by have := HS.out; omega))).trans (hb3.mono (by have := HS.out; have := hB2.size; omega))
    exact gives_store ⟨e0, e1, e2, e3⟩ hrs hrc hrn (by rw [← hrz]; rfl) hb4 (by omega)

theorem sgn_mul (a b : Bool) (x y : Int) : sgn (!a == b) (x * y) = sgn a x * sgn b y := by
  cases a <;> cases b <;> simp [sgn, Int.mul_neg, Int.neg_mul]

set_option maxHeartbeats 1000000 in
theorem Mul_any (w : World) (na nb : Bool) (ax ay : Option Addr) (n m cx cy : Nat) (xs ys : List Int) (hX : Sl w ax n cx xs) (hY : Sl w ay m cy ys) (hb1 : n ≤ 1000000) (hb2 : m ≤ 1000000) :
    Calls Try.prog 23 #[.agg #[.bool na, .slice ax n cx], .agg #[.bool nb, .slice ay m cy]] w (GivesInt w (sgn na (val xs) * sgn nb (val ys))) := by
  go_enter Try.func23, Try.ntmps23
  go_wp2
  obtain ⟨w0, hw0, hA, hB, hC, hbl, HS⟩ := boxes3 w (.bool na) (.slice ax n cx) (.bool nb) (.slice ay m cy) 27
  rw [← hw0]
  clear hw0
  have hXd := (hX.mono hbl).drew
  have hYd := (hY.mono hbl).drew
  have hCd : IntBox w0.drew (w.heap.size + 1 + 1) (.bool false) (.slice none 0 0) := hC
  have hcut : w.heap.size + 2 ≤ w0.heap.size := by have := HS.out; omega
  obtain ⟨ca0, ca1, _, _⟩ := hA
  obtain ⟨cb0, cb1, _, _⟩ := hB
  go_region_held3 (fun W => w.heap.size + 2 ≤ W.heap.size ∧ (∀ b o, b < w.heap.size + 2 → W.cell? ⟨b, o, none⟩ = w0.cell? ⟨b, o, none⟩) ∧ ∀ b o, b < w.heap.size + 2 → W.frozen? ⟨b, o, none⟩ = w0.frozen? ⟨b, o, none⟩)
    (first | exact Kept.start hcut | assumption | exact Kept.call (by assumption) (by assumption) | exact Kept.set (Kept.set (by assumption) (by omega) _) (by omega) _)
    (first | (go_at_call 53; (with_reducible refine (trim_any _ _ _ _ _ hXd (by omega)).mono ?_); rintro e w' ⟨m1, rfl, hm1, hs1, hv1, hc1, rfl⟩) | (go_at_call 53; (with_reducible refine (trim_any _ _ _ _ _ hYd (by omega)).mono ?_); rintro e w' ⟨m2, rfl, hm2, hs2, hv2, hc2, rfl⟩) | (go_at_call 68; (with_reducible refine (mulSize_any _ _ _ _ _ _ _ _ _ hs1 hs2 (by omega) (by omega)).mono ?_); rintro e w2 ⟨az, cz, zs, rfl, hsz, hvz, hB2⟩) | (go_at_call 57; (with_reducible refine (signed_any _ _ _ _ _ _ hsz (by omega)).mono ?_); rintro e w3 ⟨v, rfl, ⟨ng, ao, nn, cc, rs, rfl, hrs, hrc, hrn, hrz⟩, hb3⟩; obtain ⟨e0, e1, e2, e3⟩ := (hCd.mono hB2 hCd.lt).mono hb3 (Nat.lt_of_lt_of_le hCd.lt hB2.size)))
  go_wp2
  refine bodyPost_ret (v := .agg #[.bool ng, .slice ao nn cc]) ?_ rfl ?_
  · simp [results, Try.results23, go_sem, e0, e1]
  · have hb4 : Below w.heap.size w w3 := (hbl.drew.trans (hB2.mono (by have := HS.out; simp; omega))).trans (hb3.mono (by have := HS.out; have := hB2.size; simp at this; omega))
    have hz : sgn na (val xs) * sgn nb (val ys) = sgn ng (val rs) := by rw [← hrz, hvz, hv1, hv2, sgn_mul]
    exact gives_store ⟨e0, e1, e2, e3⟩ hrs hrc hrn hz hb4 (by omega)

theorem sgn_zero {v : Int} (b : Bool) (h : v = 0) : sgn b v = 0 := by subst h; cases b <;> rfl

set_option maxHeartbeats 1000000 in
theorem Sign_any (w : World) (na : Bool) (ax : Option Addr) (n cx : Nat) (xs : List Int) (hX : Sl w ax n cx xs) (hb1 : n ≤ 1000000) :
    Calls Try.prog 31 #[.agg #[.bool na, .slice ax n cx]] w fun e w' => e = .returned (.int .i64 (cmpI (sgn na (val xs)) 0)) ∧ Below w.heap.size w w' := by
  have hX0 : ∀ o, Sl (w.alloc o) ax n cx xs := fun o => hX.mono ((Below.refl _ _).alloc (Nat.le_refl _) o)
  go_enter Try.func31, Try.ntmps31
  go_wp2_with fail
  refine (trim_any _ _ _ _ _ (hX0 _) (by omega)).mono ?_
  rintro e w' ⟨m, rfl, hm, hs, hv, hc, rfl⟩
  have hml := hs.len
  have hz := hc.zero
  rw [hml, hv] at hz
  have h0 := val_nonneg hX.digs
  by_cases hm0 : m = 0
  · have HV : Hid (val xs = 0) := hz.1 hm0
    clear hz hml
    subst hm0
    go_wp2
    go_ret
    exact ⟨by rw [HV.out, sgn_zero _ rfl]; rfl, (Below.refl _ _).alloc (Nat.le_refl _) _⟩
  · have hne : val xs ≠ 0 := fun h => hm0 (hz.2 h)
    have hm1 : ((m : Int) == 0) = false := by simp; omega
    clear hz hml
    cases na
    · have HV : Hid (cmpI (sgn false (val xs)) 0 = 1) := (if_neg (by simp [sgn]; omega)).trans (if_neg (by simp [sgn]; omega))
      go_wp2
      go_ret
      exact ⟨by rw [HV.out]; rfl, (Below.refl _ _).alloc (Nat.le_refl _) _⟩
    · have HV : Hid (cmpI (sgn true (val xs)) 0 = -1) := if_pos (by simp [sgn]; omega)
      go_wp2
      go_ret
      exact ⟨by rw [HV.out]; rfl, (Below.refl _ _).alloc (Nat.le_refl _) _⟩

set_option maxHeartbeats 1000000 in
theorem Bits_any (w : World) (na : Bool) (ax : Option Addr) (n cx : Nat) (xs : List Int) (hX : Sl w ax n cx xs) (hb1 : n ≤ 1000000) :
    Calls Try.prog 33 #[.agg #[.bool na, .slice ax n cx]] w fun e w' => ∃ m : Nat, e = .returned (.int .i64 m) ∧ IsBits (val xs) m ∧ m ≤ 32 * n ∧ Below w.heap.size w w' := by
  have hX0 : ∀ o, Sl (w.alloc o) ax n cx xs := fun o => hX.mono ((Below.refl _ _).alloc (Nat.le_refl _) o)
  go_enter Try.func33, Try.ntmps33
  go_wp2_with (first | (go_at_call 53; (with_reducible refine (trim_any _ _ _ _ _ (hX0 _) (by omega)).mono ?_); rintro e w' ⟨m, rfl, hm, hs, hv, hc, rfl⟩) | (go_at_call 70; (with_reducible refine (bits_any _ _ _ _ _ hs hc (by omega)).mono ?_); rintro e w' ⟨k, rfl, hk, hkb, rfl⟩))
  go_ret
  exact ⟨k, rfl, by rw [← hv]; exact hk, by omega, (Below.refl _ _).alloc (Nat.le_refl _) _⟩

end Go.Proofs.Ytjpbmghdamcdcaa
