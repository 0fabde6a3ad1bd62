/- Walk: DivMod. -/
import Derived.Test.YtjpbmghdamcdcaaO
import Derived.Test.YtjpbmghdamcdcaaI
namespace Go.Proofs.Ytjpbmghdamcdcaa
open Go.RowKit

theorem alloc_below' (w : World) (o : Obj) : Below w.heap.size w (w.alloc o) := (Below.refl _ _).alloc (Nat.le_refl _) o

/-- Four boxes: two arguments and two results. -/
theorem boxes4 (w : World) (a1 a2 b1 b2 : Value) (t : TypeId) :
    ∃ w0, w0 = (((w.alloc (.cells #[a1, a2] t)).alloc (.cells #[b1, b2] t)).alloc (.cells #[.bool false, .slice none 0 0] t)).alloc (.cells #[.bool false, .slice none 0 0] t) ∧ IntBox w0 w.heap.size a1 a2 ∧ IntBox w0 (w.heap.size + 1) b1 b2 ∧
      IntBox w0 (w.heap.size + 1 + 1) (.bool false) (.slice none 0 0) ∧ IntBox w0 (w.heap.size + 1 + 1 + 1) (.bool false) (.slice none 0 0) ∧ Below w.heap.size w w0 ∧ Hid (w0.heap.size = w.heap.size + 4) := by
  obtain ⟨w3, h3, hA, hB, hC, hb, hs⟩ := boxes3 w a1 a2 b1 b2 t
  have hs' := hs.out
  have l := alloc_below' w3 (.cells #[.bool false, .slice none 0 0] t)
  have hn := IntBox.new w3 (.bool false) (.slice none 0 0) t
  rw [hs'] at hn
  refine ⟨w3.alloc (.cells #[.bool false, .slice none 0 0] t), by rw [h3], hA.mono l hA.lt, hB.mono l hB.lt, hC.mono l hC.lt, hn, hb.trans (l.mono hb.size), ?_⟩
  show _ = _
  simp [hs']

/-- Two results are stored in their boxes. -/
theorem gives_store2 {w w3 : World} {r1 r2 : Nat} {n1 n2 : Bool} {a1 a2 : Option Addr} {k1 k2 c1 c2 : Nat} {s1 s2 : List Int} (h1 : IntBox w3 r1 (.bool false) (.slice none 0 0)) (h2 : IntBox w3 r2 (.bool false) (.slice none 0 0)) (hne : r1 ≠ r2)
    (hs1 : Sl w3 a1 k1 c1 s1) (hs2 : Sl w3 a2 k2 c2 s2) (hb : Below w.heap.size w w3) (hr1 : w.heap.size ≤ r1) (hr2 : w.heap.size ≤ r2) :
    Sl ((((w3.setCell ⟨r1, 0, none⟩ (.bool n1)).setCell ⟨r1, 1, none⟩ (.slice a1 k1 c1)).setCell ⟨r2, 0, none⟩ (.bool n2)).setCell ⟨r2, 1, none⟩ (.slice a2 k2 c2)) a1 k1 c1 s1 ∧
    Sl ((((w3.setCell ⟨r1, 0, none⟩ (.bool n1)).setCell ⟨r1, 1, none⟩ (.slice a1 k1 c1)).setCell ⟨r2, 0, none⟩ (.bool n2)).setCell ⟨r2, 1, none⟩ (.slice a2 k2 c2)) a2 k2 c2 s2 ∧
    Below w.heap.size w ((((w3.setCell ⟨r1, 0, none⟩ (.bool n1)).setCell ⟨r1, 1, none⟩ (.slice a1 k1 c1)).setCell ⟨r2, 0, none⟩ (.bool n2)).setCell ⟨r2, 1, none⟩ (.slice a2 k2 c2)) := by
  have f1 : (w3.setCell ⟨r1, 0, none⟩ (.bool n1)).cell? ⟨r1, 1, none⟩ = some (.slice none 0 0) := by
    rw [World.cell?_setCell_other _ _ _ _ (by intro e; cases e)]; exact h1.2.1
  have f2 : ((w3.setCell ⟨r1, 0, none⟩ (.bool n1)).setCell ⟨r1, 1, none⟩ (.slice a1 k1 c1)).cell? ⟨r2, 0, none⟩ = some (.bool false) := by
    rw [World.cell?_setCell_other _ _ _ _ (by intro e; cases e), World.cell?_setCell_other _ _ _ _ (by intro e; cases e; exact hne rfl)]; exact h2.1
  have f3 : (((w3.setCell ⟨r1, 0, none⟩ (.bool n1)).setCell ⟨r1, 1, none⟩ (.slice a1 k1 c1)).setCell ⟨r2, 0, none⟩ (.bool n2)).cell? ⟨r2, 1, none⟩ = some (.slice none 0 0) := by
    rw [World.cell?_setCell_other _ _ _ _ (by intro e; cases e), World.cell?_setCell_other _ _ _ _ (by intro e; cases e; exact hne rfl), World.cell?_setCell_other _ _ _ _ (by intro e; cases e)]; exact h2.2.1
  have g : ∀ {ao n c xs}, Sl w3 ao n c xs → Sl ((((w3.setCell ⟨r1, 0, none⟩ (.bool n1)).setCell ⟨r1, 1, none⟩ (.slice a1 k1 c1)).setCell ⟨r2, 0, none⟩ (.bool n2)).setCell ⟨r2, 1, none⟩ (.slice a2 k2 c2)) ao n c xs := fun h =>
    (((h.setOther h1.1 (by intro q e; cases e) _).setOther f1 (by intro q e; cases e) _).setOther f2 (by intro q e; cases e) _).setOther f3 (by intro q e; cases e) _
  exact ⟨g hs1, g hs2, (((hb.setCell hr1 _).setCell hr1 _).setCell hr2 _).setCell hr2 _⟩

/-- Quotient and remainder, for a divisor of any sign. -/
theorem ediv_sgn {a Y q r : Int} (nb : Bool) (h : a = Y * q + r) (h0 : 0 ≤ r) (h1 : r < Y) : sgn nb q = a / sgn nb Y ∧ r = a % sgn nb Y := by
  have hY : 0 < Y := by omega
  have e1 := ediv_unique h h0 h1 hY
  have e2 : r = a % Y := by have := Int.mul_ediv_add_emod a Y; rw [← e1] at this; omega
  cases nb
  · exact ⟨e1, e2⟩
  · simp only [sgn, if_true]
    rw [Int.ediv_neg, Int.emod_neg]
    exact ⟨by rw [e1], e2⟩

/-- What DivMod leaves. -/
def DivGives (w : World) (a b : Int) (e : Ending) (w' : World) : Prop :=
  Below w.heap.size w w' ∧ ((b = 0 ∧ e = .returned (.tuple #[.agg #[.bool false, .slice none 0 0], .agg #[.bool false, .slice none 0 0], .int .i64 4])) ∨
    (b ≠ 0 ∧ ∃ vq vr, e = .returned (.tuple #[vq, vr, .int .i64 0]) ∧ IsInt w' vq (a / b) ∧ IsInt w' vr (a % b)))

set_option maxHeartbeats 2000000 in
theorem DivMod_any (w : World) (na nb : Bool) (ax ay : Option Addr) (n m cx cy : Nat) (xs ys : List Int) (hX : Sl w ax n cx xs) (hY : Sl w ay m cy ys) (hb1 : n ≤ 900000) (hb2 : m ≤ 900000) :
    Calls Try.prog 13 #[.agg #[.bool na, .slice ax n cx], .agg #[.bool nb, .slice ay m cy]] w (DivGives w (sgn na (val xs)) (sgn nb (val ys))) := by
  go_enter Try.func13, Try.ntmps13
  go_wp2
  obtain ⟨w0, hw0, hA, hB, hC, hD, hbl, HS⟩ := boxes4 w (.bool na) (.slice ax n cx) (.bool nb) (.slice ay m cy) 27
  rw [← hw0]
  clear hw0
  have hXd := (hX.mono hbl).drew
  have hYd := (hY.mono hbl).drew
  have hcut : w.heap.size + 2 ≤ w0.heap.size := by have := HS.out; omega
  obtain ⟨ca0, ca1, _, _⟩ := hA
  obtain ⟨cb0, cb1, _, _⟩ := hB
  go_region_held3 (fun W => w.heap.size + 2 ≤ W.heap.size ∧ (∀ b o, b < w.heap.size + 2 → W.cell? ⟨b, o, none⟩ = w0.cell? ⟨b, o, none⟩) ∧ ∀ b o, b < w.heap.size + 2 → W.frozen? ⟨b, o, none⟩ = w0.frozen? ⟨b, o, none⟩)
    (first | exact Kept.start hcut | assumption)
    (first | (go_at_call 53; (with_reducible refine (trim_any _ _ _ _ _ hXd (by omega)).mono ?_); rintro e w' ⟨m1, rfl, hm1, hs1, hv1, hc1, rfl⟩) | (go_at_call 53; (with_reducible refine (trim_any _ _ _ _ _ hYd (by omega)).mono ?_); rintro e w' ⟨m2, rfl, hm2, hs2, hv2, hc2, rfl⟩))
  obtain ⟨w1, hw1⟩ : ∃ w1, w1 = w0.drew := ⟨_, rfl⟩
  rw [← hw1] at hs1 hs2 ⊢
  have da0 : w1.cell? ⟨w.heap.size, 0, none⟩ = some (.bool na) := by rw [hw1]; exact ca0
  have db0 : w1.cell? ⟨w.heap.size + 1, 0, none⟩ = some (.bool nb) := by rw [hw1]; exact cb0
  have hC1 : IntBox w1 (w.heap.size + 1 + 1) (.bool false) (.slice none 0 0) := by rw [hw1]; exact hC
  have hD1 : IntBox w1 (w.heap.size + 1 + 1 + 1) (.bool false) (.slice none 0 0) := by rw [hw1]; exact hD
  have hbl1 : Below w.heap.size w w1 := by rw [hw1]; exact hbl.drew
  have HS1 : Hid (w1.heap.size = w.heap.size + 4) := by rw [hw1]; exact HS
  have HV1 := hidd hv1
  have HV2 := hidd hv2
  clear hw1 ca0 ca1 cb0 cb1 hXd hYd hcut hbl hC hD HS hv1 hv2
  have hml := hs2.len
  have hz := hc2.zero
  rw [hml, HV2.out] at hz
  by_cases hm0 : m2 = 0
  · have HY0 : Hid (sgn nb (val ys) = 0) := sgn_zero nb (hz.1 hm0)
    clear hz hml
    subst hm0
    obtain ⟨e0, e1, e2, e3⟩ := hC1
    obtain ⟨g0, g1, g2, g3⟩ := hD1
    go_wp2
    refine bodyPost_ret (v := .tuple #[.agg #[.bool false, .slice none 0 0], .agg #[.bool false, .slice none 0 0], .int .i64 4]) ?_ rfl ⟨?_, .inl ⟨HY0.out, rfl⟩⟩
    · simp [results, Try.results13, go_sem, e0, e1, g0, g1]
    · exact (((hbl1.setCell (by show w.heap.size ≤ w.heap.size + 1 + 1; omega) _).setCell (by show w.heap.size ≤ w.heap.size + 1 + 1; omega) _).setCell (by show w.heap.size ≤ w.heap.size + 1 + 1 + 1; omega) _).setCell (by show w.heap.size ≤ w.heap.size + 1 + 1 + 1; omega) _
  · have hYp : 0 < val ys := by
      have := val_nonneg hY.digs
      have : val ys ≠ 0 := fun h => hm0 (hz.2 h)
      omega
    have hm2b : ((m2 : Int) == 0) = false := by simp; omega
    clear hz hml
    go_wp2_with fail
    refine (divSize_any _ _ _ _ _ _ _ _ _ hs1 hs2 hc1 hc2 (by rw [HV2.out]; exact hYp) (by omega) (by omega)).mono ?_
    rintro e w2 ⟨aq, ar, nq, nr, cq, cr, qs, rs, rfl, hsq, hsr, hcq, hcr, hvq, hvr, hB2⟩
    rw [HV1.out, HV2.out] at hvq hvr
    have hda2 := (hB2.cell (p := ⟨w.heap.size, 0, none⟩) (by have := HS1.out; show w.heap.size < _; omega)).trans da0
    have hdb2 := (hB2.cell (p := ⟨w.heap.size + 1, 0, none⟩) (by have := HS1.out; show w.heap.size + 1 < _; omega)).trans db0
    have hC2 := hC1.mono hB2 hC1.lt
    have hD2 := hD1.mono hB2 hD1.lt
    have hbl2 := hbl1.trans (hB2.mono hbl1.size)
    have hsy2 := hs2.mono hB2
    have hs1d := hs1.digs
    have hs1l := hs1.len
    have HS1L := hidd hs1l
    have HVQ := hidd hvq
    have HVR := hidd hvr
    have hrl := hsr.len
    have hrz := hcr.zero
    rw [hrl] at hrz
    clear hvq hvr hrl hC1 hD1 da0 db0 hs1 hs2 hs1l
    have hXnn := val_nonneg hX.digs
    have hdm := Int.mul_ediv_add_emod (val xs) (val ys)
    have hr0 := Int.emod_nonneg (val xs) (Int.ne_of_gt hYp)
    have hr1 := Int.emod_lt_of_pos (val xs) hYp
    have hq0 : 0 ≤ val xs / val ys := Int.ediv_nonneg hXnn (by omega)
    have hnq : nq ≤ m1 := by
      have h1 := hcq.length_le (k := m1) (by
        rw [HVQ.out]
        have := Int.ediv_le_self (val ys) hXnn
        have h2 := val_lt hs1d
        rw [HS1L.out, HV1.out] at h2
        omega)
      rw [hsq.len] at h1; exact h1
    have hnr : nr ≤ m2 := len_le hcr hsr hsy2 (by rw [HVR.out, HV2.out]; omega)
    have HS2 : w.heap.size + 4 ≤ w2.heap.size := by have := HS1.out; have := hB2.size; omega
    cases na
    · obtain ⟨f1, f2⟩ := ediv_sgn nb hdm.symm hr0 hr1
      have F1 := hidd f1
      have F2 := hidd f2
      have hC3 := hC2
      have hD3 := hD2
      have hbl3 := hbl2
      clear f1 f2 hdm hr0 hr1 hq0 hB2
      · go_wp2_with fail
        refine (signed_any _ _ _ _ _ _ hsq (by omega)).mono ?_
        rintro e v3 ⟨v, rfl, ⟨ng, ao, nn, cc, rq, rfl, hrs, hrc, hrn, hrz⟩, hb3⟩
        have hsr3 := hsr.mono hb3
        go_wp2_with fail
        refine (signed_any _ _ _ _ _ _ hsr3 (by omega)).mono ?_
        rintro e v4 ⟨v', rfl, ⟨ng', ao', nn', cc', rr, rfl, hrs', hrc', hrn', hrz'⟩, hb4⟩
        have hC4 := (hC3.mono hb3 hC3.lt).mono hb4 (Nat.lt_of_lt_of_le hC3.lt hb3.size)
        have hD4 := (hD3.mono hb3 hD3.lt).mono hb4 (Nat.lt_of_lt_of_le hD3.lt hb3.size)
        have hB4 := (hbl3.trans (hb3.mono hbl3.size)).trans (hb4.mono (Nat.le_trans hbl3.size hb3.size))
        have hrs4 := hrs.mono hb4
        have hfin := gives_store2 (n1 := ng) (n2 := ng') hC4 hD4 (by omega) hrs4 hrs' hB4 (by omega) (by omega)
        obtain ⟨e0, e1, e2, e3⟩ := hC4
        obtain ⟨g0, g1, g2, g3⟩ := hD4
        have HRZ := hidd hrz
        have HRZ' := hidd hrz'
        clear hrz hrz' hb3 hb4 hsr3 hrs hC3 hD3
        go_wp2
        refine bodyPost_ret (v := .tuple #[.agg #[.bool ng, .slice ao nn cc], .agg #[.bool ng', .slice ao' nn' cc'], .int .i64 0]) ?_ rfl ⟨hfin.2.2, .inr ⟨?_, _, _, rfl, ⟨ng, ao, nn, cc, rq, rfl, hfin.1, hrc, hrn, ?_⟩, ⟨ng', ao', nn', cc', rr, rfl, hfin.2.1, hrc', hrn', ?_⟩⟩⟩
        · simp [results, Try.results13, go_sem, e0, e1, g0, g1]
        · cases nb <;> simp [sgn] <;> omega
        · rw [← HRZ.out, HVQ.out, F1.out]; refine F1.out.symm.trans ?_; cases nb <;> simp [sgn]
        · rw [← HRZ'.out, HVR.out]; exact F2.out.symm
    · by_cases hnr0 : nr = 0
      · have hr00 : val xs % val ys = 0 := by have := hrz.1 hnr0; rw [HVR.out] at this; exact this
        obtain ⟨f1, f2⟩ := ediv_sgn (a := -val xs) (Y := val ys) (q := -(val xs / val ys)) (r := 0) nb (by rw [Int.mul_neg]; omega) (Int.le_refl _) hYp
        have F1 := hidd f1
        have F2 := hidd f2
        have R0 := hidd hr00
        have hC3 := hC2
        have hD3 := hD2
        have hbl3 := hbl2
        clear f1 f2 hdm hr0 hr1 hq0 hB2 hr00 hrz
        subst hnr0
        go_wp2_with fail
        refine (signed_any _ _ _ _ _ _ hsq (by omega)).mono ?_
        rintro e v3 ⟨v, rfl, ⟨ng, ao, nn, cc, rq, rfl, hrs, hrc, hrn, hrz⟩, hb3⟩
        have hsr3 := hsr.mono hb3
        go_wp2_with fail
        refine (signed_any _ _ _ _ _ _ hsr3 (by omega)).mono ?_
        rintro e v4 ⟨v', rfl, ⟨ng', ao', nn', cc', rr, rfl, hrs', hrc', hrn', hrz'⟩, hb4⟩
        have hC4 := (hC3.mono hb3 hC3.lt).mono hb4 (Nat.lt_of_lt_of_le hC3.lt hb3.size)
        have hD4 := (hD3.mono hb3 hD3.lt).mono hb4 (Nat.lt_of_lt_of_le hD3.lt hb3.size)
        have hB4 := (hbl3.trans (hb3.mono hbl3.size)).trans (hb4.mono (Nat.le_trans hbl3.size hb3.size))
        have hrs4 := hrs.mono hb4
        have hfin := gives_store2 (n1 := ng) (n2 := ng') hC4 hD4 (by omega) hrs4 hrs' hB4 (by omega) (by omega)
        obtain ⟨e0, e1, e2, e3⟩ := hC4
        obtain ⟨g0, g1, g2, g3⟩ := hD4
        have HRZ := hidd hrz
        have HRZ' := hidd hrz'
        clear hrz hrz' hb3 hb4 hsr3 hrs hC3 hD3
        go_wp2
        refine bodyPost_ret (v := .tuple #[.agg #[.bool ng, .slice ao nn cc], .agg #[.bool ng', .slice ao' nn' cc'], .int .i64 0]) ?_ rfl ⟨hfin.2.2, .inr ⟨?_, _, _, rfl, ⟨ng, ao, nn, cc, rq, rfl, hfin.1, hrc, hrn, ?_⟩, ⟨ng', ao', nn', cc', rr, rfl, hfin.2.1, hrc', hrn', ?_⟩⟩⟩
        · simp [results, Try.results13, go_sem, e0, e1, g0, g1]
        · cases nb <;> simp [sgn] <;> omega
        · rw [← HRZ.out, HVQ.out]; refine F1.out.symm.trans ?_; cases nb <;> simp [sgn]
        · rw [← HRZ'.out, HVR.out, R0.out]; exact F2.out.symm
      · have hrp : 1 ≤ val xs % val ys := by
          rcases (by omega : val xs % val ys = 0 ∨ 1 ≤ val xs % val ys) with h | h
          · exact absurd (hrz.2 (by rw [HVR.out]; exact h)) hnr0
          · exact h
        obtain ⟨f1, f2⟩ := ediv_sgn (a := -val xs) (Y := val ys) (q := -(val xs / val ys + 1)) (r := val ys - val xs % val ys) nb (by rw [Int.mul_neg, Int.mul_add, Int.mul_one]; omega) (by omega) (by omega)
        have F1 := hidd f1
        have F2 := hidd f2
        have hnri : (0 : Int) < (nr : Int) := by omega
        have hone : Row (w2.alloc (.cells #[.int .u32 1] 63)) 63 w2.heap.size [1] := by
          refine ⟨fun x hx => ?_, ?_⟩
          · simp at hx; subst hx; exact ⟨by omega, by omega⟩
          · rw [heap_alloc_new]; rfl
        have hb5 := alloc_below' w2 (.cells #[.int .u32 1] 63)
        have hsq5 := hsq.mono hb5
        have h1s := hone.sl (n := 1) rfl
        have hle : val rs ≤ val (ys.take m2) := by rw [HVR.out, HV2.out]; omega
        clear f1 f2 hdm hq0 hB2 hrz
        go_wp2_with fail
        refine (addSize_any _ _ _ _ _ _ _ _ _ hsq5 h1s (by omega) (by omega)).mono ?_
        rintro e w6 ⟨a6, n6, c6, zs6, rfl, hn6, hs6, hv6, hB6⟩
        have hb6 := hb5.trans (hB6.mono hb5.size)
        have hsy6 := hsy2.mono hb6
        have hsr6 := hsr.mono hb6
        go_wp2_with fail
        refine (subSize_any _ _ _ _ _ _ _ _ _ hsy6 hsr6 hnr hle (by omega)).mono ?_
        rintro e w7 ⟨a7, c7, zs7, rfl, hs7, hv7, hB7⟩
        have hb7 := hb6.trans (hB7.mono hb6.size)
        have hs67 := hs6.mono hB7
        have hC3 := hC2.mono hb7 hC2.lt
        have hD3 := hD2.mono hb7 hD2.lt
        have hbl3 := hbl2.trans (hb7.mono hbl2.size)
        have hda7 := (hb7.cell (p := ⟨w.heap.size, 0, none⟩) (by show w.heap.size < _; omega)).trans hda2
        have hdb7 := (hb7.cell (p := ⟨w.heap.size + 1, 0, none⟩) (by show w.heap.size + 1 < _; omega)).trans hdb2
        have V6 : Hid (val zs6 = val xs / val ys + 1) := by show _ = _; rw [hv6, HVQ.out]; simp [val]
        have V7 : Hid (val zs7 = val ys - val xs % val ys) := by show _ = _; rw [hv7, HV2.out, HVR.out]
        clear hv6 hv7 hle hb5 hb6 hb7 hB6 hB7 hsq5 h1s hone hs6 hsy6 hsr6 hda2 hdb2
        go_wp2_with fail
        refine (signed_any _ _ _ _ _ _ hs67 (by omega)).mono ?_
        rintro e v3 ⟨v, rfl, ⟨ng, ao, nn, cc, rq, rfl, hrs, hrc, hrn, hrz⟩, hb3⟩
        have hsr3 := hs7.mono hb3
        go_wp2_with fail
        refine (signed_any _ _ _ _ _ _ hsr3 (by omega)).mono ?_
        rintro e v4 ⟨v', rfl, ⟨ng', ao', nn', cc', rr, rfl, hrs', hrc', hrn', hrz'⟩, hb4⟩
        have hC4 := (hC3.mono hb3 hC3.lt).mono hb4 (Nat.lt_of_lt_of_le hC3.lt hb3.size)
        have hD4 := (hD3.mono hb3 hD3.lt).mono hb4 (Nat.lt_of_lt_of_le hD3.lt hb3.size)
        have hB4 := (hbl3.trans (hb3.mono hbl3.size)).trans (hb4.mono (Nat.le_trans hbl3.size hb3.size))
        have hrs4 := hrs.mono hb4
        have hfin := gives_store2 (n1 := ng) (n2 := ng') hC4 hD4 (by omega) hrs4 hrs' hB4 (by omega) (by omega)
        obtain ⟨e0, e1, e2, e3⟩ := hC4
        obtain ⟨g0, g1, g2, g3⟩ := hD4
        have HRZ := hidd hrz
        have HRZ' := hidd hrz'
        clear hrz hrz' hb3 hb4 hsr3 hrs hC3 hD3
        go_wp2
        refine bodyPost_ret (v := .tuple #[.agg #[.bool ng, .slice ao nn cc], .agg #[.bool ng', .slice ao' nn' cc'], .int .i64 0]) ?_ rfl ⟨hfin.2.2, .inr ⟨?_, _, _, rfl, ⟨ng, ao, nn, cc, rq, rfl, hfin.1, hrc, hrn, ?_⟩, ⟨ng', ao', nn', cc', rr, rfl, hfin.2.1, hrc', hrn', ?_⟩⟩⟩
        · simp [results, Try.results13, go_sem, e0, e1, g0, g1]
        · cases nb <;> simp [sgn] <;> omega
        · rw [← HRZ.out, V6.out]; refine F1.out.symm.trans ?_; cases nb <;> simp [sgn]
        · rw [← HRZ'.out, V7.out]; exact F2.out.symm

end Go.Proofs.Ytjpbmghdamcdcaa
