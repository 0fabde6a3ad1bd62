/- Walk: Add. -/
import Derived.Test.YtjpbmghdamcdcaaG
namespace Go.Proofs.Ytjpbmghdamcdcaa
open Go.RowKit

set_option maxHeartbeats 1000000 in
theorem Add_any (w : World) (na nb : Bool) (ax ay : Option Addr) (n m cx cy : Nat) (xs ys : List Int) (hX : Sl w ax n cx xs) (hY : Sl w ay m cy ys) (hb1 : n ≤ 1000000) (hb2 : m ≤ 1000000) :
    Calls Try.prog 19 #[.agg #[.bool na, .slice ax n cx], .agg #[.bool nb, .slice ay m cy]] w (GivesInt w (sgn na (val xs) + sgn nb (val ys))) := by
  go_enter Try.func19, Try.ntmps19
  go_wp2
  obtain ⟨w0, hw0, hA, hB, hC, hbl, HS⟩ := boxes3 w (.bool na) (.slice ax n cx) (.bool nb) (.slice ay m cy) 27
  rw [← hw0]
  clear hw0
  have hXd := (hX.mono hbl).drew
  have hYd := (hY.mono hbl).drew
  have hcut : w.heap.size + 2 ≤ w0.heap.size := by have := HS.out; omega
  obtain ⟨ca0, ca1, _, _⟩ := hA
  obtain ⟨cb0, cb1, _, _⟩ := hB
  go_region_held3 (fun W => w.heap.size + 2 ≤ W.heap.size ∧ (∀ b o, b < w.heap.size + 2 → W.cell? ⟨b, o, none⟩ = w0.cell? ⟨b, o, none⟩) ∧ ∀ b o, b < w.heap.size + 2 → W.frozen? ⟨b, o, none⟩ = w0.frozen? ⟨b, o, none⟩)
    (first | exact Kept.start hcut | assumption)
    (first | (go_at_call 53; (with_reducible refine (trim_any _ _ _ _ _ hXd (by omega)).mono ?_); rintro e w' ⟨m1, rfl, hm1, hs1, hv1, hc1, rfl⟩) | (go_at_call 53; (with_reducible refine (trim_any _ _ _ _ _ hYd (by omega)).mono ?_); rintro e w' ⟨m2, rfl, hm2, hs2, hv2, hc2, rfl⟩))
  by_cases hn : na = nb
  · subst hn
    have hnn : (na == na) = true := by simp
    go_wp2
    obtain ⟨w1, hw1⟩ : ∃ w1, w1 = w0.drew := ⟨_, rfl⟩
    rw [← hw1]
    have da0 : w1.cell? ⟨w.heap.size, 0, none⟩ = some (.bool na) := by rw [hw1]; exact ca0
    have hC1 : IntBox w1 (w.heap.size + 1 + 1) (.bool false) (.slice none 0 0) := by rw [hw1]; exact hC
    have hcut1 : w.heap.size + 2 ≤ w1.heap.size := by rw [hw1]; exact hcut
    have hbl1 : Below w.heap.size w w1 := by rw [hw1]; exact hbl.drew
    rw [← hw1] at hs1 hs2
    have hC1d : IntBox w1.drew (w.heap.size + 1 + 1) (.bool false) (.slice none 0 0) := hC1
    have hs1d := hs1.drew
    have hs2d := hs2.drew
    clear hw1 ca0 ca1 cb0 cb1 hXd hYd hcut hbl hC
    go_region_held3 (fun W => w.heap.size + 2 ≤ W.heap.size ∧ (∀ b o, b < w.heap.size + 2 → W.cell? ⟨b, o, none⟩ = w1.cell? ⟨b, o, none⟩) ∧ ∀ b o, b < w.heap.size + 2 → W.frozen? ⟨b, o, none⟩ = w1.frozen? ⟨b, o, none⟩)
      (first | exact Kept.start hcut1 | assumption | exact Kept.call (by assumption) (by assumption) | exact Kept.set (Kept.set (by assumption) (by omega) _) (by omega) _)
      (first | (go_at_call 55; (with_reducible refine (addSize_any _ _ _ _ _ _ _ _ _ hs1d hs2d (by omega) (by omega)).mono ?_); rintro e w2 ⟨az, k, cz, zs, rfl, hk, hsz, hvz, hB2⟩) | (go_at_call 57; (with_reducible refine (signed_any _ _ _ _ _ _ hsz (by omega)).mono ?_); rintro e w3 ⟨v, rfl, ⟨ng, ao, nn, cc, rs, rfl, hrs, hrc, hrn, hrz⟩, hb3⟩; obtain ⟨e0, e1, e2, e3⟩ := (hC1d.mono hB2 hC1d.lt).mono hb3 (Nat.lt_of_lt_of_le hC1d.lt hB2.size)))
    go_wp2
    refine bodyPost_ret (v := .agg #[.bool ng, .slice ao nn cc]) ?_ rfl ?_
    · simp [results, Try.results19, go_sem, e0, e1]
    · have hb4 : Below w.heap.size w w3 := (hbl1.drew.trans (hB2.mono (by have := HS.out; simp; omega))).trans (hb3.mono (by have := HS.out; have := hB2.size; simp at this; omega))
      have hz : sgn na (val xs) + sgn na (val ys) = sgn ng (val rs) := by
        rw [← hrz, hvz, hv1, hv2]; cases na <;> simp [sgn]; omega
      exact gives_store ⟨e0, e1, e2, e3⟩ hrs hrc hrn hz hb4 (by omega)
  · have hnn : (na == nb) = false := by simp [hn]
    go_wp2_with fail
    obtain ⟨w1, hw1⟩ : ∃ w1, w1 = w0.drew := ⟨_, rfl⟩
    rw [← hw1]
    have da0 : w1.cell? ⟨w.heap.size, 0, none⟩ = some (.bool na) := by rw [hw1]; exact ca0
    have db0 : w1.cell? ⟨w.heap.size + 1, 0, none⟩ = some (.bool nb) := by rw [hw1]; exact cb0
    have hC1 : IntBox w1 (w.heap.size + 1 + 1) (.bool false) (.slice none 0 0) := by rw [hw1]; exact hC
    have hcut1 : w.heap.size + 2 ≤ w1.heap.size := by rw [hw1]; exact hcut
    have hbl1 : Below w.heap.size w w1 := by rw [hw1]; exact hbl.drew
    have HS1 : Hid (w1.heap.size = w.heap.size + 3) := by rw [hw1]; exact HS
    rw [← hw1] at hs1 hs2
    clear hw1 ca0 ca1 cb0 cb1 hXd hYd hcut hbl hC
    by_cases hlt : val xs < val ys
    · have hcm : cmpI (val xs) (val ys) = -1 := if_pos hlt
      go_wp2_with (go_at_call 65; (with_reducible refine (cmpSize_any _ _ _ _ _ _ _ _ _ hs1 hs2 hc1 hc2 (by omega) (by omega)).mono ?_); rintro e w2 ⟨rfl, hd⟩)
      have hs1d := (hs1.drawn' hd).drew
      have hs2d := (hs2.drawn' hd).drew
      have da0' := (hd.cell _).trans db0
      have hC2 : IntBox w2 (w.heap.size + 1 + 1) (.bool false) (.slice none 0 0) := hC1.mono (hd.below _) (Nat.lt_succ_self _)
      have hC2d : IntBox w2.drew (w.heap.size + 1 + 1) (.bool false) (.slice none 0 0) := hC2
      have hcut2 : w.heap.size + 2 ≤ w2.heap.size := by rw [hd.size]; exact hcut1
      have hbl2 : Below w.heap.size w w2 := hbl1.trans (hd.below _)
      have hsz2 : w2.heap.size = w1.heap.size := hd.size
      have HSZ2 := hidd hsz2
      clear hsz2 hcm da0 db0 hC1
      go_region_held3 (fun W => w.heap.size + 2 ≤ W.heap.size ∧ (∀ b o, b < w.heap.size + 2 → W.cell? ⟨b, o, none⟩ = w2.cell? ⟨b, o, none⟩) ∧ ∀ b o, b < w.heap.size + 2 → W.frozen? ⟨b, o, none⟩ = w2.frozen? ⟨b, o, none⟩)
        (first | exact Kept.start hcut2 | assumption | exact Kept.call (by assumption) (by assumption) | exact Kept.set (Kept.set (by assumption) (by omega) _) (by omega) _)
        (first | (go_at_call 56; (with_reducible refine (subSize_any _ _ _ _ _ _ _ _ _ hs2d hs1d (by exact len_le hc1 hs1 hs2 (by rw [hv1, hv2]; omega)) (by rw [hv1, hv2]; omega) (by omega)).mono ?_); rintro e w3 ⟨az, cz, zs, rfl, hsz, hvz, hB2⟩) | (go_at_call 57; (with_reducible refine (signed_any _ _ _ _ _ _ hsz (by omega)).mono ?_); rintro e w4 ⟨v, rfl, ⟨ng, ao, nn, cc, rs, rfl, hrs, hrc, hrn, hrz⟩, hb3⟩; obtain ⟨e0, e1, e2, e3⟩ := (hC2d.mono hB2 hC2d.lt).mono hb3 (Nat.lt_of_lt_of_le hC2d.lt hB2.size)))
      go_wp2
      refine bodyPost_ret (v := .agg #[.bool ng, .slice ao nn cc]) ?_ rfl ?_
      · simp [results, Try.results19, go_sem, e0, e1]
      · have hb4 : Below w.heap.size w w4 := (hbl2.drew.trans (hB2.mono (by simp; omega))).trans (hb3.mono (by have := hB2.size; simp at this; omega))
        have hz : sgn na (val xs) + sgn nb (val ys) = sgn ng (val rs) := by
          rw [← hrz, hvz, hv1, hv2]; cases na <;> cases nb <;> simp [sgn] at hn ⊢ <;> omega
        exact gives_store ⟨e0, e1, e2, e3⟩ hrs hrc hrn hz hb4 (by omega)
    · have hge : 0 ≤ cmpI (val xs) (val ys) := by unfold cmpI; rw [if_neg hlt]; split <;> decide
      go_wp2_with (go_at_call 65; (with_reducible refine (cmpSize_any _ _ _ _ _ _ _ _ _ hs1 hs2 hc1 hc2 (by omega) (by omega)).mono ?_); rintro e w2 ⟨rfl, hd⟩)
      have hs1d := (hs1.drawn' hd).drew
      have hs2d := (hs2.drawn' hd).drew
      have da0' := (hd.cell _).trans da0
      have hC2 : IntBox w2 (w.heap.size + 1 + 1) (.bool false) (.slice none 0 0) := hC1.mono (hd.below _) (Nat.lt_succ_self _)
      have hC2d : IntBox w2.drew (w.heap.size + 1 + 1) (.bool false) (.slice none 0 0) := hC2
      have hcut2 : w.heap.size + 2 ≤ w2.heap.size := by rw [hd.size]; exact hcut1
      have hbl2 : Below w.heap.size w w2 := hbl1.trans (hd.below _)
      have hsz2 : w2.heap.size = w1.heap.size := hd.size
      have HSZ2 := hidd hsz2
      clear hsz2 hge da0 db0 hC1
      go_region_held3 (fun W => w.heap.size + 2 ≤ W.heap.size ∧ (∀ b o, b < w.heap.size + 2 → W.cell? ⟨b, o, none⟩ = w2.cell? ⟨b, o, none⟩) ∧ ∀ b o, b < w.heap.size + 2 → W.frozen? ⟨b, o, none⟩ = w2.frozen? ⟨b, o, none⟩)
        (first | exact Kept.start hcut2 | assumption | exact Kept.call (by assumption) (by assumption) | exact Kept.set (Kept.set (by assumption) (by omega) _) (by omega) _)
        (first | (go_at_call 56; (with_reducible refine (subSize_any _ _ _ _ _ _ _ _ _ hs1d hs2d (by exact len_le hc2 hs2 hs1 (by rw [hv1, hv2]; omega)) (by rw [hv1, hv2]; omega) (by omega)).mono ?_); rintro e w3 ⟨az, cz, zs, rfl, hsz, hvz, hB2⟩) | (go_at_call 57; (with_reducible refine (signed_any _ _ _ _ _ _ hsz (by omega)).mono ?_); rintro e w4 ⟨v, rfl, ⟨ng, ao, nn, cc, rs, rfl, hrs, hrc, hrn, hrz⟩, hb3⟩; obtain ⟨e0, e1, e2, e3⟩ := (hC2d.mono hB2 hC2d.lt).mono hb3 (Nat.lt_of_lt_of_le hC2d.lt hB2.size)))
      go_wp2
      refine bodyPost_ret (v := .agg #[.bool ng, .slice ao nn cc]) ?_ rfl ?_
      · simp [results, Try.results19, go_sem, e0, e1]
      · have hb4 : Below w.heap.size w w4 := (hbl2.drew.trans (hB2.mono (by simp; omega))).trans (hb3.mono (by have := hB2.size; simp at this; omega))
        have hz : sgn na (val xs) + sgn nb (val ys) = sgn ng (val rs) := by
          rw [← hrz, hvz, hv1, hv2]; cases na <;> cases nb <;> simp [sgn] at hn ⊢ <;> omega
        exact gives_store ⟨e0, e1, e2, e3⟩ hrs hrc hrn hz hb4 (by omega)

end Go.Proofs.Ytjpbmghdamcdcaa
