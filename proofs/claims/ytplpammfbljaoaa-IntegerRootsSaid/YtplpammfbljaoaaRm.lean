/- Walks of the reference: Power. Walk of the reference: Pow. Walk of the reference: Sqrt. Walk of the reference: Root. -/
import Derived.Test.YtplpammfbljaoaaRk
namespace Go.Proofs.Ytplpammfbljaoaa
open Go Go.RowKit

theorem boxes2n (w : World) {n : Bool} {ao : Option Addr} {k c : Nat} {z : Int} (h : Num w (.agg #[.bool n, .slice ao k c]) z) (t : TypeId) :
    ∃ w0, w0 = (w.alloc (.cells #[.bool n, .slice ao k c] t)).alloc (.cells #[.bool false, .slice none 0 0] t) ∧ BoxNum w0 w.heap.size z ∧ BoxNum w0 (w.heap.size + 1) 0 ∧ Below w.heap.size w w0 := by
  obtain ⟨w0, hw0, hA, hC, hbl, HS⟩ := boxes2 w (.bool n) (.slice ao k c) t
  exact ⟨w0, hw0, ⟨_, _, _, _, hA, h.mono hbl⟩, ⟨_, _, _, _, hC, Num.zero _⟩, hbl⟩

theorem half_odd {e k : Nat} (h : k % 2 = 1) : e * k = (e + e) * (k / 2) + e := by
  have hk : k = 2 * (k / 2) + 1 := by omega
  have h1 : e * (2 * (k / 2) + 1) = (e + e) * (k / 2) + e := by rw [Nat.mul_add, Nat.mul_one, ← Nat.mul_assoc, Nat.mul_two]
  rw [← hk] at h1
  exact h1

theorem half_even {e k : Nat} (h : k % 2 = 0) : e * k = (e + e) * (k / 2) := by
  have hk : k = 2 * (k / 2) := by omega
  have h1 : e * (2 * (k / 2)) = (e + e) * (k / 2) := by rw [← Nat.mul_assoc, Nat.mul_two]
  rw [← hk] at h1
  exact h1

set_option maxRecDepth 100000 in
set_option maxHeartbeats 8000000 in
theorem RPowerV {w : World} {v : Value} {z : Int} (h : Num w v z) (n : Nat) (hn : n ≤ 1000000) {M : Nat} (hM : ∀ j, j ≤ 2 * n + 1 → ab (z ^ j) < pw M) (hM2 : M ≤ 400000) : Calls Try.prog 42 #[v, .int .i64 n] w (GivesInt w (z ^ n)) := by
  obtain ⟨n1, ao, k1, c, rfl⟩ := h.parts
  have HM := hidd hM
  clear hM
  obtain ⟨w0, hw0, XA, X4, HB⟩ := boxes2n w h 27
  go_enter Try.func42, Try.ntmps42
  go_upto_region 1 with (fail)
  rw [← hw0]
  clear hw0 h
  go_wp2_with fail
  refine (rOfV _ (1) (by omega) (by omega)).mono ?_
  rintro e wI ⟨v1, rfl, hb, hN1⟩
  obtain ⟨n1, ao1, kk1, c1, rfl⟩ := hN1.parts
  replace XA := XA.mono hb
  replace X4 := X4.mono hb
  replace HB := HB.trans (hb.mono HB.size)
  clear hb
  go_upto_region 2 with (fail)
  obtain ⟨w1, hw1, hb, p1_0⟩ := boxOne hN1 27
  rw [← hw1]
  clear hw1
  have hlt1 : (w.heap.size + 1) < wI.heap.size := X4.lt
  replace XA := XA.mono hb
  replace X4 := X4.mono hb
  replace HB := HB.trans (hb.mono HB.size)
  clear hb
  obtain ⟨g5, hg5⟩ : ∃ g, g = wI.heap.size := ⟨_, rfl⟩
  rw [← hg5]
  rw [← hg5] at hlt1 p1_0
  clear hg5
  have X5 := p1_0
  clear p1_0
  go_loopw [1] (fun v1 W => ∃ e f k : Nat, v1 = .int .i64 k ∧ f + e * k = n ∧ 1 ≤ e ∧ e ≤ 2 * n + 1 ∧ BoxNum W w.heap.size (z ^ e) ∧ BoxNum W (w.heap.size + 1) 0 ∧ BoxNum W g5 (z ^ f) ∧ Below w.heap.size w W) (fun v1 _ => (intOf v1).toNat)
  case atStart => exact ⟨1, 0, n, rfl, by omega, by omega, by omega, by rw [Int.pow_one]; exact XA, X4, by rw [Int.pow_zero]; exact X5, HB⟩
  case round =>
    obtain ⟨e, f, k, rfl, hfe, he1, he2, YA, Y4, Y5, HB⟩ := hrel
    clear XA X4 X5
    have XA := YA
    have X4 := Y4
    have X5 := Y5
    clear YA Y4 Y5
    have Hfe := hidd hfe
    have hkn : k ≤ n := by have := Nat.le_mul_of_pos_left k he1; omega
    clear hfe
    by_cases hk0 : 0 < k
    · have hen : e ≤ n := by have := Nat.le_mul_of_pos_right e hk0; have := Hfe.out; omega
      rcases (by omega : k % 2 = 1 ∨ k % 2 = 0) with hpar | hpar
      · have hm2 : ((k : Int) % 2 == 1) = true := by simp; omega
        have Hpar := hidd hpar
        clear hpar
        have hfn : f + e ≤ n := by have := Nat.le_mul_of_pos_right e hk0; have := Hfe.out; omega
        obtain ⟨na, aoa, kka, cca, ⟨a0, a1, a2, a3⟩, hNa⟩ := id X5
        obtain ⟨nb, aob, kkb, ccb, ⟨b0, b1, b2, b3⟩, hNb⟩ := id XA
        go_wp2_with fail
        refine (exKP (z := z ^ (f + e)) (by rw [Int.pow_add]; exact RMulV hNa hNb) (HM.out _ (by omega)) (by omega)).mono ?_
        rintro e w2 ⟨ne, aoe, kke, cce, rfl, hb, hNe⟩
        clear a0 a1 a2 a3 hNa b0 b1 b2 b3 hNb
        replace XA := XA.mono hb
        replace X4 := X4.mono hb
        replace X5 := X5.mono hb
        replace HB := HB.trans (hb.mono HB.size)
        clear hb
        clear hm2
        obtain ⟨nc, aoc, kkc, ccc, ⟨c0, c1, c2, c3⟩, hNc⟩ := id X5
        go_upto_region 5 with (fail)
        obtain ⟨w3, hw3⟩ : ∃ w1, w1 = putBox w2 g5 ne aoe kke cce := ⟨_, rfl⟩
        rw [show (w2.setCell ⟨g5, 0, none⟩ (.bool ne)).setCell ⟨g5, 1, none⟩ (.slice aoe kke cce) = w3 from hw3.symm]
        have YA : BoxNum w3 w.heap.size (z ^ e) := by rw [hw3]; exact XA.putOther X5 (by omega) _ _ _ _
        have Y4 : BoxNum w3 (w.heap.size + 1) (0) := by rw [hw3]; exact X4.putOther X5 (by omega) _ _ _ _
        have Y5 : BoxNum w3 g5 (z ^ (f + e)) := by rw [hw3]; exact X5.putSame hNe
        replace HB : Below w.heap.size w w3 := by rw [hw3]; exact belowPut HB (by omega) _ _ _ _
        replace XA := YA
        replace X4 := Y4
        replace X5 := Y5
        clear hw3 c0 c1 c2 c3 hNc hNe YA Y4 Y5
        obtain ⟨na, aoa, kka, cca, ⟨a0, a1, a2, a3⟩, hNa⟩ := id XA
        go_wp2_with fail
        refine (exKP (z := z ^ (e + e)) (by rw [Int.pow_add]; exact RMulV hNa hNa) (HM.out _ (by omega)) (by omega)).mono ?_
        rintro e w4 ⟨ne, aoe, kke, cce, rfl, hb, hNe⟩
        clear a0 a1 a2 a3 hNa
        replace XA := XA.mono hb
        replace X4 := X4.mono hb
        replace X5 := X5.mono hb
        replace HB := HB.trans (hb.mono HB.size)
        clear hb
        obtain ⟨nc, aoc, kkc, ccc, ⟨c0, c1, c2, c3⟩, hNc⟩ := id XA
        go_wp2
        obtain ⟨w5, hw5⟩ : ∃ w1, w1 = putBox w4 w.heap.size ne aoe kke cce := ⟨_, rfl⟩
        rw [show (w4.setCell ⟨w.heap.size, 0, none⟩ (.bool ne)).setCell ⟨w.heap.size, 1, none⟩ (.slice aoe kke cce) = w5 from hw5.symm]
        have Y4 : BoxNum w5 (w.heap.size + 1) (0) := by rw [hw5]; exact X4.putOther XA (by omega) _ _ _ _
        have Y5 : BoxNum w5 g5 (z ^ (f + e)) := by rw [hw5]; exact X5.putOther XA (by omega) _ _ _ _
        have YA : BoxNum w5 w.heap.size (z ^ (e + e)) := by rw [hw5]; exact XA.putSame hNe
        replace HB : Below w.heap.size w w5 := by rw [hw5]; exact belowPut HB (by omega) _ _ _ _
        replace XA := YA
        replace X4 := Y4
        replace X5 := Y5
        clear hw5 c0 c1 c2 c3 hNc hNe YA Y4 Y5
        go_roundw
        case rel => exact ⟨e + e, f + e, k / 2, by go_num, by have h1 := Hfe.out; rw [half_odd Hpar.out] at h1; omega, by omega, by omega, XA, X4, X5, HB⟩
        case measure => simp [intOf]; omega
      · have hm2 : ((k : Int) % 2 == 1) = false := by simp; omega
        have Hpar := hidd hpar
        clear hpar
        obtain ⟨na, aoa, kka, cca, ⟨a0, a1, a2, a3⟩, hNa⟩ := id XA
        go_wp2_with fail
        refine (exKP (z := z ^ (e + e)) (by rw [Int.pow_add]; exact RMulV hNa hNa) (HM.out _ (by omega)) (by omega)).mono ?_
        rintro e w6 ⟨ne, aoe, kke, cce, rfl, hb, hNe⟩
        clear a0 a1 a2 a3 hNa
        replace XA := XA.mono hb
        replace X4 := X4.mono hb
        replace X5 := X5.mono hb
        replace HB := HB.trans (hb.mono HB.size)
        clear hb
        clear hm2
        obtain ⟨nc, aoc, kkc, ccc, ⟨c0, c1, c2, c3⟩, hNc⟩ := id XA
        go_wp2
        obtain ⟨w7, hw7⟩ : ∃ w1, w1 = putBox w6 w.heap.size ne aoe kke cce := ⟨_, rfl⟩
        rw [show (w6.setCell ⟨w.heap.size, 0, none⟩ (.bool ne)).setCell ⟨w.heap.size, 1, none⟩ (.slice aoe kke cce) = w7 from hw7.symm]
        have Y4 : BoxNum w7 (w.heap.size + 1) (0) := by rw [hw7]; exact X4.putOther XA (by omega) _ _ _ _
        have Y5 : BoxNum w7 g5 (z ^ f) := by rw [hw7]; exact X5.putOther XA (by omega) _ _ _ _
        have YA : BoxNum w7 w.heap.size (z ^ (e + e)) := by rw [hw7]; exact XA.putSame hNe
        replace HB : Below w.heap.size w w7 := by rw [hw7]; exact belowPut HB (by omega) _ _ _ _
        replace XA := YA
        replace X4 := Y4
        replace X5 := Y5
        clear hw7 c0 c1 c2 c3 hNc hNe YA Y4 Y5
        go_roundw
        case rel => exact ⟨e + e, f, k / 2, by go_num, by have h1 := Hfe.out; rw [half_even Hpar.out] at h1; omega, by omega, by omega, XA, X4, X5, HB⟩
        case measure => simp [intOf]; omega
    · obtain rfl : k = 0 := by omega
      have hfn : f = n := by have := Hfe.out; simpa using this
      subst hfn
      obtain ⟨ne, aoe, kke, cce, ⟨e0, e1, e2, e3⟩, hNe⟩ := id X5
      obtain ⟨nc, aoc, kkc, ccc, ⟨c0, c1, c2, c3⟩, hNc⟩ := id X4
      have hNf := hNe.putBox X4 ne aoe kke cce
      unfold putBox at hNf
      have hbS := (HB.setCell (p := ⟨w.heap.size + 1, 0, none⟩) (by show w.heap.size ≤ w.heap.size + 1; omega) (.bool ne)).setCell (p := ⟨w.heap.size + 1, 1, none⟩) (by show w.heap.size ≤ w.heap.size + 1; omega) (.slice aoe kke cce)
      go_wp2
      refine bodyPost_ret (v := .agg #[.bool ne, .slice aoe kke cce]) ?_ rfl ⟨_, rfl, hNf.isInt, hbS⟩
      simp [results, Try.results42, go_sem, c0, c1]

end Go.Proofs.Ytplpammfbljaoaa

namespace Go.Proofs.Ytplpammfbljaoaa
open Go Go.RowKit

theorem bits_uniq {v : Int} {m m' : Nat} (h : IsBits v m) (h' : IsBits v m') : m = m' := by
  rcases h with ⟨h1, h2⟩ | ⟨h1, h2, h3⟩ <;> rcases h' with ⟨h4, h5⟩ | ⟨h4, h5, h6⟩
  · omega
  · have := pow_two_pos (m' - 1); omega
  · have := pow_two_pos (m - 1); omega
  · rcases Nat.lt_trichotomy m m' with h | h | h
    · have := two_pow_le (show m ≤ m' - 1 by omega); omega
    · exact h
    · have := two_pow_le (show m' ≤ m - 1 by omega); omega

theorem RBitsV {w : World} {v : Value} {z : Int} (h : Num w v z) : Calls Try.prog 34 #[v] w fun e w' => ∃ m : Nat, e = .returned (.int .i64 m) ∧ IsBits (ab z) m ∧ m ≤ 28800000 ∧ Below w.heap.size w w' := by
  obtain ⟨neg, ao, n, c, xs, rfl, hs, hn, rfl, hc, _⟩ := h
  refine (rBits_any _ _ _ _ _ _ hs hc (by omega)).mono fun e w' hh => ?_
  obtain ⟨m, rfl, hm, hm2, hb⟩ := hh
  exact ⟨m, rfl, by rw [ab_sgn, ab_of (val_nonneg hs.digs)]; exact hm, by omega, hb⟩

theorem ab_pow (z : Int) (n : Nat) : ab (z ^ n) = ab z ^ n := by
  induction n with
  | zero => rw [Int.pow_zero, Int.pow_zero]; rfl
  | succ n ih => rw [Int.pow_succ, Int.pow_succ, ab_mul, ih]

theorem ipow_le {X : Int} (hX : 1 ≤ X) {i j : Nat} (h : i ≤ j) : X ^ i ≤ X ^ j := by
  obtain ⟨d, rfl⟩ := Nat.exists_eq_add_of_le h
  rw [Int.pow_add]
  have h1 : 0 < X ^ d := Int.pow_pos (by omega)
  have h2 : 0 < X ^ i := Int.pow_pos (by omega)
  have h3 := Int.mul_le_mul_of_nonneg_left (show 1 ≤ X ^ d by omega) (Int.le_of_lt h2)
  omega

theorem pow_far {z : Int} {b n : Nat} (hb : IsBits (ab z) b) (h : 4096 ≤ ((b : Int) - 1) * n) : lim 4096 ≤ z ^ n ∨ z ^ n ≤ -lim 4096 := by
  have h1 := pow_big hb h
  rw [← ab_pow] at h1
  unfold ab at h1
  omega

theorem pow_near {z : Int} {b n : Nat} (hb : IsBits (ab z) b) (hn : n ≤ 4096) (h : b ≤ 1 ∨ ((b : Int) - 1) * n < 4096) : ab z ^ n < pw 257 := by
  rcases h with h | h
  · have h1 : ab z = 0 ∨ ab z = 1 := by
      have h0 := ab_nonneg z
      rcases hb with ⟨h1, _⟩ | ⟨h1, h2, h3⟩
      · exact .inl h1
      · have : b = 1 := by omega
        subst this
        have h4 : (2 : Int) ^ 1 = 2 := rfl
        omega
    have h2 : (1 : Int) < pw 257 := by
      have := pw_le (show 1 ≤ 257 by omega)
      have h3 : (1 : Int) < pw 1 := by decide
      omega
    rcases h1 with h1 | h1
    · rw [h1]
      cases n with
      | zero => rw [Int.pow_zero]; exact h2
      | succ n => rw [Int.pow_succ, Int.mul_zero]; omega
    · rw [h1, Int.one_pow]; exact h2
  · exact pow_small (ab_nonneg z) hb hn h

theorem pow_bd {z : Int} {n : Nat} (hz : ab z < pw 60000) (h : ab z ^ n < pw 257) : ∀ j, j ≤ 2 * n + 1 → ab (z ^ j) < pw 60600 := by
  intro j hj
  rw [ab_pow]
  have h0 := ab_nonneg z
  rcases (by omega : ab z = 0 ∨ 1 ≤ ab z) with h1 | h1
  · rw [h1]
    have h2 : (1 : Int) < pw 60600 := by
      have := pw_le (show 1 ≤ 60600 by omega)
      have h3 : (1 : Int) < pw 1 := by decide
      omega
    cases j with
    | zero => rw [Int.pow_zero]; exact h2
    | succ n => rw [Int.pow_succ, Int.mul_zero]; omega
  · have h2 := ipow_le h1 hj
    have e : ab z ^ (2 * n + 1) = ab z ^ n * ab z ^ n * ab z := by rw [Int.pow_succ, Nat.two_mul, Int.pow_add]
    have hp : 0 < ab z ^ n := Int.pow_pos (by omega)
    have h3 : ab z ^ n * ab z ^ n < pw (257 + 257) := by
      rw [pw_add]
      exact Int.mul_lt_mul' (Int.le_of_lt h) h (Int.le_of_lt hp) (pw_pos _)
    have h4 : ab z ^ n * ab z ^ n * ab z < pw (257 + 257 + 60000) := by
      rw [pw_add (257 + 257)]
      exact Int.mul_lt_mul' (Int.le_of_lt h3) hz h0 (pw_pos _)
    have h5 := pw_le (show 257 + 257 + 60000 ≤ 60600 by omega)
    omega

set_option maxRecDepth 100000 in
set_option maxHeartbeats 8000000 in
theorem RPowV {w : World} {v : Value} {z : Int} (h : Num w v z) (hz : ab z < pw 60000) (k : Int) (hk1 : -9223372036854775808 ≤ k) (hk2 : k ≤ 9223372036854775807) : Calls Try.prog 40 #[v, .int .i64 k] w (PowGives w z k) := by
  obtain ⟨n1, ao, k1, c, rfl⟩ := h.parts
  have HZ := hidd hz
  clear hz
  obtain ⟨w0, hw0, XA, X4, HB⟩ := boxes2n w h 27
  go_enter Try.func40, Try.ntmps40
  go_upto_region 1 with (fail)
  rw [← hw0]
  clear hw0 h
  rcases (by omega : k < 0 ∨ 4096 < k ∨ (0 ≤ k ∧ k ≤ 4096)) with hk | hk | ⟨hk3, hk4⟩
  · have HK := hidd hk
    obtain ⟨nc, aoc, kkc, ccc, ⟨c0, c1, c2, c3⟩, hNc⟩ := id X4
    have hbS := (HB.setCell (p := ⟨w.heap.size + 1, 0, none⟩) (by show w.heap.size ≤ w.heap.size + 1; omega) (.bool false)).setCell (p := ⟨w.heap.size + 1, 1, none⟩) (by show w.heap.size ≤ w.heap.size + 1; omega) (.slice none 0 0)
    go_wp2
    refine bodyPost_ret (v := .tuple #[.agg #[.bool false, .slice none 0 0], .int .i64 1]) ?_ rfl ⟨hbS, .inl ⟨.inl HK.out, rfl⟩⟩
    simp [results, Try.results40, go_sem, c0, c1]
  · have HK := hidd hk
    have hk0 : ¬ k < 0 := by omega
    obtain ⟨nc, aoc, kkc, ccc, ⟨c0, c1, c2, c3⟩, hNc⟩ := id X4
    have hbS := (HB.setCell (p := ⟨w.heap.size + 1, 0, none⟩) (by show w.heap.size ≤ w.heap.size + 1; omega) (.bool false)).setCell (p := ⟨w.heap.size + 1, 1, none⟩) (by show w.heap.size ≤ w.heap.size + 1; omega) (.slice none 0 0)
    go_wp2
    refine bodyPost_ret (v := .tuple #[.agg #[.bool false, .slice none 0 0], .int .i64 1]) ?_ rfl ⟨hbS, .inl ⟨.inr HK.out, rfl⟩⟩
    simp [results, Try.results40, go_sem, c0, c1]
  · obtain ⟨n, rfl⟩ := Int.eq_ofNat_of_zero_le hk3
    have hn : n ≤ 4096 := by omega
    have hn0 : ¬ ((n : Int) < 0) := by omega
    have hn1 : ¬ (4096 < (n : Int)) := by omega
    clear hk1 hk2 hk3 hk4
    obtain ⟨na, aoa, kka, cca, ⟨a0, a1, a2, a3⟩, hNa⟩ := id XA
    go_wp2_with fail
    refine (RBitsV hNa).mono ?_
    rintro e wB ⟨m, rfl, hm, hmb, hb⟩
    clear a0 a1 a2 a3 hNa
    replace XA := XA.mono hb
    replace X4 := X4.mono hb
    replace HB := HB.trans (hb.mono HB.size)
    clear hb
    have Hm := hidd hm
    clear hm
    by_cases hm1 : 1 < m
    · have hm2 : decide ((m : Int) > 1) = true := by simp; omega
      obtain ⟨na, aoa, kka, cca, ⟨a0, a1, a2, a3⟩, hNa⟩ := id XA
      go_wp2_with fail
      refine (RBitsV hNa).mono ?_
      rintro e wC ⟨m', rfl, hm', _, hb⟩
      obtain rfl : m = m' := bits_uniq Hm.out hm'
      clear hm'
      clear a0 a1 a2 a3 hNa
      replace XA := XA.mono hb
      replace X4 := X4.mono hb
      replace HB := HB.trans (hb.mono HB.size)
      clear hb
      have hpr0 : 0 ≤ ((m : Int) - 1) * (n : Int) := Int.mul_nonneg (by omega) (by omega)
      have hpr1 : ((m : Int) - 1) * (n : Int) ≤ 28800000 * 4096 := Int.mul_le_mul (by omega) (by omega) (by omega) (by omega)
      have hw : IntKind.i64.wrap (((m : Int) - 1) * (n : Int)) = ((m : Int) - 1) * (n : Int) := IntWalk.i64_in _ (by omega)
      by_cases hbig : 4096 ≤ ((m : Int) - 1) * (n : Int)
      · have HBIG := hidd hbig
        have hbig2 : decide (((m : Int) - 1) * (n : Int) ≥ 4096) = true := by simpa using hbig
        obtain ⟨nc, aoc, kkc, ccc, ⟨c0, c1, c2, c3⟩, hNc⟩ := id X4
        have hbS := (HB.setCell (p := ⟨w.heap.size + 1, 0, none⟩) (by show w.heap.size ≤ w.heap.size + 1; omega) (.bool false)).setCell (p := ⟨w.heap.size + 1, 1, none⟩) (by show w.heap.size ≤ w.heap.size + 1; omega) (.slice none 0 0)
        go_wp2
        refine bodyPost_ret (v := .tuple #[.agg #[.bool false, .slice none 0 0], .int .i64 2]) ?_ rfl ⟨hbS, .inr (.inl ⟨by omega, by omega, by rw [Int.toNat_natCast]; exact pow_far Hm.out HBIG.out, rfl⟩)⟩
        simp [results, Try.results40, go_sem, c0, c1]
      · have HBIG := hidd (Int.not_le.1 hbig)
        have hbig2 : decide (((m : Int) - 1) * (n : Int) ≥ 4096) = false := by simpa using hbig
        have HNEAR : Hid (ab z ^ n < pw 257) := pow_near Hm.out (by omega) (.inr HBIG.out)
        have HBD := hidd (pow_bd HZ.out HNEAR.out)
        obtain ⟨na, aoa, kka, cca, ⟨a0, a1, a2, a3⟩, hNa⟩ := id XA
        go_wp2_with fail
        refine (exKP (z := z ^ n) (RPowerV hNa n (by omega) HBD.out (by omega)) (HBD.out n (by omega)) (by omega)).mono ?_
        rintro e wP ⟨np, aop, kkp, cp, rfl, hb, hNp⟩
        clear a0 a1 a2 a3 hNa
        replace XA := XA.mono hb
        replace X4 := X4.mono hb
        replace HB := HB.trans (hb.mono HB.size)
        clear hb
        go_upto_region 6 with (fail)
        obtain ⟨w1, hw1, hb, p1_0⟩ := boxOne hNp 27
        rw [← hw1]
        clear hw1
        have hlt1 : (w.heap.size + 1) < wP.heap.size := X4.lt
        replace XA := XA.mono hb
        replace X4 := X4.mono hb
        replace HB := HB.trans (hb.mono HB.size)
        clear hb
        obtain ⟨g6, hg6⟩ : ∃ g, g = wP.heap.size := ⟨_, rfl⟩
        rw [← hg6]
        rw [← hg6] at hlt1 p1_0
        clear hg6
        have X6 := p1_0
        clear p1_0
        clear hNp
        obtain ⟨na, aoa, kka, cca, ⟨a0, a1, a2, a3⟩, hNa⟩ := id X6
        go_wp2_with fail
        refine (RBitsV hNa).mono ?_
        rintro e wQ ⟨p, rfl, hp, hpb, hb⟩
        clear a0 a1 a2 a3 hNa
        replace XA := XA.mono hb
        replace X4 := X4.mono hb
        replace X6 := X6.mono hb
        replace HB := HB.trans (hb.mono HB.size)
        clear hb
        have Hp := hidd hp
        clear hp
        by_cases hpp : 4096 < p
        · have hpp2 : decide ((p : Int) > 4096) = true := by simp; omega
          have HB2 : Hid (lim 4096 ≤ z ^ n ∨ z ^ n ≤ -lim 4096) := by
            rcases Hp.out with ⟨_, h0⟩ | ⟨_, h1, _⟩
            · omega
            · have h2 : lim 4096 ≤ 2 ^ (p - 1) := two_pow_le (show 4096 ≤ p - 1 by omega)
              show _ ∨ _
              unfold ab at h1
              omega
          clear hpp
          obtain ⟨nc, aoc, kkc, ccc, ⟨c0, c1, c2, c3⟩, hNc⟩ := id X4
          have hbS := (HB.setCell (p := ⟨w.heap.size + 1, 0, none⟩) (by show w.heap.size ≤ w.heap.size + 1; omega) (.bool false)).setCell (p := ⟨w.heap.size + 1, 1, none⟩) (by show w.heap.size ≤ w.heap.size + 1; omega) (.slice none 0 0)
          go_wp2
          refine bodyPost_ret (v := .tuple #[.agg #[.bool false, .slice none 0 0], .int .i64 2]) ?_ rfl ⟨hbS, .inr (.inl ⟨by omega, by omega, by rw [Int.toNat_natCast]; exact HB2.out, rfl⟩)⟩
          simp [results, Try.results40, go_sem, c0, c1]
        · have hpp2 : decide ((p : Int) > 4096) = false := by simp; omega
          have HB2 : Hid (-lim 4096 < z ^ n ∧ z ^ n < lim 4096) := by
            have h2 : ab (z ^ n) < lim 4096 := by
              rcases Hp.out with ⟨h1, h0⟩ | ⟨_, _, h1⟩
              · rw [h1]; exact Int.pow_pos (by decide)
              · exact Int.lt_of_lt_of_le h1 (two_pow_le (show p ≤ 4096 by omega))
            show _ ∧ _
            unfold ab at h2
            omega
          clear hpp
          obtain ⟨ne, aoe, kke, cce, ⟨e0, e1, e2, e3⟩, hNe⟩ := id X6
          obtain ⟨nc, aoc, kkc, ccc, ⟨c0, c1, c2, c3⟩, hNc⟩ := id X4
          have hNf := hNe.putBox X4 ne aoe kke cce
          unfold putBox at hNf
          have hbS := (HB.setCell (p := ⟨w.heap.size + 1, 0, none⟩) (by show w.heap.size ≤ w.heap.size + 1; omega) (.bool ne)).setCell (p := ⟨w.heap.size + 1, 1, none⟩) (by show w.heap.size ≤ w.heap.size + 1; omega) (.slice aoe kke cce)
          go_wp2
          refine bodyPost_ret (v := .tuple #[.agg #[.bool ne, .slice aoe kke cce], .int .i64 0]) ?_ rfl ⟨hbS, .inr (.inr ⟨by omega, by omega, by rw [Int.toNat_natCast]; exact HB2.out.1, by rw [Int.toNat_natCast]; exact HB2.out.2, _, rfl, by rw [Int.toNat_natCast]; exact hNf.isInt⟩)⟩
          simp [results, Try.results40, go_sem, c0, c1]
    · have hm2 : decide ((m : Int) > 1) = false := by simp; omega
      have HNEAR : Hid (ab z ^ n < pw 257) := pow_near Hm.out (by omega) (.inl (by omega))
      have HBD := hidd (pow_bd HZ.out HNEAR.out)
      obtain ⟨na, aoa, kka, cca, ⟨a0, a1, a2, a3⟩, hNa⟩ := id XA
      go_wp2_with fail
      refine (exKP (z := z ^ n) (RPowerV hNa n (by omega) HBD.out (by omega)) (HBD.out n (by omega)) (by omega)).mono ?_
      rintro e wP ⟨np, aop, kkp, cp, rfl, hb, hNp⟩
      clear a0 a1 a2 a3 hNa
      replace XA := XA.mono hb
      replace X4 := X4.mono hb
      replace HB := HB.trans (hb.mono HB.size)
      clear hb
      go_upto_region 6 with (fail)
      obtain ⟨w2, hw2, hb, p2_0⟩ := boxOne hNp 27
      rw [← hw2]
      clear hw2
      have hlt2 : (w.heap.size + 1) < wP.heap.size := X4.lt
      replace XA := XA.mono hb
      replace X4 := X4.mono hb
      replace HB := HB.trans (hb.mono HB.size)
      clear hb
      obtain ⟨g6, hg6⟩ : ∃ g, g = wP.heap.size := ⟨_, rfl⟩
      rw [← hg6]
      rw [← hg6] at hlt2 p2_0
      clear hg6
      have X6 := p2_0
      clear p2_0
      clear hNp
      obtain ⟨na, aoa, kka, cca, ⟨a0, a1, a2, a3⟩, hNa⟩ := id X6
      go_wp2_with fail
      refine (RBitsV hNa).mono ?_
      rintro e wQ ⟨p, rfl, hp, hpb, hb⟩
      clear a0 a1 a2 a3 hNa
      replace XA := XA.mono hb
      replace X4 := X4.mono hb
      replace X6 := X6.mono hb
      replace HB := HB.trans (hb.mono HB.size)
      clear hb
      have Hp := hidd hp
      clear hp
      by_cases hpp : 4096 < p
      · have hpp2 : decide ((p : Int) > 4096) = true := by simp; omega
        have HB2 : Hid (lim 4096 ≤ z ^ n ∨ z ^ n ≤ -lim 4096) := by
          rcases Hp.out with ⟨_, h0⟩ | ⟨_, h1, _⟩
          · omega
          · have h2 : lim 4096 ≤ 2 ^ (p - 1) := two_pow_le (show 4096 ≤ p - 1 by omega)
            show _ ∨ _
            unfold ab at h1
            omega
        clear hpp
        obtain ⟨nc, aoc, kkc, ccc, ⟨c0, c1, c2, c3⟩, hNc⟩ := id X4
        have hbS := (HB.setCell (p := ⟨w.heap.size + 1, 0, none⟩) (by show w.heap.size ≤ w.heap.size + 1; omega) (.bool false)).setCell (p := ⟨w.heap.size + 1, 1, none⟩) (by show w.heap.size ≤ w.heap.size + 1; omega) (.slice none 0 0)
        go_wp2
        refine bodyPost_ret (v := .tuple #[.agg #[.bool false, .slice none 0 0], .int .i64 2]) ?_ rfl ⟨hbS, .inr (.inl ⟨by omega, by omega, by rw [Int.toNat_natCast]; exact HB2.out, rfl⟩)⟩
        simp [results, Try.results40, go_sem, c0, c1]
      · have hpp2 : decide ((p : Int) > 4096) = false := by simp; omega
        have HB2 : Hid (-lim 4096 < z ^ n ∧ z ^ n < lim 4096) := by
          have h2 : ab (z ^ n) < lim 4096 := by
            rcases Hp.out with ⟨h1, h0⟩ | ⟨_, _, h1⟩
            · rw [h1]; exact Int.pow_pos (by decide)
            · exact Int.lt_of_lt_of_le h1 (two_pow_le (show p ≤ 4096 by omega))
          show _ ∧ _
          unfold ab at h2
          omega
        clear hpp
        obtain ⟨ne, aoe, kke, cce, ⟨e0, e1, e2, e3⟩, hNe⟩ := id X6
        obtain ⟨nc, aoc, kkc, ccc, ⟨c0, c1, c2, c3⟩, hNc⟩ := id X4
        have hNf := hNe.putBox X4 ne aoe kke cce
        unfold putBox at hNf
        have hbS := (HB.setCell (p := ⟨w.heap.size + 1, 0, none⟩) (by show w.heap.size ≤ w.heap.size + 1; omega) (.bool ne)).setCell (p := ⟨w.heap.size + 1, 1, none⟩) (by show w.heap.size ≤ w.heap.size + 1; omega) (.slice aoe kke cce)
        go_wp2
        refine bodyPost_ret (v := .tuple #[.agg #[.bool ne, .slice aoe kke cce], .int .i64 0]) ?_ rfl ⟨hbS, .inr (.inr ⟨by omega, by omega, by rw [Int.toNat_natCast]; exact HB2.out.1, by rw [Int.toNat_natCast]; exact HB2.out.2, _, rfl, by rw [Int.toNat_natCast]; exact hNf.isInt⟩)⟩
        simp [results, Try.results40, go_sem, c0, c1]

end Go.Proofs.Ytplpammfbljaoaa

namespace Go.Proofs.Ytplpammfbljaoaa
open Go Go.RowKit

theorem one_sl (w : World) (t : TypeId) (ht : t = 63) : Sl (w.alloc (.cells #[.int .u32 1] t)) (some ⟨w.heap.size, 0, none⟩) 1 1 [1] := by
  subst ht
  have hr : Row (w.alloc (.cells #[.int .u32 1] 63)) 63 w.heap.size [1] := by
    refine ⟨fun x hx => ?_, ?_⟩
    · simp at hx
      subst hx
      exact ⟨by decide, by decide⟩
    · rw [heap_alloc_new]; rfl
  exact hr.sl (n := 1) rfl

theorem boxes3z (w : World) {n : Bool} {ao : Option Addr} {k c : Nat} {z : Int} (h : Num w (.agg #[.bool n, .slice ao k c]) z) (t : TypeId) :
    ∃ w0, w0 = ((w.alloc (.cells #[.bool n, .slice ao k c] t)).alloc (.cells #[.bool false, .slice none 0 0] t)).alloc (.cells #[.bool false, .slice none 0 0] t) ∧ BoxNum w0 w.heap.size z ∧ BoxNum w0 (w.heap.size + 1) 0 ∧ BoxNum w0 (w.heap.size + 1 + 1) 0 ∧ Below w.heap.size w w0 := by
  obtain ⟨w0, hw0, hA, hB, hC, hbl, HS⟩ := boxes3 w (.bool n) (.slice ao k c) (.bool false) (.slice none 0 0) t
  exact ⟨w0, hw0, ⟨_, _, _, _, hA, h.mono hbl⟩, ⟨_, _, _, _, hB, Num.zero _⟩, ⟨_, _, _, _, hC, Num.zero _⟩, hbl⟩

theorem newt_two (X S : Int) : newt X S 2 = (S + X / S) / 2 := by
  unfold newt
  simp
  rw [Int.pow_one]

theorem sqrt_start {X : Int} {b : Nat} (hb : IsBits X b) : X < (2 ^ ((b + 1) / 2) + 1) ^ 2 := by
  have hX : X < 2 ^ b := by
    rcases hb with ⟨h1, h2⟩ | ⟨_, _, h1⟩
    · subst h2; rw [h1]; decide
    · exact h1
  have h2 := two_pow_le (show b ≤ (b + 1) / 2 + (b + 1) / 2 by omega)
  rw [Int.pow_add] at h2
  have h3 := pow_two_pos ((b + 1) / 2)
  rw [Int.pow_succ, Int.pow_succ, Int.pow_zero, Int.one_mul, Int.mul_add, Int.add_mul, Int.mul_one, Int.one_mul]
  omega

theorem bits_le_pw {X : Int} {m K : Nat} (hX : X < pw K) (hm : IsBits X m) : m ≤ 32 * K := by
  rw [pw_two] at hX
  rcases hm with ⟨_, h2⟩ | ⟨_, h2, _⟩
  · omega
  · rcases Nat.lt_or_ge (m - 1) (32 * K) with h | h
    · omega
    · have := two_pow_le h
      omega

theorem two_lt_pw {p K : Nat} (h : p < 32 * K) : (2 : Int) ^ p < pw K := by
  rw [pw_two]
  have h1 := two_pow_le (show p + 1 ≤ 32 * K by omega)
  have h2 := pow_two_succ p
  have h3 := pow_two_pos p
  omega

set_option maxRecDepth 100000 in
set_option maxHeartbeats 16000000 in
theorem RSqrtV {w : World} {v : Value} {a : Int} (h : Num w v a) (ha : ab a < pw 40) : Calls Try.prog 36 #[v] w (SqrtGives w a) := by
  obtain ⟨n1, ao, k1, c, rfl⟩ := h.parts
  have Ba := hidd ha
  clear ha
  obtain ⟨w0, hw0, XA, X2, X3, HB⟩ := boxes3z w h 27
  go_enter Try.func36, Try.ntmps36
  go_upto_region 1 with (fail)
  rw [← hw0]
  clear hw0 h
  obtain ⟨na, aoa, kka, cca, ⟨a0, a1, a2, a3⟩, hNa⟩ := id XA
  obtain ⟨_, _, _, _, _, _, hka, nega, posa⟩ := hNa.sign
  cases na
  rotate_left
  · have Hn := hidd (nega rfl)
    clear nega posa hka
    obtain ⟨nc, aoc, kkc, ccc, ⟨c0, c1, c2, c3⟩, hNc⟩ := id X2
    obtain ⟨nd, aod, kkd, ccd, ⟨d0, d1, d2, d3⟩, hNd⟩ := id X3
    have hbS := (((HB.setCell (p := ⟨w.heap.size + 1, 0, none⟩) (by show w.heap.size ≤ w.heap.size + 1; omega) (.bool false)).setCell (p := ⟨w.heap.size + 1, 1, none⟩) (by show w.heap.size ≤ w.heap.size + 1; omega) (.slice none 0 0)).setCell (p := ⟨w.heap.size + 1 + 1, 0, none⟩) (by show w.heap.size ≤ w.heap.size + 1 + 1; omega) (.bool false)).setCell (p := ⟨w.heap.size + 1 + 1, 1, none⟩) (by show w.heap.size ≤ w.heap.size + 1 + 1; omega) (.slice none 0 0)
    go_wp2
    refine bodyPost_ret (v := .tuple #[.agg #[.bool false, .slice none 0 0], .agg #[.bool false, .slice none 0 0], .int .i64 1]) ?_ rfl ⟨hbS, .inl ⟨Hn.out, rfl⟩⟩
    simp [results, Try.results36, go_sem, c0, c1, d0, d1]
  have Ha0 := hidd (posa rfl)
  clear nega posa
  by_cases hk0 : kka = 0
  · have Hz := hidd (hka.1 hk0)
    subst hk0
    clear hka
    obtain ⟨nc, aoc, kkc, ccc, ⟨c0, c1, c2, c3⟩, hNc⟩ := id X2
    obtain ⟨nd, aod, kkd, ccd, ⟨d0, d1, d2, d3⟩, hNd⟩ := id X3
    have hbS := (((HB.setCell (p := ⟨w.heap.size + 1, 0, none⟩) (by show w.heap.size ≤ w.heap.size + 1; omega) (.bool false)).setCell (p := ⟨w.heap.size + 1, 1, none⟩) (by show w.heap.size ≤ w.heap.size + 1; omega) (.slice none 0 0)).setCell (p := ⟨w.heap.size + 1 + 1, 0, none⟩) (by show w.heap.size ≤ w.heap.size + 1 + 1; omega) (.bool false)).setCell (p := ⟨w.heap.size + 1 + 1, 1, none⟩) (by show w.heap.size ≤ w.heap.size + 1 + 1; omega) (.slice none 0 0)
    go_wp2
    refine bodyPost_ret (v := .tuple #[.agg #[.bool false, .slice none 0 0], .agg #[.bool false, .slice none 0 0], .int .i64 0]) ?_ rfl ⟨hbS, .inr ⟨Ha0.out, _, _, 0, rfl, (Num.zero _).isInt, by rw [Hz.out]; exact (Num.zero _).isInt, by rw [Hz.out]; exact ⟨Int.le_refl _, by decide, by decide⟩⟩⟩
    simp [results, Try.results36, go_sem, c0, c1, d0, d1]
  have hk1 : ((kka : Int) == 0) = false := by simp; omega
  have Ha1 : Hid (1 ≤ a) := by have h1 : a ≠ 0 := fun h => hk0 (hka.2 h); have := Ha0.out; show 1 ≤ a; omega
  clear hk0 hka
  go_upto_region 5 with (fail)
  clear hk1
  have hone := one_sl w0 63 rfl
  have hbo := alloc_below w0 (.cells #[.int .u32 1] 63)
  have hNa1 := hNa.mono hbo
  have q0 := (hbo.cell (p := ⟨w.heap.size, 0, none⟩) (World.block_lt_of_cell? _ _ a0)).trans a0
  have q1 := (hbo.cell (p := ⟨w.heap.size, 1, none⟩) (World.block_lt_of_cell? _ _ a1)).trans a1
  go_wp2_with fail
  refine (RBitsV hNa1).mono ?_
  rintro e wB ⟨m, rfl, hm, hmb, hb⟩
  have Hm := hidd hm
  clear hm
  have hbB := hbo.trans (hb.mono hbo.size)
  have hone2 := hone.mono hb
  obtain ⟨p, hp⟩ : ∃ p : Nat, p = (m + 1) / 2 := ⟨_, rfl⟩
  have hpi : ((m : Int) + 1) / 2 = (p : Int) := by omega
  have hpb : p ≤ 14400001 := by omega
  have Hp := hidd hp
  clear hp hone q0 q1 hNa1 hb hbo
  go_wp2_with fail
  clear hpi
  refine (left_any _ _ _ _ _ hone2 (by omega) p (by omega)).mono ?_
  rintro e wC ⟨gl, ll, cl, ls, rfl, _, hMl, hcl, hll, hvl, hb⟩
  have Hvl := hidd hvl
  have Hll := hidd hll
  clear hvl hll
  have hbC := hbB.trans (hb.mono hbB.size)
  clear hb hbB hone2
  go_wp2_with fail
  have hpw : Hid (p ≤ 640) := by show p ≤ 640; have h1 := bits_le_pw Ba.out Hm.out; have := Hp.out; omega
  obtain ⟨S0, hS0⟩ : ∃ S0 : Int, S0 = 2 ^ p := ⟨_, rfl⟩
  have HS0 := hidd hS0
  have BS0 : Hid (ab S0 < pw 21) := by show ab S0 < pw 21; rw [hS0, ab_of (Int.le_of_lt (pow_two_pos p))]; exact two_lt_pw (by have := hpw.out; omega)
  clear hS0
  have hval : Hid (val ls = S0) := by show val ls = S0; rw [Hvl.out, HS0.out]; show (1 + 4294967296 * 0) * _ = _; rw [Int.mul_zero, Int.add_zero, Int.one_mul]
  have hmade : Calls Try.prog 52 #[.bool false, .slice (some ⟨gl, 0, none⟩) ll cl] wC (GivesInt wC S0) := by
    have h := made_any wC false _ ll cl ls (hMl.sl hcl) (by have := Hll.out; have := hpw.out; omega)
    have e : sgn false (val ls) = S0 := by rw [hval.out]; rfl
    rw [e] at h
    exact h
  refine (exKP (z := S0) hmade BS0.out (by omega)).mono ?_
  clear hmade
  rintro e wD ⟨nD, aoD, kD, cD, rfl, hb2, hND⟩
  have hb := hbC.trans (hb2.mono hbC.size)
  clear hb2 hbC hMl hcl
  clear a0 a1 a2 a3 hNa
  replace XA := XA.mono hb
  replace X2 := X2.mono hb
  replace X3 := X3.mono hb
  replace HB := HB.trans (hb.mono HB.size)
  clear hb
  go_upto_region 6 with (fail)
  obtain ⟨w1, hw1, hb, p1_0⟩ := boxOne hND 27
  rw [← hw1]
  clear hw1
  have hlt1 : (w.heap.size + 1 + 1) < wD.heap.size := X3.lt
  replace XA := XA.mono hb
  replace X2 := X2.mono hb
  replace X3 := X3.mono hb
  replace HB := HB.trans (hb.mono HB.size)
  clear hb
  obtain ⟨g5, hg5⟩ : ∃ g, g = wD.heap.size := ⟨_, rfl⟩
  rw [← hg5]
  rw [← hg5] at hlt1 p1_0
  clear hg5
  have X5 := p1_0
  clear p1_0
  clear hND
  have HI0 : Hid (1 ≤ S0 ∧ a < (S0 + 1) ^ 2) := by
    show _ ∧ _
    rw [HS0.out, Hp.out]
    have h1 := sqrt_start Hm.out
    rw [ab_of Ha0.out] at h1
    exact ⟨pow_two_pos _, h1⟩
  clear Hp Hm
  go_loopw [4] (fun _ W => ∃ s : Int, (1 ≤ s ∧ s ≤ S0 ∧ a < (s + 1) ^ 2) ∧ BoxNum W w.heap.size a ∧ BoxNum W (w.heap.size + 1) 0 ∧ BoxNum W (w.heap.size + 1 + 1) 0 ∧ BoxNum W g5 s ∧ Below w.heap.size w W) (fun _ W => boxVal W g5)
  case atStart => exact ⟨S0, ⟨HI0.out.1, Int.le_refl _, HI0.out.2⟩, XA, X2, X3, X5, HB⟩
  case round =>
    obtain ⟨s, hs, YA, Y2, Y3, Y5, HB⟩ := hrel
    clear XA X2 X3 X5 HI0
    have Hs := hidd hs
    clear hs
    have XA := YA
    have X2 := Y2
    have X3 := Y3
    have X5 := Y5
    clear YA Y2 Y3 Y5
    have HBV := hidd (boxVal_eq X5)
    have Bs : Hid (ab s < pw 21) := by show ab s < pw 21; have h1 := Hs.out; have h2 := BS0.out; unfold ab at *; omega
    have B2 : Hid (ab (2) < pw 2) := by show ab (2) < pw 2; decide
    go_wp2
    have B3 : Hid (ab ((a / s)) < pw 41) := ab_divB Ba.out (by omega)
    have B4 : Hid (ab ((s + (a / s))) < pw 42) := ab_addB Bs.out B3.out (by omega) (by omega)
    have B5 : Hid (ab (((s + (a / s)) / (2))) < pw 43) := ab_divB B4.out (by omega)
    have hlast := X5.lt
    have hp : (plan [Fc.num s, Fc.num a, Fc.num s, Fc.num (a / s), Fc.num (s + (a / s)), Fc.num (2), Fc.num ((s + (a / s)) / (2)), Fc.any, Fc.any] [(w.heap.size, 1000, a, a), ((w.heap.size + 1), 1001, 0, 0), ((w.heap.size + 1 + 1), 1002, 0, 0), (g5, 1003, s, s)] [(7, 8, ((s + (a / s)) / (2)))]).Ok w.heap.size wr.heap.size := plan_ok (by simp; omega) (by simp; try omega) (by simp) (by omega)
    have hm := PMono.of hp
    refine region_steps (p := (plan [Fc.num s, Fc.num a, Fc.num s, Fc.num (a / s), Fc.num (s + (a / s)), Fc.num (2), Fc.num ((s + (a / s)) / (2)), Fc.any, Fc.any] [(w.heap.size, 1000, a, a), ((w.heap.size + 1), 1001, 0, 0), ((w.heap.size + 1 + 1), 1002, 0, 0), (g5, 1003, s, s)] [(7, 8, ((s + (a / s)) / (2)))])) (B := w.heap.size) (B0 := wr.heap.size) (w0 := w) (by kernel_rfl) rfl rfl (plan_start (by simp; exact ⟨XA, X2, X3, X5⟩) HB) ⟨?_, ?_, ?_, ?_, ?_, ?_, ?_, ?_, ?_, trivial⟩ ?_
    · exact st_load (b := g5) (k := 1003) (z := s) (z' := s) hp (by simp [plan]) (.inl rfl) rfl rfl (fun v w h => h) ⟨by simp [plan], by simp [plan]⟩
    · exact st_load (b := w.heap.size) (k := 1000) (z := a) (z' := a) hp (by simp [plan]) (.inl rfl) rfl rfl (fun v w h => h) ⟨by simp [plan], by simp [plan]⟩
    · exact st_load (b := g5) (k := 1003) (z := s) (z' := s) hp (by simp [plan]) (.inl rfl) rfl rfl (fun v w h => h) ⟨by simp [plan], by simp [plan]⟩
    · exact g_call2 (F := (Fc.num a).P) (G := (Fc.num s).P) hm ⟨by simp [plan], by simp [plan]⟩ trivial enter_rDiv (src_in 1 rfl rfl (by simp) rfl (fun v w h => h)) (src_in 2 rfl rfl (by simp) rfl (fun v w h => h)) (fun v v' w h h' => exK (RDivV h h' (Int.lt_of_lt_of_le Ba.out (pw_le (by omega))) (Int.lt_of_lt_of_le Bs.out (pw_le (by omega))) (show s ≠ 0 by have := Hs.out.1; omega)) B3.out (by omega))
    · exact g_call2 (F := (Fc.num s).P) (G := (Fc.num (a / s)).P) hm ⟨by simp [plan], by simp [plan]⟩ trivial enter_rAdd (src_in 0 rfl rfl (by simp) rfl (fun v w h => h)) (src_in 3 rfl rfl (by simp) rfl (fun v w h => h)) (fun v v' w h h' => exK (RAddV h h') B4.out (by omega))
    · exact g_callC hm ⟨by simp [plan], by simp [plan]⟩ trivial enter_rOf (fun w => rOfV w (2) (by omega) (by omega))
    · exact g_call2 (F := (Fc.num (s + (a / s))).P) (G := (Fc.num (2)).P) hm ⟨by simp [plan], by simp [plan]⟩ trivial enter_rDiv (src_in 4 rfl rfl (by simp) rfl (fun v w h => h)) (src_in 5 rfl rfl (by simp) rfl (fun v w h => h)) (fun v v' w h h' => exK (RDivV h h' (Int.lt_of_lt_of_le B4.out (pw_le (by omega))) (Int.lt_of_lt_of_le B2.out (pw_le (by omega))) (by decide)) B5.out (by omega))
    · exact st_alloc (k := 8) (z := ((s + (a / s)) / (2))) hp (by simp [plan]) rfl (fun _ _ => trivial) (by simp [plan]) (by simp [plan])
    · exact st_storeNew (i0 := 7) (j := 6) (z := ((s + (a / s)) / (2))) hp rfl (by simp [plan]) rfl (by simp) rfl rfl (by simp) rfl (fun v w h => h) (fun _ _ => trivial) (by simp [plan]) (by simp [plan])
    intro L vs w6 hL hG
    replace XA : BoxNum w6 w.heap.size a := by have := hG.old (w.heap.size, 1000, a, a) (by simp [plan]); simpa using this
    replace X2 : BoxNum w6 (w.heap.size + 1) 0 := by have := hG.old ((w.heap.size + 1), 1001, 0, 0) (by simp [plan]); simpa using this
    replace X3 : BoxNum w6 (w.heap.size + 1 + 1) 0 := by have := hG.old ((w.heap.size + 1 + 1), 1002, 0, 0) (by simp [plan]); simpa using this
    replace X5 : BoxNum w6 g5 s := by have := hG.old (g5, 1003, s, s) (by simp [plan]); simpa using this
    obtain ⟨g6, e7, hgl6, x7⟩ := hG.new (7, 8, ((s + (a / s)) / (2))) (by simp [plan]) (hL 7 (by simp))
    have hlt6 : g5 < g6 := Nat.lt_of_lt_of_le hlast hgl6
    have X6 : BoxNum w6 g6 ((s + (a / s)) / (2)) := by have h := x7; simp only [hL 8 (by simp), if_true] at h; exact h
    replace HB := hG.below
    rw [lay_all hL]
    simp only [putAll, dstOf, List.length_cons, List.length_nil, Nat.zero_add, Nat.reduceAdd, List.getElem?_toArray, List.getElem?_cons_zero, List.getElem?_cons_succ, Option.bind_some, Act.put, List.setIfInBounds_toArray, List.set_cons_succ, List.set_cons_zero]
    rw [e7]
    generalize vs 0 = u6_0
    generalize vs 1 = u6_1
    generalize vs 2 = u6_2
    generalize vs 3 = u6_3
    generalize vs 4 = u6_4
    generalize vs 5 = u6_5
    generalize vs 6 = u6_6
    clear hG hm hp hL hlast vs L e7 x7
    obtain ⟨na, aoa, kka, cca, ⟨a0, a1, a2, a3⟩, hNa⟩ := id X6
    obtain ⟨nb, aob, kkb, ccb, ⟨b0, b1, b2, b3⟩, hNb⟩ := id X5
    go_wp2_with fail
    refine (RCmpV hNa hNb).mono ?_
    rintro e wE ⟨rfl, hb⟩
    clear a0 a1 a2 a3 hNa b0 b1 b2 b3 hNb
    replace XA := XA.mono hb
    replace X2 := X2.mono hb
    replace X3 := X3.mono hb
    replace X5 := X5.mono hb
    replace X6 := X6.mono hb
    replace HB := HB.trans (hb.mono HB.size)
    clear hb
    have Ht : Hid (((s + (a / s)) / (2)) = newt a s 2) := (newt_two a s).symm
    by_cases hge : s ≤ ((s + (a / s)) / (2))
    · have hc : decide (cmpI ((s + (a / s)) / (2)) s ≥ 0) = true := by simp; unfold cmpI; rw [if_neg (by omega)]; split <;> omega
      have HR : Hid (IsRoot a 2 s) := newt_end (by decide) Hs.out.1 Hs.out.2.2 (by rw [← Ht.out]; exact hge)
      clear hge
      generalize cmpI ((s + (a / s)) / (2)) s = cc at *
      go_upto_region 8 with (fail)
      clear hc
      have B7 : Hid (ab ((s * s)) < pw 42) := ab_mulM Bs.out Bs.out (by omega)
      have B8 : Hid (ab ((a - (s * s))) < pw 43) := ab_subB Ba.out B7.out (by omega) (by omega)
      have hlast := X6.lt
      have hp : (plan [Fc.num s, Fc.num a, Fc.num s, Fc.num s, Fc.num (s * s), Fc.num (a - (s * s)), Fc.any, Fc.any, Fc.is (.int .i64 (0))] [(w.heap.size, 1000, a, a), ((w.heap.size + 1), 6, 0, s), ((w.heap.size + 1 + 1), 7, 0, (a - (s * s))), (g5, 1003, s, s), (g6, 1004, ((s + (a / s)) / (2)), ((s + (a / s)) / (2)))] []).Ok w.heap.size wE.heap.size := plan_ok (by simp; omega) (by simp; try omega) (by simp) (by omega)
      have hm := PMono.of hp
      refine region_steps (p := (plan [Fc.num s, Fc.num a, Fc.num s, Fc.num s, Fc.num (s * s), Fc.num (a - (s * s)), Fc.any, Fc.any, Fc.is (.int .i64 (0))] [(w.heap.size, 1000, a, a), ((w.heap.size + 1), 6, 0, s), ((w.heap.size + 1 + 1), 7, 0, (a - (s * s))), (g5, 1003, s, s), (g6, 1004, ((s + (a / s)) / (2)), ((s + (a / s)) / (2)))] [])) (B := w.heap.size) (B0 := wE.heap.size) (w0 := w) (by kernel_rfl) rfl rfl (plan_start (by simp; exact ⟨XA, X2, X3, X5, X6⟩) HB) ⟨?_, ?_, ?_, ?_, ?_, ?_, ?_, ?_, ?_, trivial⟩ ?_
      · exact st_load (b := g5) (k := 1003) (z := s) (z' := s) hp (by simp [plan]) (.inl rfl) rfl rfl (fun v w h => h) ⟨by simp [plan], by simp [plan]⟩
      · exact st_load (b := w.heap.size) (k := 1000) (z := a) (z' := a) hp (by simp [plan]) (.inl rfl) rfl rfl (fun v w h => h) ⟨by simp [plan], by simp [plan]⟩
      · exact st_load (b := g5) (k := 1003) (z := s) (z' := s) hp (by simp [plan]) (.inl rfl) rfl rfl (fun v w h => h) ⟨by simp [plan], by simp [plan]⟩
      · exact st_load (b := g5) (k := 1003) (z := s) (z' := s) hp (by simp [plan]) (.inl rfl) rfl rfl (fun v w h => h) ⟨by simp [plan], by simp [plan]⟩
      · exact g_call2 (F := (Fc.num s).P) (G := (Fc.num s).P) hm ⟨by simp [plan], by simp [plan]⟩ trivial enter_rMul (src_in 2 rfl rfl (by simp) rfl (fun v w h => h)) (src_in 3 rfl rfl (by simp) rfl (fun v w h => h)) (fun v v' w h h' => exK (RMulV h h') B7.out (by omega))
      · exact g_call2 (F := (Fc.num a).P) (G := (Fc.num (s * s)).P) hm ⟨by simp [plan], by simp [plan]⟩ trivial enter_rSub (src_in 1 rfl rfl (by simp) rfl (fun v w h => h)) (src_in 4 rfl rfl (by simp) rfl (fun v w h => h)) (fun v v' w h h' => exK (RSubV h h' (K := 42) (Int.lt_of_lt_of_le Ba.out (pw_le (by omega))) (Int.lt_of_lt_of_le B7.out (pw_le (by omega))) (by omega)) B8.out (by omega))
      · exact st_storeOld (b := (w.heap.size + 1)) (j := 0) (z := 0) (z' := s) hp rfl (by simp [plan]) rfl rfl rfl (by simp) rfl (fun v w h => h) (fun _ _ => trivial) (by simp [plan]) (by simp [plan])
      · exact st_storeOld (b := (w.heap.size + 1 + 1)) (j := 5) (z := 0) (z' := (a - (s * s))) hp rfl (by simp [plan]) rfl rfl rfl (by simp) rfl (fun v w h => h) (fun _ _ => trivial) (by simp [plan]) (by simp [plan])
      · exact g_assign hm ⟨by simp [plan], by simp [plan]⟩ trivial (src_const (fun _ => rfl))
      intro L vs w9 hL hG
      replace XA : BoxNum w9 w.heap.size a := by have := hG.old (w.heap.size, 1000, a, a) (by simp [plan]); simpa using this
      replace X2 : BoxNum w9 (w.heap.size + 1) s := by have := hG.old ((w.heap.size + 1), 6, 0, s) (by simp [plan]); simpa [hL 6 (by simp)] using this
      replace X3 : BoxNum w9 (w.heap.size + 1 + 1) (a - (s * s)) := by have := hG.old ((w.heap.size + 1 + 1), 7, 0, (a - (s * s))) (by simp [plan]); simpa [hL 7 (by simp)] using this
      replace X5 : BoxNum w9 g5 s := by have := hG.old (g5, 1003, s, s) (by simp [plan]); simpa using this
      replace X6 : BoxNum w9 g6 ((s + (a / s)) / (2)) := by have := hG.old (g6, 1004, ((s + (a / s)) / (2)), ((s + (a / s)) / (2))) (by simp [plan]); simpa using this
      have e8 : vs 8 = .int .i64 (0) := hG.val 8 (hL 8 (by simp))
      replace HB := hG.below
      rw [lay_all hL]
      simp only [putAll, dstOf, List.length_cons, List.length_nil, Nat.zero_add, Nat.reduceAdd, List.getElem?_toArray, List.getElem?_cons_zero, List.getElem?_cons_succ, Option.bind_some, Act.put, List.setIfInBounds_toArray, List.set_cons_succ, List.set_cons_zero]
      rw [e8]
      generalize vs 0 = u9_0
      generalize vs 1 = u9_1
      generalize vs 2 = u9_2
      generalize vs 3 = u9_3
      generalize vs 4 = u9_4
      generalize vs 5 = u9_5
      clear hG hm hp hL hlast vs L e8
      obtain ⟨nc, aoc, kkc, ccc, ⟨c0, c1, c2, c3⟩, hNc⟩ := id X2
      obtain ⟨nd, aod, kkd, ccd, ⟨d0, d1, d2, d3⟩, hNd⟩ := id X3
      go_wp2
      refine bodyPost_ret (v := .tuple #[.agg #[.bool nc, .slice aoc kkc ccc], .agg #[.bool nd, .slice aod kkd ccd], .int .i64 0]) ?_ rfl ⟨HB, .inr ⟨Ha0.out, _, _, s, rfl, hNc.isInt, hNd.isInt, HR.out⟩⟩
      simp [results, Try.results36, go_sem, c0, c1, d0, d1]
    · have hc : decide (cmpI ((s + (a / s)) / (2)) s ≥ 0) = false := by simp; unfold cmpI; rw [if_pos (by omega)]; omega
      have HLT := hidd (Int.not_le.1 hge)
      clear hge
      generalize cmpI ((s + (a / s)) / (2)) s = cc at *
      obtain ⟨ne, aoe, kke, cce, ⟨e0, e1, e2, e3⟩, hNe⟩ := id X6
      obtain ⟨nc, aoc, kkc, ccc, ⟨c0, c1, c2, c3⟩, hNc⟩ := id X5
      go_wp2
      obtain ⟨w11, hw11⟩ : ∃ w1, w1 = putBox wE g5 ne aoe kke cce := ⟨_, rfl⟩
      rw [show (wE.setCell ⟨g5, 0, none⟩ (.bool ne)).setCell ⟨g5, 1, none⟩ (.slice aoe kke cce) = w11 from hw11.symm]
      have YA : BoxNum w11 w.heap.size a := by rw [hw11]; exact XA.putOther X5 (by omega) _ _ _ _
      have Y2 : BoxNum w11 (w.heap.size + 1) 0 := by rw [hw11]; exact X2.putOther X5 (by omega) _ _ _ _
      have Y3 : BoxNum w11 (w.heap.size + 1 + 1) 0 := by rw [hw11]; exact X3.putOther X5 (by omega) _ _ _ _
      have Y6 : BoxNum w11 g6 ((s + (a / s)) / (2)) := by rw [hw11]; exact X6.putOther X5 (by omega) _ _ _ _
      replace HB : Below w.heap.size w w11 := by rw [hw11]; exact belowPut HB (by omega) _ _ _ _
      have Y5 : BoxNum w11 g5 ((s + (a / s)) / (2)) := by rw [hw11]; exact X5.putSame hNe
      replace XA := YA
      replace X2 := Y2
      replace X3 := Y3
      replace X5 := Y5
      replace X6 := Y6
      clear YA Y2 Y3 Y5 Y6
      clear hw11
      clear e0 e1 e2 e3 hNe c0 c1 c2 c3 hNc
      have h1 : 1 ≤ newt a s 2 := newt_ge (by decide) Hs.out.1 (by omega) (by rw [Int.one_pow]; exact Ha1.out)
      have h2 : a < (newt a s 2 + 1) ^ 2 := by rcases newt_up (X := a) (S := s) (K := 2) (by decide) Hs.out.1 with h | h; exact h; omega
      rw [← Ht.out] at h1 h2
      go_roundw
      case rel => exact ⟨_, ⟨h1, by have := HLT.out; have := Hs.out.2.1; omega, h2⟩, XA, X2, X3, X5, HB⟩
      case measure => rw [boxVal_eq X5, HBV.out]; have := HLT.out; have := Hs.out.1; omega

end Go.Proofs.Ytplpammfbljaoaa

namespace Go.Proofs.Ytplpammfbljaoaa
open Go Go.RowKit

theorem enter_rleft (args : Array Value) (w : World) : (callFunc 72 args).run Try.prog w = .ok (.enter 72 args) w := enter_of Try.func72 (by kernel_rfl) rfl args w
theorem enter_rPower (args : Array Value) (w : World) : (callFunc 42 args).run Try.prog w = .ok (.enter 42 args) w := enter_of Try.func42 (by kernel_rfl) rfl args w
theorem enter_rCmp' (args : Array Value) (w : World) : (callFunc 30 args).run Try.prog w = .ok (.enter 30 args) w := enter_of Try.func30 (by kernel_rfl) rfl args w
theorem exRCmp' {w : World} {v v' : Value} {z z' : Int} (h : Num w v z) (h' : Num w v' z') : Calls Try.prog 30 #[v, v'] w fun e w' => ∃ v', e = .returned v' ∧ Below w.heap.size w w' ∧ v' = .int .i64 (cmpI z z') :=
  (RCmpV h h').mono fun _ _ hh => ⟨_, hh.1, hh.2, rfl⟩

/-- A slice whose words are a number. -/
def Fc.sz (V : Int) : Fc := ⟨fun v w => ∃ (ao : Option Addr) (l c : Nat) (zs : List Int), v = .slice ao l c ∧ Sl w ao l c zs ∧ l ≤ 3000000 ∧ val zs = V,
  fun ⟨ao, l, c, zs, e, h, h1, h2⟩ hb => ⟨ao, l, c, zs, e, h.mono hb, h1, h2⟩, fun ⟨ao, l, c, zs, e, h, h1, h2⟩ hb n' a' k' c' => by
  obtain ⟨p, q, r, t, hI, _⟩ := hb
  exact ⟨ao, l, c, zs, e, h.putBox hI n' a' k' c', h1, h2⟩⟩

theorem exLeft {w : World} {ao : Option Addr} {c : Nat} (i : Nat) (hi : i ≤ 1000000) (h : Sl w ao 1 c [1]) : Calls Try.prog 72 #[.slice ao 1 c, .int .i64 i] w fun e w' => ∃ v', e = .returned v' ∧ Below w.heap.size w w' ∧ (Fc.sz (2 ^ i)).P v' w' :=
  (left_any w ao 1 c [1] h (by omega) i (by omega)).mono fun e w' hh => by
    obtain ⟨g, l, cap, zs, rfl, _, hM, hl, hll, hv, hb⟩ := hh
    refine ⟨_, rfl, hb, _, _, _, zs, rfl, hM.sl hl, by omega, ?_⟩
    rw [hv]
    show (1 + 4294967296 * 0) * _ = _
    rw [Int.mul_zero, Int.add_zero, Int.one_mul]

theorem exMadeSz {w : World} {v : Value} {V : Int} {k : Nat} (h : (Fc.sz V).P v w) (hk : ab V < pw k) (hk2 : k ≤ 900000) : Calls Try.prog 52 #[.bool false, v] w fun e w' => ∃ v', e = .returned v' ∧ Below w.heap.size w w' ∧ Num w' v' V := by
  obtain ⟨ao, l, c, zs, rfl, hS, hl, hv⟩ := h
  have h1 := made_any w false ao l c zs hS (by omega)
  have e : sgn false (val zs) = V := by rw [hv]; rfl
  rw [e] at h1
  exact exK h1 hk hk2

theorem pow_times (i K : Nat) : ((2 : Int) ^ i) ^ K = 2 ^ (i * K) := Int.pow_mul.symm

theorem root_room {a s : Int} {K i b : Nat} (hKb : K ≤ b) (hb : IsBits a b) (hb0 : 0 < b) (ha : a < pw 40) (hi : i * K ≤ b - 1) (hs0 : 0 ≤ s) (hs : s ^ K ≤ a) : ab (s + 2 ^ i) ^ K < pw 257 := by
  have hp := pow_two_pos i
  rw [ab_of (by omega)]
  rcases hb with ⟨_, h0⟩ | ⟨_, h1, _⟩
  · omega
  have h2 : ((2 : Int) ^ i) ^ K ≤ a := by
    rw [pow_times]
    have := two_pow_le hi
    omega
  have h3 : (2 : Int) ^ b ≤ 2 * a := by
    have := pow_two_succ (b - 1)
    rw [show b - 1 + 1 = b by omega] at this
    omega
  have ha0 : 0 < a := by have := pow_two_pos (b - 1); omega
  have key : ∀ x : Int, 0 ≤ x → x ^ K ≤ a → (2 * x) ^ K ≤ 2 * a * a := fun x hx hxa => by
    rw [Int.mul_pow]
    have h4 := two_pow_le hKb
    have h5 : 0 ≤ x ^ K := Int.pow_nonneg hx
    have h6 := Int.mul_le_mul (show (2 : Int) ^ K ≤ 2 * a by omega) hxa h5 (by omega)
    exact h6
  have hlim : 2 * a * a < pw 257 := by
    have h5 := Int.mul_lt_mul' (Int.le_of_lt ha) ha (Int.le_of_lt ha0) (pw_pos 40)
    rw [← pw_add] at h5
    have h6 := pw_le (show 40 + 40 + 1 ≤ 257 by omega)
    have h7 := pw_succ (40 + 40)
    have h8 := pw_pos (40 + 40)
    rw [Int.mul_assoc]
    omega
  rcases (by omega : s ≤ 2 ^ i ∨ 2 ^ i ≤ s) with h | h
  · have h4 := pow_mono (show 0 ≤ s + 2 ^ i by omega) (show s + 2 ^ i ≤ 2 * 2 ^ i by omega) K
    have := key _ (Int.le_of_lt hp) h2
    omega
  · have h4 := pow_mono (show 0 ≤ s + 2 ^ i by omega) (show s + 2 ^ i ≤ 2 * s by omega) K
    have := key _ hs0 hs
    omega

theorem root_begin {a : Int} {K b : Nat} (hK : 1 ≤ K) (hb : IsBits a b) : a < (0 + 2 ^ ((b - 1) / K + 1)) ^ K := by
  rw [Int.zero_add, pow_times]
  have hX : a < 2 ^ b := by
    rcases hb with ⟨h1, h2⟩ | ⟨_, _, h1⟩
    · subst h2; rw [h1]; decide
    · exact h1
  have h1 := Nat.div_add_mod (b - 1) K
  have h2 := Nat.mod_lt (b - 1) (show 0 < K by omega)
  have h3 : ((b - 1) / K + 1) * K = K * ((b - 1) / K) + K := by rw [Nat.add_mul, Nat.one_mul, Nat.mul_comm]
  have h4 := two_pow_le (show b ≤ ((b - 1) / K + 1) * K by omega)
  omega

theorem root_le {a s : Int} {K : Nat} (hK : 1 ≤ K) (hs0 : 0 ≤ s) (hs : s ^ K ≤ a) (ha : 0 ≤ a) : s ≤ a := by
  rcases (by omega : s = 0 ∨ 1 ≤ s) with h | h
  · omega
  · have := pow_one_le h hK
    omega

set_option maxRecDepth 100000 in
set_option maxHeartbeats 16000000 in
theorem RRootV {w : World} {v : Value} {a : Int} (h : Num w v a) (ha : ab a < pw 40) (k : Int) (hk1 : -9223372036854775808 ≤ k) (hk2 : k ≤ 9223372036854775807) : Calls Try.prog 38 #[v, .int .i64 k] w (RootGives w a k) := by
  obtain ⟨n1, ao, k1, c, rfl⟩ := h.parts
  have Ba := hidd ha
  clear ha
  obtain ⟨w0, hw0, XA, X4, HB⟩ := boxes2n w h 27
  go_enter Try.func38, Try.ntmps38
  go_upto_region 1 with (fail)
  rw [← hw0]
  clear hw0 h
  obtain ⟨na, aoa, kka, cca, ⟨a0, a1, a2, a3⟩, hNa⟩ := id XA
  obtain ⟨_, _, _, _, _, _, hka, nega, posa⟩ := hNa.sign
  cases na
  rotate_left
  · have Hn := hidd (nega rfl)
    clear nega posa hka
    obtain ⟨nc, aoc, kkc, ccc, ⟨c0, c1, c2, c3⟩, hNc⟩ := id X4
    have hbS := (HB.setCell (p := ⟨w.heap.size + 1, 0, none⟩) (by show w.heap.size ≤ w.heap.size + 1; omega) (.bool false)).setCell (p := ⟨w.heap.size + 1, 1, none⟩) (by show w.heap.size ≤ w.heap.size + 1; omega) (.slice none 0 0)
    go_wp2
    refine bodyPost_ret (v := .tuple #[.agg #[.bool false, .slice none 0 0], .int .i64 1]) ?_ rfl ⟨hbS, .inl ⟨.inl Hn.out, rfl⟩⟩
    simp [results, Try.results38, go_sem, c0, c1]
  have Ha0 := hidd (posa rfl)
  clear nega posa
  by_cases hkl : k < 1
  · have HKL := hidd hkl
    clear hka
    obtain ⟨nc, aoc, kkc, ccc, ⟨c0, c1, c2, c3⟩, hNc⟩ := id X4
    have hbS := (HB.setCell (p := ⟨w.heap.size + 1, 0, none⟩) (by show w.heap.size ≤ w.heap.size + 1; omega) (.bool false)).setCell (p := ⟨w.heap.size + 1, 1, none⟩) (by show w.heap.size ≤ w.heap.size + 1; omega) (.slice none 0 0)
    go_wp2
    refine bodyPost_ret (v := .tuple #[.agg #[.bool false, .slice none 0 0], .int .i64 1]) ?_ rfl ⟨hbS, .inl ⟨.inr HKL.out, rfl⟩⟩
    simp [results, Try.results38, go_sem, c0, c1]
  obtain ⟨K, rfl⟩ := Int.eq_ofNat_of_zero_le (show 0 ≤ k by omega)
  have hK1 : 1 ≤ K := by omega
  have hkl2 : decide ((K : Int) < 1) = false := by simp; omega
  clear hkl hk1
  by_cases hk1 : K = 1
  · subst hk1
    clear hka
    obtain ⟨nc, aoc, kkc, ccc, ⟨c0, c1, c2, c3⟩, hNc⟩ := id X4
    have hNf := hNa.putBox X4 false aoa kka cca
    unfold putBox at hNf
    have hbS := (HB.setCell (p := ⟨w.heap.size + 1, 0, none⟩) (by show w.heap.size ≤ w.heap.size + 1; omega) (.bool false)).setCell (p := ⟨w.heap.size + 1, 1, none⟩) (by show w.heap.size ≤ w.heap.size + 1; omega) (.slice aoa kka cca)
    go_wp2
    refine bodyPost_ret (v := .tuple #[.agg #[.bool false, .slice aoa kka cca], .int .i64 0]) ?_ rfl ⟨hbS, .inr ⟨⟨Ha0.out, by omega⟩, _, _, rfl, hNf.isInt, ⟨Ha0.out, by show a ^ 1 ≤ a; rw [Int.pow_one]; exact Int.le_refl _, by show a < (a + 1) ^ 1; rw [Int.pow_one]; omega⟩⟩⟩
    simp [results, Try.results38, go_sem, c0, c1]
  have hkn : ((K : Int) == 1) = false := by simp; omega
  by_cases hk0 : kka = 0
  · have Hz := hidd (hka.1 hk0)
    subst hk0
    clear hka
    obtain ⟨nc, aoc, kkc, ccc, ⟨c0, c1, c2, c3⟩, hNc⟩ := id X4
    have hNf := hNa.putBox X4 false aoa 0 cca
    unfold putBox at hNf
    have hbS := (HB.setCell (p := ⟨w.heap.size + 1, 0, none⟩) (by show w.heap.size ≤ w.heap.size + 1; omega) (.bool false)).setCell (p := ⟨w.heap.size + 1, 1, none⟩) (by show w.heap.size ≤ w.heap.size + 1; omega) (.slice aoa 0 cca)
    go_wp2
    refine bodyPost_ret (v := .tuple #[.agg #[.bool false, .slice aoa 0 cca], .int .i64 0]) ?_ rfl ⟨hbS, .inr ⟨⟨Ha0.out, by omega⟩, _, _, rfl, hNf.isInt, by rw [Hz.out, Int.toNat_natCast]; exact ⟨Int.le_refl _, by rw [Int.zero_pow (by omega)]; exact Int.le_refl _, by rw [Int.zero_add, Int.one_pow]; decide⟩⟩⟩
    simp [results, Try.results38, go_sem, c0, c1]
  have hk2 : ((kka : Int) == 0) = false := by simp; omega
  have Ha1 : Hid (1 ≤ a) := by have h1 : a ≠ 0 := fun h => hk0 (hka.2 h); have := Ha0.out; show 1 ≤ a; omega
  have HK1 := hidd hk1
  have HKp := hidd hK1
  clear hk0 hka hk1 hK1
  go_wp2_with fail
  clear hk2 hkn hkl2
  refine (RBitsV hNa).mono ?_
  rintro e wB ⟨m, rfl, hm, hmb, hb⟩
  rw [ab_of Ha0.out] at hm
  have Hm := hidd hm
  clear hm
  clear a0 a1 a2 a3 hNa
  replace XA := XA.mono hb
  replace X4 := X4.mono hb
  replace HB := HB.trans (hb.mono HB.size)
  clear hb
  by_cases hKm : m ≤ K
  · have HKM := hidd hKm
    go_wp2_with fail
    clear hKm
    refine (rOfV _ (1) (by omega) (by omega)).mono ?_
    rintro e wO ⟨v1, rfl, hb, hN1⟩
    obtain ⟨ne, aoe, kke, cce, rfl⟩ := hN1.parts
    replace XA := XA.mono hb
    replace X4 := X4.mono hb
    replace HB := HB.trans (hb.mono HB.size)
    clear hb
    obtain ⟨nc, aoc, kkc, ccc, ⟨c0, c1, c2, c3⟩, hNc⟩ := id X4
    have hNf := hN1.putBox X4 ne aoe kke cce
    unfold putBox at hNf
    have hbS := (HB.setCell (p := ⟨w.heap.size + 1, 0, none⟩) (by show w.heap.size ≤ w.heap.size + 1; omega) (.bool ne)).setCell (p := ⟨w.heap.size + 1, 1, none⟩) (by show w.heap.size ≤ w.heap.size + 1; omega) (.slice aoe kke cce)
    have HR : Hid (IsRoot a K 1) := by
      refine ⟨by decide, by rw [Int.one_pow]; exact Ha1.out, ?_⟩
      show a < 2 ^ K
      have h1 := two_pow_le HKM.out
      rcases Hm.out with ⟨h2, _⟩ | ⟨_, _, h2⟩
      · have := Ha1.out; omega
      · omega
    go_wp2
    refine bodyPost_ret (v := .tuple #[.agg #[.bool ne, .slice aoe kke cce], .int .i64 0]) ?_ rfl ⟨hbS, .inr ⟨⟨Ha0.out, by have := HKp.out; omega⟩, _, _, rfl, hNf.isInt, by rw [Int.toNat_natCast]; exact HR.out⟩⟩
    simp [results, Try.results38, go_sem, c0, c1]
  have HKM : Hid (K < m) := by show K < m; omega
  go_upto_region 7 with (fail)
  clear hKm
  go_upto_region 8 with (fail)
  obtain ⟨w1, hw1, hb, p1_0⟩ := boxOne (Num.zero wB) 27
  rw [← hw1]
  clear hw1
  have hlt1 : (w.heap.size + 1) < wB.heap.size := X4.lt
  replace XA := XA.mono hb
  replace X4 := X4.mono hb
  replace HB := HB.trans (hb.mono HB.size)
  clear hb
  obtain ⟨g6, hg6⟩ : ∃ g, g = wB.heap.size := ⟨_, rfl⟩
  rw [← hg6]
  rw [← hg6] at hlt1 p1_0
  clear hg6
  have X6 := p1_0
  clear p1_0
  obtain ⟨na, aoa, kka, cca, ⟨a0, a1, a2, a3⟩, hNa⟩ := id XA
  go_wp2_with fail
  refine (RBitsV hNa).mono ?_
  rintro e wC ⟨m', rfl, hm', hmb', hb⟩
  rw [ab_of Ha0.out] at hm'
  obtain rfl : m = m' := bits_uniq Hm.out hm'
  clear hm'
  clear a0 a1 a2 a3 hNa
  replace XA := XA.mono hb
  replace X4 := X4.mono hb
  replace X6 := X6.mono hb
  replace HB := HB.trans (hb.mono HB.size)
  clear hb
  have hm0 : 0 < m := by have := HKM.out; have := HKp.out; omega
  obtain ⟨I0, hI0⟩ : ∃ I0 : Nat, I0 = (m - 1) / K := ⟨_, rfl⟩
  have hI : ((m : Int) - 1) / (K : Int) = (I0 : Int) := by rw [hI0, show (m : Int) - 1 = ((m - 1 : Nat) : Int) by omega]; exact (Int.natCast_ediv _ _).symm
  have hKz : ((K : Int) == 0) = false := by have := HKp.out; simp; omega
  have hKz2 : (K : Int) ≠ 0 := by have := HKp.out; omega
  have hm01 : 0 ≤ (m : Int) - 1 := by omega
  have hIb : I0 ≤ 28800000 := by rw [hI0]; have := Nat.div_le_self (m - 1) K; omega
  have HI0 := hidd hI0
  have HM0 := hidd hm0
  have HIi := hidd hI
  clear hI0 hm0
  go_wp2
  clear hI hKz hKz2 hm01
  rw [HIi.out]
  have hBG := hidd (root_begin HKp.out Hm.out)
  rw [← HI0.out] at hBG
  go_loopw [7] (fun v7 W => ∃ (j : Nat) (s : Int), j ≤ I0 + 1 ∧ v7 = .int .i64 ((j : Int) - 1) ∧ (0 ≤ s ∧ s ^ K ≤ a ∧ a < (s + 2 ^ j) ^ K) ∧ BoxNum W w.heap.size a ∧ BoxNum W (w.heap.size + 1) 0 ∧ BoxNum W g6 s ∧ Below w.heap.size w W) (fun v7 _ => (intOf v7 + 1).toNat)
  case atStart => exact ⟨I0 + 1, 0, Nat.le_refl _, by go_num, ⟨by omega, by rw [Int.zero_pow (by have := HKp.out; omega)]; exact Ha0.out, hBG.out⟩, XA, X4, X6, HB⟩
  case round =>
    obtain ⟨j, s, hj, rfl, hs, YA, Y4, Y6, HB⟩ := hrel
    clear XA X4 X6
    have XA := YA
    have X4 := Y4
    have X6 := Y6
    clear YA Y4 Y6
    have Hs := hidd hs
    clear hs
    have Bs : Hid (ab s < pw 40) := by show ab s < pw 40; rw [ab_of Hs.out.1]; have h1 := root_le HKp.out Hs.out.1 Hs.out.2.1 Ha0.out; have h2 := Ba.out; rw [ab_of Ha0.out] at h2; omega
    by_cases hj0 : 0 < j
    · obtain ⟨i, rfl⟩ : ∃ i, j = i + 1 := ⟨j - 1, by omega⟩
      have hj1 : ((i + 1 : Nat) : Int) - 1 = (i : Int) := by omega
      have HiK : Hid (i * K ≤ m - 1) := by show i * K ≤ m - 1; have h1 := Nat.div_mul_le_self (m - 1) K; rw [← HI0.out] at h1; have h2 := Nat.mul_le_mul_right K (show i ≤ I0 by omega); omega
      have Hi : Hid (i ≤ 1279) := by show i ≤ 1279; have h1 := bits_le_pw (K := 40) (by have := Ba.out; rw [ab_of Ha0.out] at this; exact this) Hm.out; have h2 := Nat.le_mul_of_pos_right i HKp.out; have := HiK.out; omega
      have Bp : Hid (ab (2 ^ i) < pw 41) := by show ab (2 ^ i) < pw 41; rw [ab_of (Int.le_of_lt (pow_two_pos i))]; exact two_lt_pw (by have := Hi.out; omega)
      have Hroom := hidd (root_room (Nat.le_of_lt HKM.out) Hm.out HM0.out (by have := Ba.out; rw [ab_of Ha0.out] at this; exact this) HiK.out Hs.out.1 Hs.out.2.1)
      rw [hj1]
      clear hj1 hj0
      go_wp2
      have B2 : Hid (ab ((s + (2 ^ i))) < pw 42) := ab_addB Bs.out Bp.out (by omega) (by omega)
      have hlast := X6.lt
      have hp : (plan [Fc.num s, Fc.sl 1 [1], Fc.is (.int .i64 (i : Int)), Fc.sz (2 ^ i), Fc.num (2 ^ i), Fc.num (s + (2 ^ i)), Fc.any, Fc.any] [(w.heap.size, 1000, a, a), ((w.heap.size + 1), 1001, 0, 0), (g6, 1002, s, s)] [(6, 7, (s + (2 ^ i)))]).Ok w.heap.size wr.heap.size := plan_ok (by simp; omega) (by simp; try omega) (by simp) (by omega)
      have hm := PMono.of hp
      refine region_steps (p := (plan [Fc.num s, Fc.sl 1 [1], Fc.is (.int .i64 (i : Int)), Fc.sz (2 ^ i), Fc.num (2 ^ i), Fc.num (s + (2 ^ i)), Fc.any, Fc.any] [(w.heap.size, 1000, a, a), ((w.heap.size + 1), 1001, 0, 0), (g6, 1002, s, s)] [(6, 7, (s + (2 ^ i)))])) (B := w.heap.size) (B0 := wr.heap.size) (w0 := w) (by kernel_rfl) rfl rfl (plan_start (by simp; exact ⟨XA, X4, X6⟩) HB) ⟨?_, ?_, ?_, ?_, ?_, ?_, ?_, ?_, trivial⟩ ?_
      · exact st_load (b := g6) (k := 1002) (z := s) (z' := s) hp (by simp [plan]) (.inl rfl) rfl rfl (fun v w h => h) ⟨by simp [plan], by simp [plan]⟩
      · exact stg_run hm ⟨by simp [plan], by simp [plan]⟩ trivial (fun L vs W hG hd => ⟨.slice (some ⟨W.heap.size, 0, none⟩) 1 1, W.alloc (.cells #[.int .u32 1] 63), by simp [execOp, go_sem], alloc_below _ _, ⟨_, _, rfl, one_sl W _ rfl⟩⟩)
      · exact g_move hm ⟨by simp [plan], by simp [plan]⟩ trivial (src_out rfl rfl (fun _ _ => rfl))
      · exact g_call2 (F := (Fc.sl 1 [1]).P) (G := fun v _ => v = .int .i64 (i : Int)) hm ⟨by simp [plan], by simp [plan]⟩ trivial enter_rleft (src_in 1 rfl rfl (by simp) rfl (fun v w h => h)) (src_in 2 rfl rfl (by simp) rfl (fun v w h => h)) (fun v v' w h h' => by obtain ⟨ao, c, rfl, hS⟩ := h; subst h'; exact exLeft i (by have := Hi.out; omega) hS)
      · exact g_call2 (F := fun v _ => v = .bool false) (G := (Fc.sz (2 ^ i)).P) hm ⟨by simp [plan], by simp [plan]⟩ trivial enter_made (src_const (fun _ => rfl)) (src_in 3 rfl rfl (by simp) rfl (fun v w h => h)) (fun v v' w h h' => by subst h; exact exMadeSz h' Bp.out (by omega))
      · exact g_call2 (F := (Fc.num s).P) (G := (Fc.num (2 ^ i)).P) hm ⟨by simp [plan], by simp [plan]⟩ trivial enter_rAdd (src_in 0 rfl rfl (by simp) rfl (fun v w h => h)) (src_in 4 rfl rfl (by simp) rfl (fun v w h => h)) (fun v v' w h h' => exK (RAddV h h') B2.out (by omega))
      · exact st_alloc (k := 7) (z := (s + (2 ^ i))) hp (by simp [plan]) rfl (fun _ _ => trivial) (by simp [plan]) (by simp [plan])
      · exact st_storeNew (i0 := 6) (j := 5) (z := (s + (2 ^ i))) hp rfl (by simp [plan]) rfl (by simp) rfl rfl (by simp) rfl (fun v w h => h) (fun _ _ => trivial) (by simp [plan]) (by simp [plan])
      intro L vs w3 hL hG
      replace XA : BoxNum w3 w.heap.size a := by have := hG.old (w.heap.size, 1000, a, a) (by simp [plan]); simpa using this
      replace X4 : BoxNum w3 (w.heap.size + 1) 0 := by have := hG.old ((w.heap.size + 1), 1001, 0, 0) (by simp [plan]); simpa using this
      replace X6 : BoxNum w3 g6 s := by have := hG.old (g6, 1002, s, s) (by simp [plan]); simpa using this
      have e2 : vs 2 = .int .i64 (i : Int) := hG.val 2 (hL 2 (by simp))
      obtain ⟨g8, e6, hgl8, x6⟩ := hG.new (6, 7, (s + (2 ^ i))) (by simp [plan]) (hL 6 (by simp))
      have hlt8 : g6 < g8 := Nat.lt_of_lt_of_le hlast hgl8
      have X8 : BoxNum w3 g8 (s + (2 ^ i)) := by have h := x6; simp only [hL 7 (by simp), if_true] at h; exact h
      replace HB := hG.below
      rw [lay_all hL]
      simp only [putAll, dstOf, List.length_cons, List.length_nil, Nat.zero_add, Nat.reduceAdd, List.getElem?_toArray, List.getElem?_cons_zero, List.getElem?_cons_succ, Option.bind_some, Act.put, List.setIfInBounds_toArray, List.set_cons_succ, List.set_cons_zero]
      rw [e2, e6]
      generalize vs 0 = u3_0
      generalize vs 1 = u3_1
      generalize vs 3 = u3_3
      generalize vs 4 = u3_4
      generalize vs 5 = u3_5
      clear hG hm hp hL hlast vs L e2 e6 x6
      have HBD := hidd (pow_bd (z := (s + (2 ^ i))) (n := K) (Int.lt_of_lt_of_le B2.out (pw_le (by omega))) Hroom.out)
      have hKb : K ≤ 1000000 := by have h1 := bits_le_pw (K := 40) (by have := Ba.out; rw [ab_of Ha0.out] at this; exact this) Hm.out; have := HKM.out; omega
      have HKb := hidd hKb
      clear hKb
      by_cases hle : ((s + (2 ^ i)) ^ K) ≤ a
      · have HC : Hid (cmpI ((s + (2 ^ i)) ^ K) a ≤ 0) := by show cmpI _ _ ≤ 0; unfold cmpI; split; omega; split <;> omega
        have HLE := hidd hle
        clear hle
        go_wp2
        have hlast := X8.lt
        have hp : (plan [Fc.num (s + (2 ^ i)), Fc.is (.int .i64 (K : Int)), Fc.num ((s + (2 ^ i)) ^ K), Fc.num a, Fc.is (.int .i64 (cmpI ((s + (2 ^ i)) ^ K) a)), Fc.is (.bool true)] [(w.heap.size, 1000, a, a), ((w.heap.size + 1), 1001, 0, 0), (g6, 1002, s, s), (g8, 1003, (s + (2 ^ i)), (s + (2 ^ i)))] []).Ok w.heap.size w3.heap.size := plan_ok (by simp; omega) (by simp; try omega) (by simp) (by omega)
        have hm := PMono.of hp
        refine region_steps (p := (plan [Fc.num (s + (2 ^ i)), Fc.is (.int .i64 (K : Int)), Fc.num ((s + (2 ^ i)) ^ K), Fc.num a, Fc.is (.int .i64 (cmpI ((s + (2 ^ i)) ^ K) a)), Fc.is (.bool true)] [(w.heap.size, 1000, a, a), ((w.heap.size + 1), 1001, 0, 0), (g6, 1002, s, s), (g8, 1003, (s + (2 ^ i)), (s + (2 ^ i)))] [])) (B := w.heap.size) (B0 := w3.heap.size) (w0 := w) (by kernel_rfl) rfl rfl (plan_start (by simp; exact ⟨XA, X4, X6, X8⟩) HB) ⟨?_, ?_, ?_, ?_, ?_, ?_, trivial⟩ ?_
        · exact st_load (b := g8) (k := 1003) (z := (s + (2 ^ i))) (z' := (s + (2 ^ i))) hp (by simp [plan]) (.inl rfl) rfl rfl (fun v w h => h) ⟨by simp [plan], by simp [plan]⟩
        · exact g_move hm ⟨by simp [plan], by simp [plan]⟩ trivial (src_out rfl rfl (fun _ _ => rfl))
        · exact g_call2 (F := (Fc.num (s + (2 ^ i))).P) (G := fun v _ => v = .int .i64 (K : Int)) hm ⟨by simp [plan], by simp [plan]⟩ trivial enter_rPower (src_in 0 rfl rfl (by simp) rfl (fun v w h => h)) (src_in 1 rfl rfl (by simp) rfl (fun v w h => h)) (fun v v' w h h' => by subst h'; exact exK (RPowerV h K HKb.out HBD.out (by omega)) (HBD.out K (by omega)) (by omega))
        · exact st_load (b := w.heap.size) (k := 1000) (z := a) (z' := a) hp (by simp [plan]) (.inl rfl) rfl rfl (fun v w h => h) ⟨by simp [plan], by simp [plan]⟩
        · exact g_call2 (F := (Fc.num ((s + (2 ^ i)) ^ K)).P) (G := (Fc.num a).P) hm ⟨by simp [plan], by simp [plan]⟩ trivial enter_rCmp' (src_in 2 rfl rfl (by simp) rfl (fun v w h => h)) (src_in 3 rfl rfl (by simp) rfl (fun v w h => h)) (fun v v' w h h' => exRCmp' h h')
        · exact g_one (F := fun v _ => v = .int .i64 (cmpI ((s + (2 ^ i)) ^ K) a)) hm ⟨by simp [plan], by simp [plan]⟩ trivial (src_in 4 rfl rfl (by simp) rfl (fun v w h => h)) (fun ρ w hc h => ⟨.bool true, by simp [execOp, go_sem, h, hc, HC.out], rfl⟩)
        intro L vs w4 hL hG
        replace XA : BoxNum w4 w.heap.size a := by have := hG.old (w.heap.size, 1000, a, a) (by simp [plan]); simpa using this
        replace X4 : BoxNum w4 (w.heap.size + 1) 0 := by have := hG.old ((w.heap.size + 1), 1001, 0, 0) (by simp [plan]); simpa using this
        replace X6 : BoxNum w4 g6 s := by have := hG.old (g6, 1002, s, s) (by simp [plan]); simpa using this
        replace X8 : BoxNum w4 g8 (s + (2 ^ i)) := by have := hG.old (g8, 1003, (s + (2 ^ i)), (s + (2 ^ i))) (by simp [plan]); simpa using this
        have e1 : vs 1 = .int .i64 (K : Int) := hG.val 1 (hL 1 (by simp))
        have e4 : vs 4 = .int .i64 (cmpI ((s + (2 ^ i)) ^ K) a) := hG.val 4 (hL 4 (by simp))
        have e5 : vs 5 = .bool true := hG.val 5 (hL 5 (by simp))
        replace HB := hG.below
        rw [lay_all hL]
        simp only [putAll, dstOf, List.length_cons, List.length_nil, Nat.zero_add, Nat.reduceAdd, List.getElem?_toArray, List.getElem?_cons_zero, List.getElem?_cons_succ, Option.bind_some, Act.put, List.setIfInBounds_toArray, List.set_cons_succ, List.set_cons_zero]
        rw [e1, e4, e5]
        generalize vs 0 = u4_0
        generalize vs 2 = u4_2
        generalize vs 3 = u4_3
        clear hG hm hp hL hlast vs L e1 e4 e5
        go_upto_region 13 with (fail)
        obtain ⟨ne, aoe, kke, cce, ⟨e0, e1, e2, e3⟩, hNe⟩ := id X8
        obtain ⟨nc, aoc, kkc, ccc, ⟨c0, c1, c2, c3⟩, hNc⟩ := id X6
        go_wp2
        obtain ⟨w6, hw6⟩ : ∃ w1, w1 = putBox w4 g6 ne aoe kke cce := ⟨_, rfl⟩
        rw [show (w4.setCell ⟨g6, 0, none⟩ (.bool ne)).setCell ⟨g6, 1, none⟩ (.slice aoe kke cce) = w6 from hw6.symm]
        have YA : BoxNum w6 w.heap.size a := by rw [hw6]; exact XA.putOther X6 (by omega) _ _ _ _
        have Y4 : BoxNum w6 (w.heap.size + 1) 0 := by rw [hw6]; exact X4.putOther X6 (by omega) _ _ _ _
        have Y8 : BoxNum w6 g8 (s + (2 ^ i)) := by rw [hw6]; exact X8.putOther X6 (by omega) _ _ _ _
        replace HB : Below w.heap.size w w6 := by rw [hw6]; exact belowPut HB (by omega) _ _ _ _
        have Y6 : BoxNum w6 g6 (s + (2 ^ i)) := by rw [hw6]; exact X6.putSame hNe
        replace XA := YA
        replace X4 := Y4
        replace X6 := Y6
        replace X8 := Y8
        clear YA Y4 Y6 Y8
        clear hw6
        clear e0 e1 e2 e3 hNe c0 c1 c2 c3 hNc
        go_roundw
        case rel => exact ⟨i, (s + (2 ^ i)), by omega, by go_num, ⟨by have := Hs.out.1; have := pow_two_pos i; omega, HLE.out, by rw [show (s + (2 ^ i)) + 2 ^ i = s + 2 ^ (i + 1) by rw [pow_two_succ]; omega]; exact Hs.out.2.2⟩, XA, X4, X6, HB⟩
        case measure => simp [intOf]
      · have HC : Hid (¬ cmpI ((s + (2 ^ i)) ^ K) a ≤ 0) := by show ¬ cmpI _ _ ≤ 0; unfold cmpI; rw [if_neg (by omega), if_neg (by omega)]; omega
        have HLE := hidd hle
        clear hle
        go_wp2
        have hlast := X8.lt
        have hp : (plan [Fc.num (s + (2 ^ i)), Fc.is (.int .i64 (K : Int)), Fc.num ((s + (2 ^ i)) ^ K), Fc.num a, Fc.is (.int .i64 (cmpI ((s + (2 ^ i)) ^ K) a)), Fc.is (.bool false)] [(w.heap.size, 1000, a, a), ((w.heap.size + 1), 1001, 0, 0), (g6, 1002, s, s), (g8, 1003, (s + (2 ^ i)), (s + (2 ^ i)))] []).Ok w.heap.size w3.heap.size := plan_ok (by simp; omega) (by simp; try omega) (by simp) (by omega)
        have hm := PMono.of hp
        refine region_steps (p := (plan [Fc.num (s + (2 ^ i)), Fc.is (.int .i64 (K : Int)), Fc.num ((s + (2 ^ i)) ^ K), Fc.num a, Fc.is (.int .i64 (cmpI ((s + (2 ^ i)) ^ K) a)), Fc.is (.bool false)] [(w.heap.size, 1000, a, a), ((w.heap.size + 1), 1001, 0, 0), (g6, 1002, s, s), (g8, 1003, (s + (2 ^ i)), (s + (2 ^ i)))] [])) (B := w.heap.size) (B0 := w3.heap.size) (w0 := w) (by kernel_rfl) rfl rfl (plan_start (by simp; exact ⟨XA, X4, X6, X8⟩) HB) ⟨?_, ?_, ?_, ?_, ?_, ?_, trivial⟩ ?_
        · exact st_load (b := g8) (k := 1003) (z := (s + (2 ^ i))) (z' := (s + (2 ^ i))) hp (by simp [plan]) (.inl rfl) rfl rfl (fun v w h => h) ⟨by simp [plan], by simp [plan]⟩
        · exact g_move hm ⟨by simp [plan], by simp [plan]⟩ trivial (src_out rfl rfl (fun _ _ => rfl))
        · exact g_call2 (F := (Fc.num (s + (2 ^ i))).P) (G := fun v _ => v = .int .i64 (K : Int)) hm ⟨by simp [plan], by simp [plan]⟩ trivial enter_rPower (src_in 0 rfl rfl (by simp) rfl (fun v w h => h)) (src_in 1 rfl rfl (by simp) rfl (fun v w h => h)) (fun v v' w h h' => by subst h'; exact exK (RPowerV h K HKb.out HBD.out (by omega)) (HBD.out K (by omega)) (by omega))
        · exact st_load (b := w.heap.size) (k := 1000) (z := a) (z' := a) hp (by simp [plan]) (.inl rfl) rfl rfl (fun v w h => h) ⟨by simp [plan], by simp [plan]⟩
        · exact g_call2 (F := (Fc.num ((s + (2 ^ i)) ^ K)).P) (G := (Fc.num a).P) hm ⟨by simp [plan], by simp [plan]⟩ trivial enter_rCmp' (src_in 2 rfl rfl (by simp) rfl (fun v w h => h)) (src_in 3 rfl rfl (by simp) rfl (fun v w h => h)) (fun v v' w h h' => exRCmp' h h')
        · exact g_one (F := fun v _ => v = .int .i64 (cmpI ((s + (2 ^ i)) ^ K) a)) hm ⟨by simp [plan], by simp [plan]⟩ trivial (src_in 4 rfl rfl (by simp) rfl (fun v w h => h)) (fun ρ w hc h => ⟨.bool false, by simp [execOp, go_sem, h, hc, HC.out], rfl⟩)
        intro L vs w7 hL hG
        replace XA : BoxNum w7 w.heap.size a := by have := hG.old (w.heap.size, 1000, a, a) (by simp [plan]); simpa using this
        replace X4 : BoxNum w7 (w.heap.size + 1) 0 := by have := hG.old ((w.heap.size + 1), 1001, 0, 0) (by simp [plan]); simpa using this
        replace X6 : BoxNum w7 g6 s := by have := hG.old (g6, 1002, s, s) (by simp [plan]); simpa using this
        replace X8 : BoxNum w7 g8 (s + (2 ^ i)) := by have := hG.old (g8, 1003, (s + (2 ^ i)), (s + (2 ^ i))) (by simp [plan]); simpa using this
        have e1 : vs 1 = .int .i64 (K : Int) := hG.val 1 (hL 1 (by simp))
        have e4 : vs 4 = .int .i64 (cmpI ((s + (2 ^ i)) ^ K) a) := hG.val 4 (hL 4 (by simp))
        have e5 : vs 5 = .bool false := hG.val 5 (hL 5 (by simp))
        replace HB := hG.below
        rw [lay_all hL]
        simp only [putAll, dstOf, List.length_cons, List.length_nil, Nat.zero_add, Nat.reduceAdd, List.getElem?_toArray, List.getElem?_cons_zero, List.getElem?_cons_succ, Option.bind_some, Act.put, List.setIfInBounds_toArray, List.set_cons_succ, List.set_cons_zero]
        rw [e1, e4, e5]
        generalize vs 0 = u7_0
        generalize vs 2 = u7_2
        generalize vs 3 = u7_3
        clear hG hm hp hL hlast vs L e1 e4 e5
        go_wp2
        go_roundw
        case rel => exact ⟨i, s, by omega, by go_num, ⟨Hs.out.1, Hs.out.2.1, by have := HLE.out; omega⟩, XA, X4, X6, HB⟩
        case measure => simp [intOf]
    · obtain rfl : j = 0 := by omega
      obtain ⟨ne, aoe, kke, cce, ⟨e0, e1, e2, e3⟩, hNe⟩ := id X6
      obtain ⟨nc, aoc, kkc, ccc, ⟨c0, c1, c2, c3⟩, hNc⟩ := id X4
      have hNf := hNe.putBox X4 ne aoe kke cce
      unfold putBox at hNf
      have hbS := (HB.setCell (p := ⟨w.heap.size + 1, 0, none⟩) (by show w.heap.size ≤ w.heap.size + 1; omega) (.bool ne)).setCell (p := ⟨w.heap.size + 1, 1, none⟩) (by show w.heap.size ≤ w.heap.size + 1; omega) (.slice aoe kke cce)
      go_wp2
      refine bodyPost_ret (v := .tuple #[.agg #[.bool ne, .slice aoe kke cce], .int .i64 0]) ?_ rfl ⟨hbS, .inr ⟨⟨Ha0.out, by have := HKp.out; omega⟩, _, _, rfl, hNf.isInt, by rw [Int.toNat_natCast]; exact ⟨Hs.out.1, Hs.out.2.1, by have h1 := Hs.out.2.2; rw [Int.pow_zero] at h1; exact h1⟩⟩⟩
      simp [results, Try.results38, go_sem, c0, c1]

end Go.Proofs.Ytplpammfbljaoaa
