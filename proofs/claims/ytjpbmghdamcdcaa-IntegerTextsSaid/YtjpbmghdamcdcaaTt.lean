/- Walk: the text of an integer. -/
import Derived.Test.YtjpbmghdamcdcaaCv
import Derived.Test.YtjpbmghdamcdcaaTx
namespace Go.Proofs.Ytjpbmghdamcdcaa
open Go Go.RowKit

theorem decs_long : ∀ (k n : Nat), 10 ^ k ≤ n → k < (decs n).length
  | 0, n, h => by
    rw [decs_pos (by simp at h; omega), List.length_cons]; omega
  | k + 1, n, h => by
    have hp : 0 < 10 ^ (k + 1) := Nat.pow_pos (by omega)
    rw [decs_pos (by omega), List.length_cons]
    have := decs_long k (n / 10) (by rw [Nat.pow_succ] at h; omega)
    omega

/-- The text is longer than a text may be. -/
def textBig (z : Int) : Bool := decide (1300 < (intText z).length)

theorem ten_two (k : Nat) : 10 ^ (59 * k + 2) ≤ 2 ^ (196 * k + 7) := by
  rw [Nat.pow_add, Nat.pow_add, Nat.pow_mul, Nat.pow_mul]
  exact Nat.mul_le_mul (Nat.pow_le_pow_left (by decide) k) (by decide)

theorem big_bits {N m : Nat} (h : 2 ^ m ≤ N) (hm : 4319 ≤ m) : 1300 < (sizeText N).length := by
  obtain ⟨k, hk⟩ : ∃ k : Nat, k = 22 := ⟨_, rfl⟩
  have h1 : 2 ^ (196 * k + 7) ≤ 2 ^ m := Nat.pow_le_pow_right (by omega) (by omega)
  have h2 := ten_two k
  have h3 := decs_long (59 * k + 2) N (Nat.le_trans h2 (Nat.le_trans h1 h))
  have h4 : N ≠ 0 := by
    have : 0 < 2 ^ m := Nat.pow_pos (by omega)
    omega
  unfold sizeText
  rw [if_neg h4, List.length_reverse]
  omega

theorem sizeText_le (n k : Nat) (h : (decs n).length ≤ k) (hk : 1 ≤ k) : (sizeText n).length ≤ k := by
  unfold sizeText
  split
  · simpa using hk
  · simpa using h

theorem abs_sgn {neg : Bool} {v : Int} (h : 0 ≤ v) : (sgn neg v).natAbs = v.toNat := by
  cases neg <;> simp [sgn] <;> omega

/-- The value and the error that Text returns. -/
def textOf (z : Int) : Value := .tuple #[.string (if textBig z then ByteArray.empty else bytesOf (intText z)), .int .i64 (if textBig z then 2 else 0)]

theorem textOf_big {z : Int} (h : 1300 < (intText z).length) : textOf z = .tuple #[.string { data := #[] }, .int .i64 2] := by
  have : textBig z = true := decide_eq_true h
  simp only [textOf, this, if_true]; rfl

theorem textOf_ok {z : Int} (h : (intText z).length ≤ 1300) : textOf z = .tuple #[.string (bytesOf (intText z)), .int .i64 0] := by
  have : textBig z = false := decide_eq_false (by omega)
  simp [textOf, this]

set_option maxHeartbeats 1000000 in
theorem TextV (w : World) {v : Value} {z : Int} (h : Num w v z) : Calls Try.prog 46 #[v] w fun e w' => e = .returned (textOf z) ∧ Below w.heap.size w w' := by
  have hN := h
  obtain ⟨neg, ao, n, c, xs, rfl, hs, hn, hz, hc, hnn⟩ := h
  have hv0 := val_nonneg hs.digs
  have HZ := hidd hz
  have HN := hidd (abs_sgn (neg := neg) hv0)
  have HC := hidd hc
  have hdl := decs_val_len hs.digs
  rw [hs.len] at hdl
  have HST := hidd (sizeText_le (val xs).toNat 10000000 (by omega) (by omega))
  clear hz hc hdl
  go_enter Try.func46, Try.ntmps46
  go_upto_region 1 with (fail)
  obtain ⟨w0, hw0, hC, hCb⟩ : ∃ w0, w0 = w.alloc (.cells #[.bool neg, .slice ao n c] 27) ∧ IntBox w0 w.heap.size (.bool neg) (.slice ao n c) ∧ Below w.heap.size w w0 := ⟨_, rfl, IntBox.new _ _ _ _, alloc_below _ _⟩
  rw [← hw0]
  clear hw0
  obtain ⟨c0, c1, c2, c3⟩ := hC
  go_wp2_with fail
  refine (trim_any _ _ _ _ _ (hs.mono hCb) (by omega)).mono ?_
  rintro e w1 ⟨m, rfl, hm, hs1, hv1, hc1, rfl⟩
  have he : xs.take m = xs := Canon.inj hc1 HC.out hv1
  rw [he] at hs1
  clear he hv1 hc1
  go_wp2_with fail
  refine (bits_any _ _ _ _ _ hs1 HC.out (by omega)).mono ?_
  rintro e w1 ⟨b, rfl, hbits, hb32, rfl⟩
  have HB := hidd hbits
  clear hbits
  by_cases hbig : 4319 < b
  · go_wp2
    refine bodyPost_ret (v := textOf z) ?_ rfl ⟨rfl, hCb⟩
    rw [textOf_big]
    · simp [results, Try.results46, go_sem]
    · have h1 : 2 ^ (b - 1) ≤ (val xs).toNat := by
        rcases HB.out with ⟨_, h⟩ | ⟨_, h, _⟩
        · omega
        · have e : ((2 ^ (b - 1) : Nat) : Int) = 2 ^ (b - 1) := by simp
          omega
      have h2 := big_bits h1 (by omega)
      rw [HZ.out]
      unfold intText
      rw [HN.out]
      split
      · simp only [List.length_cons]; omega
      · exact h2
  · go_wp2_with fail
    refine (digits_any _ _ _ _ _ hs1 HC.out (by omega)).mono ?_
    rintro e w2 ⟨rfl, hb2⟩
    have hC2 := (IntBox.mono (W := w0) ⟨c0, c1, c2, c3⟩ hb2 (World.block_lt_of_cell? _ _ c0))
    have hb3 := hCb.trans (hb2.mono hCb.size)
    have hN2 := hN.mono hb3
    clear c0 c1 c2 c3
    obtain ⟨c0, c1, c2, c3⟩ := hC2
    obtain ⟨T, hT⟩ : ∃ T, T = sizeText (val xs).toNat := ⟨_, rfl⟩
    rw [← hT]
    have hl : T.length ≤ 10000000 := by rw [hT]; exact HST.out
    have HT := hidd hT
    clear hT
    obtain ⟨B, hB⟩ : ∃ B, B = bytesOf T := ⟨_, rfl⟩
    have hBs : B.size ≤ 10000000 := by rw [hB, bytesOf_size]; exact hl
    have HBS := hidd (show B.size = T.length by rw [hB, bytesOf_size])
    rw [← hB]
    have HBB := hidd hB
    clear hB
    go_wp2_with fail
    refine (SignV hN2).mono ?_
    rintro e w3 ⟨rfl, hb4⟩
    have hb5 := hb3.trans (hb4.mono hb3.size)
    have hlen : (intText z).length = (if z < 0 then 1 else 0) + T.length := by
      rw [HT.out, HZ.out]
      unfold intText
      rw [HN.out]
      split
      · simp only [List.length_cons]; omega
      · omega
    have hbytes : bytesOf (intText z) = if z < 0 then (⟨#[45]⟩ : ByteArray) ++ B else B := by
      have e : intText z = if z < 0 then 45 :: T else T := by
        rw [HT.out, HZ.out]
        unfold intText
        rw [HN.out]
      rw [e, HBB.out]
      split
      · rw [show (⟨#[45]⟩ : ByteArray) = bytesOf [45] from rfl, bytesOf_append]; rfl
      · rfl
    have HLE := hidd hlen
    have HBY := hidd hbytes
    clear hlen hbytes
    by_cases hz : z < 0
    · have hcm : cmpI z 0 = -1 := if_pos hz
      have HLZ := hidd (show (intText z).length = 1 + T.length by rw [HLE.out, if_pos hz])
      have HBZ := hidd (show bytesOf (intText z) = (⟨#[45]⟩ : ByteArray) ++ B by rw [HBY.out, if_pos hz])
      by_cases hlong : 1299 < B.size
      · go_wp2
        refine bodyPost_ret (v := textOf z) ?_ rfl ⟨rfl, hb5⟩
        rw [textOf_big (by rw [HLZ.out, ← HBS.out]; omega)]
        simp [results, Try.results46, go_sem]
      · go_wp2
        refine bodyPost_ret (v := textOf z) ?_ rfl ⟨rfl, hb5⟩
        rw [textOf_ok (by rw [HLZ.out, ← HBS.out]; omega), HBZ.out]
        simp [results, Try.results46, go_sem]
    · have hcm : ¬ cmpI z 0 < 0 := by unfold cmpI; split <;> (try split) <;> omega
      have HLZ := hidd (show (intText z).length = T.length by rw [HLE.out, if_neg hz]; omega)
      have HBZ := hidd (show bytesOf (intText z) = B by rw [HBY.out, if_neg hz])
      by_cases hlong : 1300 < B.size
      · go_wp2
        refine bodyPost_ret (v := textOf z) ?_ rfl ⟨rfl, hb5⟩
        rw [textOf_big (by rw [HLZ.out, ← HBS.out]; omega)]
        simp [results, Try.results46, go_sem]
      · go_wp2
        refine bodyPost_ret (v := textOf z) ?_ rfl ⟨rfl, hb5⟩
        rw [textOf_ok (by rw [HLZ.out, ← HBS.out]; omega), HBZ.out]
        simp [results, Try.results46, go_sem]

end Go.Proofs.Ytjpbmghdamcdcaa
