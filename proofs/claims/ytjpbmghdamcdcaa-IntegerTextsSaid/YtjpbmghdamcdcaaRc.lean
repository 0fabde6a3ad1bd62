/- Walks of the reference: Neg, Abs, Sign, Cmp. Walks of the reference: word, plus, minus. Walks of the reference: Bits, left. Walks of the reference: reaches, take, half. -/
import Derived.Test.YtjpbmghdamcdcaaCv
import Derived.Test.YtjpbmghdamcdcaaMd
import Derived.Test.YtjpbmghdamcdcaaTx
namespace Go.Proofs.Ytjpbmghdamcdcaa
open Go Go.RowKit

set_option maxHeartbeats 1000000 in
theorem rNeg_any (w : World) (na : Bool) (ax : Option Addr) (n cx : Nat) (xs : List Int) (hX : Sl w ax n cx xs) (hb1 : n ≤ 4000000) :
    Calls Try.prog 26 #[.agg #[.bool na, .slice ax n cx]] w (GivesInt w (-sgn na (val xs))) := by
  go_enter Try.func26, Try.ntmps26
  obtain ⟨w0, hw0, hA, hC, hbl, HS⟩ := boxes2 w (.bool na) (.slice ax n cx) 27
  have hX0 := hX.mono hbl
  obtain ⟨ca0, ca1, _, _⟩ := hA
  go_wp2_with fail
  rw [← hw0]
  clear hw0
  refine (made_any _ _ _ _ _ _ hX0 (by omega)).mono ?_
  rintro e w3 ⟨v, rfl, ⟨ng, ao, nn, cc, rs, rfl, hrs, hrc, hrn, hrz⟩, hb3⟩
  obtain ⟨e0, e1, e2, e3⟩ := hC.mono hb3 hC.lt
  have hb4 : Below w.heap.size w w3 := hbl.trans (hb3.mono hbl.size)
  have hz : -sgn na (val xs) = sgn ng (val rs) := by rw [← hrz, sgn_not]
  have HZ := hidd hz
  clear hrz hz
  go_wp2
  refine bodyPost_ret (v := .agg #[.bool ng, .slice ao nn cc]) ?_ rfl ?_
  · simp [results, Try.results26, go_sem, e0, e1]
  · exact gives_store ⟨e0, e1, e2, e3⟩ hrs hrc hrn HZ.out hb4 (by omega)

set_option maxHeartbeats 1000000 in
theorem rAbs_any (w : World) (na : Bool) (ax : Option Addr) (n cx : Nat) (xs : List Int) (hX : Sl w ax n cx xs) (hb1 : n ≤ 4000000) :
    Calls Try.prog 28 #[.agg #[.bool na, .slice ax n cx]] w (GivesInt w (val xs)) := by
  go_enter Try.func28, Try.ntmps28
  obtain ⟨w0, hw0, hA, hC, hbl, HS⟩ := boxes2 w (.bool na) (.slice ax n cx) 27
  have hX0 := hX.mono hbl
  obtain ⟨ca0, ca1, _, _⟩ := hA
  go_wp2_with fail
  rw [← hw0]
  clear hw0
  refine (made_any _ _ _ _ _ _ hX0 (by omega)).mono ?_
  rintro e w3 ⟨v, rfl, ⟨ng, ao, nn, cc, rs, rfl, hrs, hrc, hrn, hrz⟩, hb3⟩
  obtain ⟨e0, e1, e2, e3⟩ := hC.mono hb3 hC.lt
  have hb4 : Below w.heap.size w w3 := hbl.trans (hb3.mono hbl.size)
  have hz : val xs = sgn ng (val rs) := by rw [← hrz]; rfl
  have HZ := hidd hz
  clear hrz hz
  go_wp2
  refine bodyPost_ret (v := .agg #[.bool ng, .slice ao nn cc]) ?_ rfl ?_
  · simp [results, Try.results28, go_sem, e0, e1]
  · exact gives_store ⟨e0, e1, e2, e3⟩ hrs hrc hrn HZ.out hb4 (by omega)

theorem RNegV {w : World} {v : Value} {z : Int} (h : Num w v z) : Calls Try.prog 26 #[v] w (GivesInt w (-z)) := by
  obtain ⟨neg, ao, n, c, xs, rfl, hs, hn, rfl, _⟩ := h
  exact rNeg_any _ _ _ _ _ _ hs (by omega)

theorem sgn_absR (b : Bool) {v : Int} (h : 0 ≤ v) : ((sgn b v).natAbs : Int) = v := by cases b <;> simp [sgn] <;> omega

theorem RAbsV {w : World} {v : Value} {z : Int} (h : Num w v z) : Calls Try.prog 28 #[v] w (GivesInt w (z.natAbs : Int)) := by
  obtain ⟨neg, ao, n, c, xs, rfl, hs, hn, rfl, _⟩ := h
  rw [sgn_absR _ (val_nonneg hs.digs)]
  exact rAbs_any _ _ _ _ _ _ hs (by omega)

/-- A canonical number's sign and size. -/
theorem Num.sign {w : World} {n : Bool} {ao : Option Addr} {k c : Nat} {z : Int} (h : Num w (.agg #[.bool n, .slice ao k c]) z) : ∃ xs, Sl w ao k c xs ∧ Canon xs ∧ k ≤ 900000 ∧ z = sgn n (val xs) ∧ 0 ≤ val xs ∧ (k = 0 ↔ z = 0) ∧ (n = true → z < 0) ∧ (n = false → 0 ≤ z) := by
  obtain ⟨neg, ao', k', c', xs, hv, hs, hn, hz, hc, hnn⟩ := h
  obtain ⟨rfl, rfl, rfl, rfl⟩ : n = neg ∧ ao = ao' ∧ k = k' ∧ c = c' := by
    simp at hv; exact ⟨hv.1, hv.2.1, hv.2.2.1, hv.2.2.2⟩
  have h0 := val_nonneg hs.digs
  have h1 := hc.zero
  rw [hs.len] at h1
  refine ⟨xs, hs, hc, hn, hz, h0, ?_, ?_, ?_⟩
  · rw [h1, hz]; cases n <;> simp [sgn]
  · rintro rfl
    have h2 : val xs ≠ 0 := fun h => hnn rfl (h1.2 h)
    rw [hz]; simp [sgn]; omega
  · rintro rfl
    rw [hz]; simp [sgn]; exact h0

set_option maxHeartbeats 1000000 in
theorem RSignV {w : World} {v : Value} {z : Int} (h : Num w v z) : Calls Try.prog 32 #[v] w fun e w' => e = .returned (.int .i64 (cmpI z 0)) ∧ Below w.heap.size w w' := by
  obtain ⟨n, ao, k, c, rfl⟩ := h.parts
  obtain ⟨xs, hs, hc, hk, hz, h0, hkz, hneg, hpos⟩ := h.sign
  by_cases hk0 : k = 0
  · have HV : Hid (cmpI z 0 = 0) := by
      have := hkz.1 hk0
      show cmpI z 0 = 0
      rw [this]; rfl
    subst hk0
    clear hkz hneg hpos hz h
    go_enter Try.func32, Try.ntmps32
    go_wp2
    go_ret
    exact ⟨by rw [HV.out]; rfl, alloc_below _ _⟩
  · have hk1 : ((k : Int) == 0) = false := by simp; omega
    have hz0 : z ≠ 0 := fun h => hk0 (hkz.2 h)
    cases n
    · have HV : Hid (cmpI z 0 = 1) := by
        have := hpos rfl
        show cmpI z 0 = 1
        unfold cmpI; rw [if_neg (by omega), if_neg hz0]
      clear hkz hneg hpos hz h hz0 hk0
      go_enter Try.func32, Try.ntmps32
      go_wp2
      go_ret
      exact ⟨by rw [HV.out]; rfl, alloc_below _ _⟩
    · have HV : Hid (cmpI z 0 = -1) := by
        have := hneg rfl
        show cmpI z 0 = -1
        unfold cmpI; rw [if_pos this]
      clear hkz hneg hpos hz h hz0 hk0
      go_enter Try.func32, Try.ntmps32
      go_wp2
      go_ret
      exact ⟨by rw [HV.out]; rfl, alloc_below _ _⟩

set_option maxHeartbeats 1000000 in
theorem RCmpV {w : World} {v v' : Value} {z z' : Int} (h : Num w v z) (h' : Num w v' z') : Calls Try.prog 30 #[v, v'] w fun e w' => e = .returned (.int .i64 (cmpI z z')) ∧ Below w.heap.size w w' := by
  obtain ⟨n, ao, k, c, rfl⟩ := h.parts
  obtain ⟨n', ao', k', c', rfl⟩ := h'.parts
  obtain ⟨xs, hs, hc, hk, hz, h0, hkz, hneg, hpos⟩ := h.sign
  obtain ⟨ys, hs', hc', hk', hz', h0', hkz', hneg', hpos'⟩ := h'.sign
  obtain ⟨w0, hw0, hbl, hsz⟩ : ∃ w0, w0 = (w.alloc (.cells #[.bool n, .slice ao k c] 27)).alloc (.cells #[.bool n', .slice ao' k' c'] 27) ∧ Below w.heap.size w w0 ∧ w0.heap.size = w.heap.size + 2 :=
    ⟨_, rfl, (alloc_below _ _).trans ((alloc_below _ _).mono (by simp)), by simp⟩
  have hX := hs.mono hbl
  have hY := hs'.mono hbl
  cases n <;> cases n'
  · have HV : Hid (cmpI (val xs) (val ys) = cmpI z z') := by
      show _ = _
      rw [hz, hz']; rfl
    clear hkz hneg hpos hz h hkz' hneg' hpos' hz' h'
    go_enter Try.func30, Try.ntmps30
    go_wp2_with fail
    rw [← hw0]
    clear hw0
    refine (size_any _ _ _ _ _ _ _ _ _ hX hY hc hc' (by omega) (by omega)).mono ?_
    rintro e w2 ⟨rfl, hd⟩
    go_wp2
    go_ret
    exact ⟨by rw [HV.out]; rfl, hbl.trans (hd.below _)⟩
  · have HV : Hid (cmpI z z' = 1) := by
      have h1 := hpos rfl
      have h2 := hneg' rfl
      show _ = _
      unfold cmpI; rw [if_neg (by omega), if_neg (by omega)]
    clear hkz hneg hpos hz h hkz' hneg' hpos' hz' h'
    go_enter Try.func30, Try.ntmps30
    go_wp2
    rw [← hw0]
    go_ret
    exact ⟨by rw [HV.out]; rfl, hbl⟩
  · have HV : Hid (cmpI z z' = -1) := by
      have h1 := hneg rfl
      have h2 := hpos' rfl
      show _ = _
      unfold cmpI; rw [if_pos (by omega)]
    clear hkz hneg hpos hz h hkz' hneg' hpos' hz' h'
    go_enter Try.func30, Try.ntmps30
    go_wp2
    rw [← hw0]
    go_ret
    exact ⟨by rw [HV.out]; rfl, hbl⟩
  · have HV : Hid (cmpI (val ys) (val xs) = cmpI z z') := by
      show _ = _
      rw [hz, hz']
      simp only [sgn, if_true]
      unfold cmpI
      split <;> split <;> (try split) <;> omega
    clear hkz hneg hpos hz h hkz' hneg' hpos' hz' h'
    go_enter Try.func30, Try.ntmps30
    go_wp2_with fail
    rw [← hw0]
    clear hw0
    refine (size_any _ _ _ _ _ _ _ _ _ hY hX hc' hc (by omega) (by omega)).mono ?_
    rintro e w2 ⟨rfl, hd⟩
    go_wp2
    go_ret
    exact ⟨by rw [HV.out]; rfl, hbl.trans (hd.below _)⟩

end Go.Proofs.Ytjpbmghdamcdcaa

namespace Go.Proofs.Ytjpbmghdamcdcaa
open Go Go.RowKit

theorem word_any (w : World) (ax : Option Addr) (n c : Nat) (xs : List Int) (hX : Sl w ax n c xs) (_ : n ≤ 4000000) (k : Nat) (_ : k ≤ 9000000) (x : Int) (hx : xs.getD k 0 = x) :
    Calls Try.prog 79 #[.slice ax n c, .int .i64 k] w fun e w' => e = .returned (.int .u64 x) ∧ w = w' := by
  have hl := hX.len
  by_cases h : k < n
  · obtain ⟨b, off, rfl, hbl, x', hxc, hx0, hx1, HX⟩ := hX.cells.at (k := k) (by omega)
    rw [HX.out] at hx
    subst hx
    have h1 : decide ((k : Int) ≥ (n : Int)) = false := by simp; omega
    have h2 : ¬ ((k : Int) < 0) := by omega
    clear hl
    go_enter Try.func79, Try.ntmps79
    go_wp2
    go_ret
    exact ⟨rfl, rfl⟩
  · have h0 : x = 0 := by rw [← hx]; exact getD_out (by omega)
    subst h0
    have h1 : decide ((k : Int) ≥ (n : Int)) = true := by simp; omega
    clear hl hx hX
    go_enter Try.func79, Try.ntmps79
    go_wp2
    go_ret
    exact ⟨rfl, rfl⟩

theorem word_before (w : World) (ax : Option Addr) (n c : Nat) (k : Int) (_ : k < 0) (_ : -9000000 ≤ k) :
    Calls Try.prog 79 #[.slice ax n c, .int .i64 k] w fun e w' => e = .returned (.int .u64 0) ∧ w = w' := by
  go_enter Try.func79, Try.ntmps79
  go_wp2
  go_ret
  exact ⟨rfl, rfl⟩

/-- Words that a call has gathered in a row of its own. -/
def Ow (W : World) (B : Nat) (v : Value) (zs : List Int) : Prop := W.ownsRow B 63 1 v zs.length (zs.map (Value.int .u32)) ∧ Digs zs

theorem Ow.shape {W : World} {B : Nat} {v : Value} {zs : List Int} (h : Ow W B v zs) : ∃ ao cap, v = .slice ao zs.length cap := by
  rcases h.1.2 with ⟨rfl, h0⟩ | ⟨g, cap, cur, rfl, _⟩
  · exact ⟨none, 0, by rw [h0]⟩
  · exact ⟨_, _, rfl⟩

theorem Ow.start (w : World) : Ow (w.alloc (.cells #[] 63)) w.heap.size (.slice (some ⟨w.heap.size, 0, none⟩) 0 0) [] :=
  ⟨⟨rfl, .inr ⟨w.heap.size, 0, #[], rfl, Nat.le_refl _, heap_alloc_new _ _, Nat.le_refl _, Nat.zero_le _, rfl, rfl⟩⟩, fun _ h => by simp at h⟩

theorem Ow.sl {W : World} {B : Nat} {v : Value} {zs : List Int} (h : Ow W B v zs) : ∃ ao c, v = .slice ao zs.length c ∧ Sl W ao zs.length c zs := own_sl h.1 h.2

theorem Ow.step {w wr w1 : World} {v v' : Value} {zs : List Int} {d : Int} {o : Obj} (h : Ow wr w.heap.size v zs) (hnx : Below w.heap.size w wr) (hd0 : 0 ≤ d) (hd1 : d < 4294967296)
    (hown' : w1.ownsRow w.heap.size 63 1 v' (zs.length + 1) (zs.map (Value.int .u32) ++ [.int .u32 d])) (hgrow : (wr.alloc o).grownBy w1 v.ownBlock) :
    Ow w1 w.heap.size v' (zs ++ [d]) ∧ Below w.heap.size w w1 := by
  refine ⟨⟨by simpa using hown', fun y hy => ?_⟩, ?_⟩
  · rcases List.mem_append.1 hy with h1 | h1
    · exact h.2 y h1
    · simp at h1; subst h1; exact ⟨hd0, hd1⟩
  · have hs := hnx.size
    exact (hnx.alloc hs o).grown hgrow (by simp; omega) (fun j hj => (World.ownsRow.lt h.1 j hj).1)

theorem val_snoc (zs : List Int) (d : Int) : val (zs ++ [d]) = val zs + pw zs.length * d := by
  rw [val_append]
  show _ + _ * (d + 4294967296 * 0) = _
  rw [Int.mul_zero, Int.add_zero]

theorem plus_step {k : Nat} {zs xs ys : List Int} {q x y : Int} (hk : zs.length = k) (h : val zs + pw k * q = val (xs.take k) + val (ys.take k)) (hx : xs.getD k 0 = x) (hy : ys.getD k 0 = y) :
    val (zs ++ [(q + (x + y)) % 4294967296]) + pw (k + 1) * ((q + (x + y)) / 4294967296) = val (xs.take (k + 1)) + val (ys.take (k + 1)) := by
  rw [val_snoc, hk, val_take_succ, val_take_succ, hx, hy]
  have h1 := pw_split k (q + (x + y))
  rw [Int.mul_add, Int.mul_add] at h1
  omega

set_option maxHeartbeats 1000000 in
theorem plus_any (w : World) (ax ay : Option Addr) (n m cx cy : Nat) (xs ys : List Int) (hX : Sl w ax n cx xs) (hY : Sl w ay m cy ys) (hb1 : n ≤ 2000000) (hb2 : m ≤ 2000000) :
    Calls Try.prog 66 #[.slice ax n cx, .slice ay m cy] w fun e w' => ∃ ao c l zs, e = .returned (.slice ao l c) ∧ Sl w' ao l c zs ∧ l ≤ max n m + 1 ∧ val zs = val xs + val ys ∧ Below w.heap.size w w' := by
  obtain ⟨i0, hi, hz0, hz1, hz2⟩ := info_parts info_word
  obtain ⟨L, hL⟩ : ∃ L : Nat, L = max n m := ⟨_, rfl⟩
  have hL2 : (if n < m then (m : Int) else (n : Int)) = (L : Int) := by split <;> omega
  have hLb : L ≤ 2000000 := by omega
  have HL := hidd hL
  clear hL
  go_enter Try.func66, Try.ntmps66
  go_wp2
  go_loopw [5, 6, 7] (fun vo vc vi wr => ∃ (k : Nat) (q : Int) (zs : List Int), k ≤ L ∧ vi = .int .i64 k ∧ vc = .int .u64 q ∧ 0 ≤ q ∧ q ≤ 1 ∧ Ow wr w.heap.size vo zs ∧ zs.length = k ∧ val zs + pw k * q = val (xs.take k) + val (ys.take k) ∧ Below w.heap.size w wr) (fun _ _ vi _ => L - (intOf vi).toNat)
  case atStart => exact ⟨0, 0, [], Nat.zero_le _, rfl, rfl, by omega, by omega, Ow.start w, rfl, by simp [val], alloc_below _ _⟩
  case round =>
    obtain ⟨k, q, zs, hk, rfl, rfl, hq0, hq1, hO, hzl, hv, hB⟩ := hrel
    subst hzl
    have HV := hidd hv
    clear hv
    obtain ⟨ao, cap, rfl⟩ := hO.shape
    have HO := hO.1
    have hsz := hB.size
    by_cases hkL : zs.length < L
    · obtain ⟨x, hx⟩ : ∃ x, xs.getD zs.length 0 = x := ⟨_, rfl⟩
      obtain ⟨y, hy⟩ : ∃ y, ys.getD zs.length 0 = y := ⟨_, rfl⟩
      have hxd := hX.digs.getD zs.length
      have hyd := hY.digs.getD zs.length
      rw [hx] at hxd
      rw [hy] at hyd
      have Hx := hidd hx
      have Hy := hidd hy
      clear hx hy
      go_wp2_with fail
      refine (word_any _ _ _ _ _ (hX.mono hB) (by omega) zs.length (by omega) x Hx.out).mono ?_
      rintro e w' ⟨rfl, rfl⟩
      go_wp2_with fail
      refine (word_any _ _ _ _ _ (hY.mono hB) (by omega) zs.length (by omega) y Hy.out).mono ?_
      rintro e w' ⟨rfl, rfl⟩
      go_wp2_with (first | (at_builtin; refine wpList_append_own _ rfl _ _ 22 rfl w.heap.size 63 i0 (.int .u32 0) 1 4 Try.underlying22 hi hz0 hz1 hz2 rfl (by decide) _ _ _ rfl (World.ownsRow.alloc HO _) ⟨_, 0, none⟩ 1 1 [.int .u32 ((q + (x + y)) % 4294967296)] rfl rfl (one_at _ _ _) (by intro u hu; simp at hu; subst hu; rfl) (by unfold maxLen; omega) (by omega) (by simp; omega) ?_; intro v' w5 hown' hgrow _) | go_in)
      obtain ⟨hO2, hB2⟩ := hO.step hB (by omega) (by omega) hown' hgrow
      clear hown' hgrow hO hB HO hsz
      go_wp2
      go_roundw
      case rel => exact ⟨zs.length + 1, (q + (x + y)) / 4294967296, zs ++ [(q + (x + y)) % 4294967296], by omega, by go_num, by go_num, by omega, by omega, hO2, by simp, plus_step rfl HV.out Hx.out Hy.out, hB2⟩
      case measure => simp [intOf]; omega
    · have hkl : zs.length = L := by omega
      have hqm : q % 4294967296 = q := by omega
      go_wp2_with (first | (at_builtin; refine wpList_append_own _ rfl _ _ 22 rfl w.heap.size 63 i0 (.int .u32 0) 1 4 Try.underlying22 hi hz0 hz1 hz2 rfl (by decide) _ _ _ rfl (World.ownsRow.alloc HO _) ⟨_, 0, none⟩ 1 1 [.int .u32 (q)] rfl rfl (one_at _ _ _) (by intro u hu; simp at hu; subst hu; rfl) (by unfold maxLen; omega) (by omega) (by simp; omega) ?_; intro v' w5 hown' hgrow _) | go_in)
      obtain ⟨hO2, hB2⟩ := hO.step hB hq0 (by omega) hown' hgrow
      clear hown' hgrow hO hB HO hsz
      obtain ⟨ao2, c2, rfl, hS2⟩ := hO2.sl
      go_wp2
      go_ret
      refine ⟨_, _, _, _, rfl, hS2, by have := HL.out; simp; omega, ?_, hB2⟩
      have h1 := HV.out
      rw [val_take_all xs (by rw [hX.len]; have := HL.out; omega), val_take_all ys (by rw [hY.len]; have := HL.out; omega)] at h1
      rw [val_snoc]
      exact h1

theorem minus_step {k : Nat} {zs xs ys : List Int} {q x y : Int} (hk : zs.length = k) (h : val zs = val (xs.take k) - val (ys.take k) + pw k * q) (hx : xs.getD k 0 = x) (hy : ys.getD k 0 = y) :
    val (zs ++ [(4294967296 + x - y - q) % 4294967296]) = val (xs.take (k + 1)) - val (ys.take (k + 1)) + pw (k + 1) * (1 - (4294967296 + x - y - q) / 4294967296) := by
  rw [val_snoc, hk, val_take_succ, val_take_succ, hx, hy]
  have h1 := pw_split k (4294967296 + x - y - q)
  have h2 : pw k * (4294967296 + x - y - q) = pw (k + 1) + pw k * x - pw k * y - pw k * q := by
    rw [pw_succ, Int.mul_sub, Int.mul_sub, Int.mul_add]
  rw [Int.mul_sub, Int.mul_one]
  omega

set_option maxHeartbeats 1000000 in
theorem minus_any (w : World) (ax ay : Option Addr) (n m cx cy : Nat) (xs ys : List Int) (hX : Sl w ax n cx xs) (hY : Sl w ay m cy ys) (hcy : Canon ys) (hle : val ys ≤ val xs) (hb1 : n ≤ 2000000) (hb2 : m ≤ 2000000) :
    Calls Try.prog 67 #[.slice ax n cx, .slice ay m cy] w fun e w' => ∃ ao c zs, e = .returned (.slice ao n c) ∧ Sl w' ao n c zs ∧ val zs = val xs - val ys ∧ Below w.heap.size w w' := by
  obtain ⟨i0, hi, hz0, hz1, hz2⟩ := info_parts info_word
  have HCY := hidd hcy
  have HLE := hidd hle
  clear hcy hle
  go_enter Try.func67, Try.ntmps67
  go_wp2
  go_loopw [5, 6, 7] (fun vo vc vi wr => ∃ (k : Nat) (q : Int) (zs : List Int), k ≤ n ∧ vi = .int .i64 k ∧ vc = .int .u64 q ∧ 0 ≤ q ∧ q ≤ 1 ∧ Ow wr w.heap.size vo zs ∧ zs.length = k ∧ val zs = val (xs.take k) - val (ys.take k) + pw k * q ∧ Below w.heap.size w wr) (fun _ _ vi _ => n - (intOf vi).toNat)
  case atStart => exact ⟨0, 0, [], Nat.zero_le _, rfl, rfl, by omega, by omega, Ow.start w, rfl, by simp [val], alloc_below _ _⟩
  case round =>
    obtain ⟨k, q, zs, hk, rfl, rfl, hq0, hq1, hO, hzl, hv, hB⟩ := hrel
    subst hzl
    have HV := hidd hv
    clear hv
    obtain ⟨ao, cap, rfl⟩ := hO.shape
    have HO := hO.1
    have hsz := hB.size
    by_cases hkL : zs.length < n
    · obtain ⟨x, hx⟩ : ∃ x, xs.getD zs.length 0 = x := ⟨_, rfl⟩
      obtain ⟨y, hy⟩ : ∃ y, ys.getD zs.length 0 = y := ⟨_, rfl⟩
      have hxd := hX.digs.getD zs.length
      have hyd := hY.digs.getD zs.length
      rw [hx] at hxd
      rw [hy] at hyd
      have Hx := hidd hx
      have Hy := hidd hy
      clear hx hy
      go_wp2_with fail
      refine (word_any _ _ _ _ _ (hX.mono hB) (by omega) zs.length (by omega) x Hx.out).mono ?_
      rintro e w' ⟨rfl, rfl⟩
      go_wp2_with fail
      refine (word_any _ _ _ _ _ (hY.mono hB) (by omega) zs.length (by omega) y Hy.out).mono ?_
      rintro e w' ⟨rfl, rfl⟩
      go_wp2_with (first | (at_builtin; refine wpList_append_own _ rfl _ _ 22 rfl w.heap.size 63 i0 (.int .u32 0) 1 4 Try.underlying22 hi hz0 hz1 hz2 rfl (by decide) _ _ _ rfl (World.ownsRow.alloc HO _) ⟨_, 0, none⟩ 1 1 [.int .u32 ((4294967296 + x - y - q) % 4294967296)] rfl rfl (one_at _ _ _) (by intro u hu; simp at hu; subst hu; rfl) (by unfold maxLen; omega) (by omega) (by simp; omega) ?_; intro v' w5 hown' hgrow _) | go_in)
      obtain ⟨hO2, hB2⟩ := hO.step hB (by omega) (by omega) hown' hgrow
      clear hown' hgrow hO hB HO hsz
      go_wp2
      go_roundw
      case rel => exact ⟨zs.length + 1, 1 - (4294967296 + x - y - q) / 4294967296, zs ++ [(4294967296 + x - y - q) % 4294967296], by omega, by go_num, by go_num, by omega, by omega, hO2, by simp, minus_step rfl HV.out Hx.out Hy.out, hB2⟩
      case measure => simp [intOf]; omega
    · have hkl : zs.length = n := by omega
      obtain ⟨ao2, c2, he, hS2⟩ := hO.sl
      cases he
      rw [hkl] at hS2
      have HE : Hid (val zs = val xs - val ys) := by
        have h1 := HV.out
        have h2 := val_nonneg hX.digs
        have h3 := val_lt hX.digs
        rw [hX.len] at h3
        have h4 := HCY.out.length_le (Int.lt_of_le_of_lt HLE.out h3)
        rw [hkl, val_take_all xs (by rw [hX.len]; omega), val_take_all ys h4] at h1
        have h5 := val_lt hS2.digs
        rw [hS2.len] at h5
        have h6 := HLE.out
        show val zs = _
        rcases (by omega : q = 0 ∨ q = 1) with rfl | rfl
        · omega
        · omega
      clear hO HO
      go_wp2
      go_ret
      exact ⟨ao, cap, zs, by show Ending.returned (.slice ao zs.length cap) = _; rw [hkl], hS2, HE.out, hB⟩

end Go.Proofs.Ytjpbmghdamcdcaa

namespace Go.Proofs.Ytjpbmghdamcdcaa
open Go Go.RowKit

/-- Block b is a row of the call's own whose first n cells are these words. -/
def Mine (w : World) (b n : Nat) (zs : List Int) : Prop :=
  ∃ cur : Array Value, w.heap[b]? = some (.cells cur 63 (0, 0)) ∧ zs.length = n ∧ Digs zs ∧ n ≤ cur.size ∧ ∀ j, j < n → cur[j]? = some (.int .u32 (zs.getD j 0))

theorem Mine.lt {w : World} {b n : Nat} {zs : List Int} (h : Mine w b n zs) : b < w.heap.size := by
  obtain ⟨cur, h1, _⟩ := h
  exact (Array.getElem?_eq_some_iff.1 h1).1
theorem Mine.len {w : World} {b n : Nat} {zs : List Int} (h : Mine w b n zs) : zs.length = n := by
  obtain ⟨cur, _, h1, _⟩ := h
  exact h1
theorem Mine.digs {w : World} {b n : Nat} {zs : List Int} (h : Mine w b n zs) : Digs zs := by
  obtain ⟨cur, _, _, h1, _⟩ := h
  exact h1
theorem Mine.cell {w : World} {b n : Nat} {zs : List Int} (h : Mine w b n zs) {j : Nat} (hj : j < n) : w.cell? ⟨b, j, none⟩ = some (.int .u32 (zs.getD j 0)) := by
  obtain ⟨cur, h1, h2, h3, h4, h5⟩ := h
  rw [cell_of_row w b j _ _ (0, 0) h1]
  exact h5 j hj
theorem Mine.frozen {w : World} {b n : Nat} {zs : List Int} (h : Mine w b n zs) (j : Nat) : w.frozen? ⟨b, j, none⟩ = false := by
  obtain ⟨cur, h1, _⟩ := h
  simp [World.frozen?, h1]
theorem Mine.mono {w w' : World} {b n : Nat} {zs : List Int} (h : Mine w b n zs) {B : Nat} (hb : Below B w w') (hB : b < B) : Mine w' b n zs := by
  obtain ⟨cur, h1, h2⟩ := h
  exact ⟨cur, by rw [hb.block b hB]; exact h1, h2⟩
theorem Mine.drewN {w : World} {b n : Nat} {zs : List Int} (h : Mine w b n zs) (d : Nat) : Mine (w.drewN d) b n zs := h
theorem Mine.set {w : World} {b n : Nat} {zs : List Int} (h : Mine w b n zs) {j : Nat} (hj : j < n) {x : Int} (hx0 : 0 ≤ x) (hx1 : x < 4294967296) : Mine (w.setCell ⟨b, j, none⟩ (.int .u32 x)) b n (zs.set j x) := by
  obtain ⟨cur, h1, h2, h3, h4, h5⟩ := h
  refine ⟨cur.setIfInBounds j (.int .u32 x), ?_, by rw [List.length_set]; exact h2, h3.set j ⟨hx0, hx1⟩, by simpa using h4, fun k hk => ?_⟩
  · simp only [World.setCell, Array.getElem?_modify, if_true, h1, Option.map_some, Option.isSome_none]
    simp
  · by_cases hjk : j = k
    · subst hjk
      rw [getD_set _ _ _ (by omega), Array.getElem?_setIfInBounds_self_of_lt (by omega)]
    · rw [getD_set_ne _ _ _ _ hjk]
      rw [Array.getElem?_setIfInBounds_ne hjk]
      exact h5 k hk
theorem Mine.sl {w : World} {b n : Nat} {zs : List Int} (h : Mine w b n zs) {c : Nat} (hc : n ≤ c) : Sl w (some ⟨b, 0, none⟩) n c zs :=
  ⟨h.len, hc, h.digs, .inr ⟨b, 0, rfl, h.lt, fun j hj => by rw [Nat.zero_add]; exact h.cell (by have := h.len; omega)⟩⟩
theorem Mine.other {w : World} {b n : Nat} {zs : List Int} (h : Mine w b n zs) {w' : World} {b' : Nat} (hg : w.grownBy w' (some b')) (hne : b ≠ b') : Mine w' b n zs := by
  have hl := h.lt
  obtain ⟨cur, h1, h2⟩ := h
  exact ⟨cur, by rw [hg.block b hl (by simpa using hne)]; exact h1, h2⟩
theorem Row.mine {w : World} {b : Nat} {zs : List Int} (h : Row w 63 b zs) : Mine w b zs.length zs :=
  ⟨_, h.2, rfl, h.1, by simp, fun j hj => by simp [hj]⟩
theorem Ow.mine {w : World} {B b n c : Nat} {zs : List Int} (h : Ow w B (.slice (some ⟨b, 0, none⟩) n c) zs) : Mine w b n zs ∧ B ≤ b ∧ n ≤ c := by
  obtain ⟨⟨h1, h2⟩, h3⟩ := h
  rcases h2 with ⟨h4, _⟩ | ⟨g, cap, cur, h4, h5, h6, h7, h8, h9, h10⟩
  · cases h4
  · cases h4
    refine ⟨⟨cur, h6, rfl, h3, by omega, fun j hj => ?_⟩, h5, h7⟩
    have e : (cur.toList.take (zs.length * 1))[j]? = (zs.map (Value.int .u32))[j]? := by rw [h10]
    rw [List.getElem?_take_of_lt (by omega)] at e
    simp at e
    rw [e]
    simp [hj]
theorem Row.ow {w : World} {B b : Nat} {zs : List Int} (h : Row w 63 b zs) (hB : B ≤ b) (hn : zs.length ≤ maxLen) : Ow w B (.slice (some ⟨b, 0, none⟩) zs.length zs.length) zs :=
  ⟨⟨by simp, .inr ⟨b, zs.length, _, rfl, hB, h.2, Nat.le_refl _, hn, by simp, by rw [Nat.mul_one]; exact List.take_of_length_le (by simp)⟩⟩, h.1⟩

set_option maxHeartbeats 1000000 in
theorem rBits_any (w : World) (na : Bool) (ax : Option Addr) (n c : Nat) (xs : List Int) (hX : Sl w ax n c xs) (hc : Canon xs) (hb : n ≤ 4000000) :
    Calls Try.prog 34 #[.agg #[.bool na, .slice ax n c]] w fun e w' => ∃ m : Nat, e = .returned (.int .i64 m) ∧ IsBits (val xs) m ∧ m ≤ 32 * n ∧ Below w.heap.size w w' := by
  have hn := hidd hX.len
  obtain ⟨w0, hw0, hA, hbl0, HS⟩ := boxes1 w (.bool na) (.slice ax n c) 27
  by_cases h0 : n = 0
  · obtain rfl := h0
    have e : xs = [] := List.eq_nil_of_length_eq_zero hn.out
    clear hA hw0
    go_enter Try.func34, Try.ntmps34
    go_wp2
    go_ret
    exact ⟨0, rfl, .inl ⟨by subst e; rfl, rfl⟩, by omega, alloc_below _ _⟩
  · have h1 : ((n : Int) == 0) = false := by simp; omega
    have hx := (hX.mono hbl0).cells
    obtain ⟨b, off, rfl, hbl, x, hxc, hx0, hx1, HX⟩ := hx.at (k := n - 1) (by rw [hn.out]; omega)
    have hxp : 0 < x := by
      rcases hc.2 with h | h
      · have := hn.out; omega
      · rcases (by omega : x = 0 ∨ 0 < x) with h2 | h2
        · exfalso
          have e := val_take_succ xs (n - 1)
          rw [show n - 1 + 1 = n from by omega, HX.out, h2, val_take_all xs (by rw [hn.out]; omega)] at e
          have l1 := val_lt (hX.take (show n - 1 ≤ n by omega)).digs
          rw [(hX.take (show n - 1 ≤ n by omega)).len] at l1
          rw [hn.out] at h
          omega
        · exact h2
    obtain ⟨ca0, ca1, _, _⟩ := hA
    go_enter Try.func34, Try.ntmps34
    go_upto_region 1 with (fail)
    rw [← hw0]
    clear hw0
    go_wp2
    go_loop [3, 4] (fun i u => ∃ (k : Nat) (q : Int), k ≤ 32 ∧ 0 ≤ q ∧ q < 4294967296 ∧ i = .int .i64 (32 * ((n : Int) - 1) + k) ∧ u = .int .u32 q ∧ q * 2 ^ k ≤ x ∧ x < (q + 1) * 2 ^ k ∧ (k = 0 ∨ 2 ^ (k - 1) ≤ x)) (fun _ u => (intOf u).toNat)
    case atStart => exact ⟨0, x, by omega, hx0, hx1, by simp, rfl, by simp, by simp; omega, .inl rfl⟩
    case round =>
      obtain ⟨k, q, hk, hq0, hq1, rfl, rfl, hv⟩ := hrel
      have HV := hidd hv
      clear hv
      by_cases hq : 0 < q
      · go_wp2
        go_round
        case rel =>
          obtain ⟨v1, v2, _⟩ := HV.out
          have hp := pow_two_pos k
          have h5 : (2 : Int) ^ k ≤ x := by
            have := Int.mul_le_mul_of_nonneg_right (show 1 ≤ q by omega) (Int.le_of_lt hp)
            omega
          have hk2 : k < 32 := by
            rcases Nat.lt_or_ge k 32 with h | h
            · exact h
            · have : k = 32 := by omega
              subst this; simp at h5; omega
          refine ⟨k + 1, q / 2, by omega, by omega, by omega, by rw [show ((k + 1 : Nat) : Int) = (k : Int) + 1 from rfl]; congr 1; omega, rfl, ?_, ?_, .inr h5⟩
          · rw [pow_two_succ]
            have : q / 2 * (2 ^ k * 2) = (q / 2 * 2) * 2 ^ k := by rw [Int.mul_comm (2 ^ k), Int.mul_assoc]
            have h6 := Int.mul_le_mul_of_nonneg_right (show q / 2 * 2 ≤ q by omega) (Int.le_of_lt hp)
            omega
          · rw [pow_two_succ]
            have : (q / 2 + 1) * (2 ^ k * 2) = ((q / 2 + 1) * 2) * 2 ^ k := by rw [Int.mul_comm (2 ^ k), Int.mul_assoc]
            have h6 := Int.mul_le_mul_of_nonneg_right (show q + 1 ≤ (q / 2 + 1) * 2 by omega) (Int.le_of_lt hp)
            omega
        case measure => simp [intOf]; omega
      · go_wp2
        go_ret
        obtain ⟨v1, v2, v3⟩ := HV.out
        refine ⟨32 * (n - 1) + k, ?_, bits_end hX.digs hn.out (by omega) HX.out hxp hx1 (by omega) v1 v2 v3, by omega, hbl0⟩
        have : ((32 * (n - 1) + k : Nat) : Int) = 32 * ((n : Int) - 1) + k := by omega
        rw [this]; rfl

/-- The word before. -/
def prevW (xs : List Int) (i : Nat) : Int := if i = 0 then 0 else xs.getD (i - 1) 0

theorem word_prev (w : World) (ax : Option Addr) (n c : Nat) (xs : List Int) (hX : Sl w ax n c xs) (hb : n ≤ 4000000) (i : Nat) (hi : i ≤ 9000000) (y : Int) (hy : prevW xs i = y) (j : Int) (hj : j = (i : Int) - 1) :
    Calls Try.prog 79 #[.slice ax n c, .int .i64 j] w fun e w' => e = .returned (.int .u64 y) ∧ w = w' := by
  unfold prevW at hy
  subst hj
  by_cases h : i = 0
  · subst h
    rw [if_pos rfl] at hy
    subst hy
    exact word_before w ax n c _ (by omega) (by omega)
  · rw [if_neg h] at hy
    rw [show (i : Int) - 1 = ((i - 1 : Nat) : Int) by omega]
    exact word_any w ax n c xs hX hb (i - 1) (by omega) y hy

theorem left_step {m : Nat} {zs xs : List Int} {i wd : Nat} {p x c : Int} (hm : zs.length = i + wd) (h : val zs + pw (i + wd) * c = val (xs.take i) * p * pw wd) (hx : xs.getD i 0 = x) (hd : m = i + wd + 1) :
    val (zs ++ [x * p % 4294967296 + c]) + pw m * (x * p / 4294967296) = val (xs.take (i + 1)) * p * pw wd := by
  subst hd
  rw [val_snoc, hm, val_take_succ, hx, Int.add_mul, Int.add_mul, ← h]
  have h1 := pw_split (i + wd) (x * p)
  have h2 : pw i * x * p * pw wd = pw (i + wd) * (x * p) := by rw [pw_add]; ac_rfl
  rw [Int.mul_add]
  omega

theorem add_mod {T cc P : Int} (h1 : T % 4294967296 % P = 0) (h2 : (4294967296 : Int) % P = 0) (_ : 0 < P) (hc0 : 0 ≤ cc) (hc : cc < P) : (T + cc) % 4294967296 = T % 4294967296 + cc := by
  have h4 : (4294967296 - T % 4294967296) % P = 0 := by rw [Int.sub_emod, h1, h2]; simp
  have h5 : 0 < 4294967296 - T % 4294967296 := by omega
  have h6 := Int.le_of_dvd h5 (Int.dvd_of_emod_eq_zero h4)
  omega

set_option maxHeartbeats 1000000 in
theorem left_any (w : World) (ax : Option Addr) (n c : Nat) (xs : List Int) (hX : Sl w ax n c xs) (hb : n ≤ 1000000) (s : Nat) (hs : s ≤ 100000000) :
    Calls Try.prog 72 #[.slice ax n c, .int .i64 s] w fun e w' => ∃ g l cap zs, e = .returned (.slice (some ⟨g, 0, none⟩) l cap) ∧ w.heap.size ≤ g ∧ Mine w' g l zs ∧ l ≤ cap ∧ l = s / 32 + n + 1 ∧ val zs = val xs * 2 ^ s ∧ Below w.heap.size w w' := by
  obtain ⟨i0, hi, hz0, hz1, hz2⟩ := info_parts info_word
  have hn := hidd hX.len
  have hrs : s % 32 < 32 := Nat.mod_lt _ (by decide)
  obtain ⟨hp0, hp1⟩ := two_le _ hrs
  go_enter Try.func72, Try.ntmps72
  go_wp2_with (at_make; refine wpList_make_words _ rfl _ _ 22 rfl 63 Try.underlying22 (by kernel_rfl) _ _ _ _ rfl rfl (s / 32) (by omega) (by omega) (by omega) ?_; intro w1 hrow hb1 hs1)
  go_loopw [5, 7] (fun vo vi wr => ∃ (i : Nat) (zs : List Int), i ≤ n + 1 ∧ vi = .int .i64 i ∧ Ow wr w.heap.size vo zs ∧ zs.length = i + s / 32 ∧ val zs + pw (i + s / 32) * (prevW xs i * 2 ^ (s % 32) / 4294967296) = val (xs.take i) * 2 ^ (s % 32) * pw (s / 32) ∧ Below w.heap.size w wr) (fun _ vi _ => n + 1 - (intOf vi).toNat)
  case atStart =>
    have ho := hrow.ow (Nat.le_refl _) (by rw [List.length_replicate]; unfold maxLen; omega)
    rw [List.length_replicate] at ho
    exact ⟨0, _, by omega, rfl, ho, by simp, by rw [val_replicate]; simp [prevW, val], hb1⟩
  case round =>
    obtain ⟨i, zs, hk, rfl, hO, hzl, hv, hB⟩ := hrel
    have HV := hidd hv
    clear hv hrow hb1 hs1
    obtain ⟨ao, cap, rfl⟩ := hO.shape
    have HO := hO.1
    have hsz := hB.size
    have HZL := hidd hzl
    have hzb : zs.length ≤ 10000000 := by omega
    clear hzl
    by_cases hin : i ≤ n
    · obtain ⟨x, hx⟩ : ∃ x, xs.getD i 0 = x := ⟨_, rfl⟩
      obtain ⟨y, hy⟩ : ∃ y, prevW xs i = y := ⟨_, rfl⟩
      have hxd := hX.digs.getD i
      rw [hx] at hxd
      obtain ⟨hx0, hx1⟩ := hxd
      have hyd : 0 ≤ y ∧ y < 4294967296 := by
        rw [← hy]; unfold prevW; split
        · omega
        · exact hX.digs.getD _
      obtain ⟨hy0, hy1⟩ := hyd
      have Hx := hidd hx
      have Hy := hidd hy
      clear hx hy
      have hxp0 : 0 ≤ x * 2 ^ (s % 32) := Int.mul_nonneg hx0 (by omega)
      have hxp2 : x * 2 ^ (s % 32) ≤ 4294967295 * 2 ^ (s % 32) := Int.mul_le_mul_of_nonneg_right (by omega) (by omega)
      have hxp1 : x * 2 ^ (s % 32) ≤ 9223372036854775807 := by omega
      have hyp0 : 0 ≤ y * 2 ^ (s % 32) := Int.mul_nonneg hy0 (by omega)
      have hyp2 : y * 2 ^ (s % 32) ≤ 4294967295 * 2 ^ (s % 32) := Int.mul_le_mul_of_nonneg_right (by omega) (by omega)
      have hyp1 : y * 2 ^ (s % 32) ≤ 9223372036854775807 := by omega
      have hc0 : y * 2 ^ (s % 32) / 4294967296 < 2 ^ (s % 32) := Int.ediv_lt_of_lt_mul (by decide) (by omega)
      obtain ⟨u, hor⟩ : ∃ u, bits .or .u64 (x * 2 ^ (s % 32)) (y * 2 ^ (s % 32) / 4294967296) = u := ⟨_, rfl⟩
      have hu : u = x * 2 ^ (s % 32) + y * 2 ^ (s % 32) / 4294967296 := by
        rw [← hor]
        exact (or_u64 (s % 32) _ _ hxp0 (by omega) (by omega) (by omega) hc0 (Int.mul_emod_left _ _)).1
      have hu0 : 0 ≤ u := by omega
      have hu1 : u < 18446744073709551616 := by omega
      have HD : Hid (u % 4294967296 = x * 2 ^ (s % 32) % 4294967296 + y * 2 ^ (s % 32) / 4294967296) := by
        have h1 := mul_pow_dvd x (s % 32) (by omega)
        have h2 : (4294967296 : Int) % 2 ^ (s % 32) = 0 := by
          have e : (4294967296 : Int) = 2 ^ (s % 32) * 2 ^ (32 - s % 32) := by rw [← Int.pow_add, show s % 32 + (32 - s % 32) = 32 from by omega]; rfl
          rw [e]; exact Int.mul_emod_right _ _
        show u % 4294967296 = _
        rw [hu]
        exact add_mod h1 h2 (by omega) (by omega) hc0
      clear hu
      go_wp2_with fail
      refine (word_any _ _ _ _ _ (hX.mono hB) (by omega) i (by omega) x Hx.out).mono ?_
      rintro e w' ⟨rfl, rfl⟩
      go_wp2_with fail
      refine (word_prev _ _ _ _ _ (hX.mono hB) (by omega) i (by omega) y Hy.out _ (by omega)).mono ?_
      rintro e w' ⟨rfl, rfl⟩
      go_wp2_with (first | (at_builtin; refine wpList_append_own _ rfl _ _ 22 rfl w.heap.size 63 i0 (.int .u32 0) 1 4 Try.underlying22 hi hz0 hz1 hz2 rfl (by decide) _ _ _ rfl (World.ownsRow.alloc HO _) ⟨_, 0, none⟩ 1 1 [.int .u32 (u % 4294967296)] rfl rfl (one_at _ _ _) (by intro u hu; simp at hu; subst hu; rfl) (by unfold maxLen; omega) (by omega) (by simp; omega) ?_; intro v' w5 hown' hgrow _) | go_in)
      obtain ⟨hO2, hB2⟩ := hO.step hB (by omega) (by omega) hown' hgrow
      clear hown' hgrow hO hB HO hsz
      go_wp2
      go_roundw
      case rel =>
        refine ⟨i + 1, zs ++ [u % 4294967296], by omega, by go_num, hO2, by rw [List.length_append, HZL.out]; simp; omega, ?_, hB2⟩
        have h1 := HV.out
        rw [Hy.out] at h1
        have h2 : prevW xs (i + 1) = x := by unfold prevW; rw [if_neg (by omega)]; exact Hx.out
        rw [h2, HD.out]
        exact left_step HZL.out h1 Hx.out (by omega)
      case measure => simp [intOf]; omega
    · obtain rfl : i = n + 1 := by omega
      have HE : Hid (val zs = val xs * 2 ^ s) := by
        have h1 := HV.out
        have h2 : prevW xs (n + 1) = 0 := by unfold prevW; rw [if_neg (by omega)]; exact getD_out (by rw [hn.out]; omega)
        rw [h2, Int.zero_mul, Int.zero_ediv, Int.mul_zero, Int.add_zero, val_take_all xs (by rw [hn.out]; omega)] at h1
        show val zs = _
        rw [h1, pw_two, Int.mul_assoc, ← Int.pow_add]
        congr 2
        omega
      have hl2 : 0 < zs.length := by have := HZL.out; omega
      obtain ⟨g, rfl⟩ : ∃ g, ao = some ⟨g, 0, none⟩ := by
        rcases hO.1.2 with ⟨_, h0⟩ | ⟨g, cap', cur, h1, _⟩
        · omega
        · cases h1; exact ⟨g, rfl⟩
      obtain ⟨hM, hgB, hcap⟩ := hO.mine
      clear hO HO
      go_wp2
      go_ret
      exact ⟨g, zs.length, cap, zs, rfl, hgB, hM, hcap, by have := HZL.out; omega, HE.out, hB⟩

end Go.Proofs.Ytjpbmghdamcdcaa

namespace Go.Proofs.Ytjpbmghdamcdcaa
open Go Go.RowKit

theorem val_drop_any (xs : List Int) (k : Nat) : val (xs.drop k) = xs.getD k 0 + 4294967296 * val (xs.drop (k + 1)) := by
  by_cases h : k < xs.length
  · exact val_drop_step xs h
  · rw [List.drop_of_length_le (by omega), List.drop_of_length_le (by omega), getD_out (by omega)]; rfl

theorem val_split_any (xs : List Int) (k : Nat) : val xs = val (xs.take k) + pw k * val (xs.drop k) := by
  by_cases h : k ≤ xs.length
  · exact val_split xs h
  · rw [List.take_of_length_le (by omega), List.drop_of_length_le (by omega)]
    show _ = _ + _ * 0
    rw [Int.mul_zero, Int.add_zero]

theorem val_take_lt {xs : List Int} (h : Digs xs) (k : Nat) : val (xs.take k) < pw k := by
  have h1 := val_lt (h.take k)
  have h2 := pw_le (show (xs.take k).length ≤ k by rw [List.length_take]; omega)
  omega

theorem lt_at {xs ys : List Int} {k : Nat} (hx : Digs xs) (h : val (xs.drop (k + 1)) = val (ys.drop (k + 1))) (hlt : xs.getD k 0 < ys.getD k 0) (hy : Digs ys) : val xs < val ys := by
  have e1 := val_split_any xs k
  have e2 := val_split_any ys k
  have d1 := val_drop_any xs k
  have d2 := val_drop_any ys k
  have h1 := val_take_lt hx k
  have h2 := val_nonneg (hy.take k)
  have h3 := Int.mul_le_mul_of_nonneg_left (show val (xs.drop k) + 1 ≤ val (ys.drop k) by omega) (Int.le_of_lt (pw_pos k))
  rw [Int.mul_add, Int.mul_one] at h3
  omega

theorem word_at (w : World) (ax : Option Addr) (n c : Nat) (xs : List Int) (hX : Sl w ax n c xs) (hb : n ≤ 4000000) (i : Nat) (hi : i ≤ 9000000) (y : Int) (hy : xs.getD i 0 = y) (j : Int) (hj : j = (i : Int)) :
    Calls Try.prog 79 #[.slice ax n c, .int .i64 j] w fun e w' => e = .returned (.int .u64 y) ∧ w = w' := by
  subst hj
  exact word_any w ax n c xs hX hb i hi y hy

theorem word_same (w : World) (ax : Option Addr) (n c : Nat) (xs : List Int) (hX : Sl w ax n c xs) (hb : n ≤ 4000000) (i : Nat) (hi : i ≤ 9000000) (y : Int) (hy : xs.getD i 0 = y) :
    Calls Try.prog 79 #[.slice ax n c, .int .i64 i] w fun e w' => e = .returned (.int .u64 y) ∧ w' = w :=
  (word_any w ax n c xs hX hb i hi y hy).mono fun _ _ h => ⟨h.1, h.2.symm⟩

set_option maxHeartbeats 1000000 in
theorem reaches_any (w : World) (ax ay : Option Addr) (n m cx cy : Nat) (xs ys : List Int) (hX : Sl w ax n cx xs) (hY : Sl w ay m cy ys) (hb1 : n ≤ 4000000) (hb2 : m ≤ 4000000) :
    Calls Try.prog 80 #[.slice ax n cx, .slice ay m cy] w fun e w' => e = .returned (.bool (decide (val ys ≤ val xs))) ∧ w = w' := by
  obtain ⟨L, hL⟩ : ∃ L : Nat, L = max n m := ⟨_, rfl⟩
  have hL2 : (if n < m then (m : Int) else (n : Int)) = (L : Int) := by split <;> omega
  have hLb : L ≤ 4000000 := by omega
  have HL := hidd hL
  clear hL
  go_enter Try.func80, Try.ntmps80
  go_wp2
  go_loop [5] (fun vi => ∃ k : Nat, k ≤ L ∧ vi = .int .i64 ((k : Int) - 1) ∧ val (xs.drop k) = val (ys.drop k)) (fun vi => (intOf vi + 1).toNat)
  case atStart => exact ⟨L, Nat.le_refl _, rfl, by rw [List.drop_of_length_le (by rw [hX.len]; have := HL.out; omega), List.drop_of_length_le (by rw [hY.len]; have := HL.out; omega)]⟩
  case round =>
    obtain ⟨k, hk, rfl, hv⟩ := hrel
    have HV := hidd hv
    clear hv
    by_cases h0 : 0 < k
    · obtain ⟨j, rfl⟩ : ∃ j, k = j + 1 := ⟨k - 1, by omega⟩
      obtain ⟨x, hx⟩ : ∃ x, xs.getD j 0 = x := ⟨_, rfl⟩
      obtain ⟨y, hy⟩ : ∃ y, ys.getD j 0 = y := ⟨_, rfl⟩
      have Hx := hidd hx
      have Hy := hidd hy
      clear hx hy
      have hj1 : ((j + 1 : Nat) : Int) - 1 = (j : Int) := by omega
      by_cases he : x = y
      · have he2 : (x != y) = false := by simp [he]
        have HE := hidd he
        clear he
        go_wp2_with fail
        refine (word_at _ _ _ _ _ hX (by omega) j (by omega) x Hx.out _ (by omega)).mono ?_
        rintro e w' ⟨rfl, rfl⟩
        go_wp2_with fail
        refine (word_at _ _ _ _ _ hY (by omega) j (by omega) y Hy.out _ (by omega)).mono ?_
        rintro e w' ⟨rfl, rfl⟩
        go_wp2
        go_round
        case rel =>
          refine ⟨j, by omega, by go_num, ?_⟩
          rw [val_drop_any xs j, val_drop_any ys j, HV.out, Hx.out, Hy.out, HE.out]
        case measure => simp [intOf]
      · have he2 : (x != y) = true := by simp [he]
        have HR : Hid (decide (x > y) = decide (val ys ≤ val xs)) := by
          rcases Int.lt_or_gt_of_ne he with h | h
          · have h2 := lt_at hX.digs HV.out (by rw [Hx.out, Hy.out]; exact h) hY.digs
            show _ = _
            rw [decide_eq_false (show ¬ x > y by omega), decide_eq_false (show ¬ val ys ≤ val xs by omega)]
          · have h2 := lt_at hY.digs HV.out.symm (by rw [Hx.out, Hy.out]; exact h) hX.digs
            show _ = _
            rw [decide_eq_true (show x > y by omega), decide_eq_true (show val ys ≤ val xs by omega)]
        clear he
        go_wp2_with fail
        refine (word_at _ _ _ _ _ hX (by omega) j (by omega) x Hx.out _ (by omega)).mono ?_
        rintro e w' ⟨rfl, rfl⟩
        go_wp2_with fail
        refine (word_at _ _ _ _ _ hY (by omega) j (by omega) y Hy.out _ (by omega)).mono ?_
        rintro e w' ⟨rfl, rfl⟩
        go_wp2_with fail
        refine (word_at _ _ _ _ _ hX (by omega) j (by omega) x Hx.out _ (by omega)).mono ?_
        rintro e w' ⟨rfl, rfl⟩
        go_wp2_with fail
        refine (word_at _ _ _ _ _ hY (by omega) j (by omega) y Hy.out _ (by omega)).mono ?_
        rintro e w' ⟨rfl, rfl⟩
        go_wp2
        go_ret
        exact ⟨by rw [← HR.out]; simp, rfl⟩
    · obtain rfl : k = 0 := by omega
      have HR : Hid (decide (val ys ≤ val xs) = true) := by
        have := HV.out
        simp only [List.drop_zero] at this
        exact decide_eq_true (by omega)
      go_wp2
      go_ret
      exact ⟨by rw [HR.out]; rfl, rfl⟩

theorem grown_drewN {w wr : World} {b : Option Nat} (h : w.grownBy wr b) (d : Nat) : w.grownBy (wr.drewN d) b := ⟨h.os, h.tape, h.output, h.size, h.block⟩

theorem grown_set {w wr : World} {b : Nat} (h : w.grownBy wr (some b)) (j : Nat) (u : Value) : w.grownBy (wr.setCell ⟨b, j, none⟩ u) (some b) := grownBy_trans h (grownBy_set _ _ _ _)

theorem half_dig {x y : Int} (hx0 : 0 ≤ x) (hx1 : x < 4294967296) (hy0 : 0 ≤ y) (hy1 : y < 4294967296) :
    ∃ u, bits .or .u64 (x / 2) (y * 2147483648) = u ∧ 0 ≤ u ∧ u < 18446744073709551616 ∧ Hid (2 * (u % 4294967296) = x - x % 2 + 4294967296 * (y % 2)) := by
  have h := (or_u64 31 (y * 2147483648) (x / 2) (by omega) (by omega) (by omega) (by omega) (by show x / 2 < 2147483648; omega) (by show y * 2147483648 % 2147483648 = 0; omega)).2
  refine ⟨_, h, by omega, by omega, ?_⟩
  show _ = _
  omega

set_option maxHeartbeats 1000000 in
theorem half_any (w : World) (b n c : Nat) (zs : List Int) (hM : Mine w b n zs) (hc : n ≤ c) (hb1 : n ≤ 4000000) :
    Calls Try.prog 82 #[.slice (some ⟨b, 0, none⟩) n c] w fun e w' => ∃ zs', e = .returned (.tuple #[]) ∧ Mine w' b n zs' ∧ val zs' = val zs / 2 ∧ w.grownBy w' (some b) ∧ w'.heap.size = w.heap.size := by
  have hzl := hidd hM.len
  have hdz := hM.digs
  go_enter Try.func82, Try.ntmps82
  go_wp2
  go_loopw [2] (fun vi wr => ∃ (k : Nat) (us : List Int), k ≤ n ∧ vi = .int .i64 k ∧ Mine wr b n us ∧ us.drop k = zs.drop k ∧ 2 * val (us.take k) = val (zs.take k) - zs.getD 0 0 % 2 + pw k * (zs.getD k 0 % 2) ∧ w.grownBy wr (some b) ∧ wr.heap.size = w.heap.size) (fun vi _ => n - (intOf vi).toNat)
  case atStart => exact ⟨0, zs, Nat.zero_le _, rfl, hM, rfl, by simp [val, pw_zero]; omega, World.grownBy.refl _ _, rfl⟩
  case round =>
    obtain ⟨k, us, hk, rfl, hU, hdr, hv, hg, hsz⟩ := hrel
    have HDR := hidd hdr
    have HV := hidd hv
    have HSZ := hidd hsz
    clear hdr hv hsz
    by_cases hkn : k < n
    · obtain ⟨x, hx⟩ : ∃ x, us.getD k 0 = x := ⟨_, rfl⟩
      obtain ⟨y, hy⟩ : ∃ y, us.getD (k + 1) 0 = y := ⟨_, rfl⟩
      have hxd := hU.digs.getD k
      have hyd := hU.digs.getD (k + 1)
      rw [hx] at hxd
      rw [hy] at hyd
      have Hx := hidd hx
      have Hy := hidd hy
      clear hx hy
      obtain ⟨u, hor, hu0, hu1, HU⟩ := half_dig hxd.1 hxd.2 hyd.1 hyd.2
      have hfr := hU.frozen k
      have hcell := hU.cell hkn
      go_wp2_with fail
      refine (word_at _ _ _ _ _ (hU.sl hc) (by omega) k (by omega) x Hx.out _ (by omega)).mono ?_
      rintro e w' ⟨rfl, rfl⟩
      go_wp2_with fail
      refine (word_at _ _ _ _ _ (hU.sl hc) (by omega) (k + 1) (by omega) y Hy.out _ (by omega)).mono ?_
      rintro e w' ⟨rfl, rfl⟩
      go_wp2
      go_roundw
      case rel =>
        have hlen := hU.len
        have e1 : zs.getD k 0 = x := by
          have := congrArg (fun l => l.getD 0 0) HDR.out
          simp only [getD_drop, Nat.add_zero] at this
          rw [← this]; exact Hx.out
        have e2 : zs.getD (k + 1) 0 = y := by
          have := congrArg (fun l => l.getD 1 0) HDR.out
          simp only [getD_drop] at this
          rw [← this]; exact Hy.out
        refine ⟨k + 1, us.set k (u % 4294967296), by omega, by go_num, hU.set hkn (by omega) (by omega), ?_, shr_step (by omega) HV.out e1 e2 HU.out, grown_set hg _ _, by rw [World.size_setCell]; exact HSZ.out⟩
        rw [List.drop_set_of_lt (by omega), ← List.drop_drop, HDR.out, List.drop_drop]
      case measure => simp [intOf]; omega
    · obtain rfl : k = n := by omega
      have HE : Hid (val us = val zs / 2) := by
        have h1 := HV.out
        rw [val_take_all us (by rw [hU.len]; omega), val_take_all zs (by rw [hzl.out]; omega), getD_out (xs := zs) (k := k) (by rw [hzl.out]; omega)] at h1
        have h2 := val_drop_any zs 0
        rw [List.drop_zero] at h2
        show val us = _
        omega
      go_wp2
      (try simp only [Exit.inBlock, Exit.then])
      exact bodyPost_end (results_none rfl _ _ _) rfl ⟨us, rfl, hU, HE.out, hg, HSZ.out⟩

theorem take_step {k : Nat} {us xs ys : List Int} {q x y : Int} (hk : k < us.length) (h : val (us.take k) = val (xs.take k) - val (ys.take k) + pw k * q) (hx : xs.getD k 0 = x) (hy : ys.getD k 0 = y) :
    val ((us.set k ((4294967296 + x - y - q) % 4294967296)).take (k + 1)) = val (xs.take (k + 1)) - val (ys.take (k + 1)) + pw (k + 1) * (1 - (4294967296 + x - y - q) / 4294967296) := by
  rw [val_take_succ, val_take_set _ _ _ _ (Nat.le_refl _), getD_set _ _ _ hk, val_take_succ, val_take_succ, hx, hy]
  have h1 := pw_split k (4294967296 + x - y - q)
  have h2 : pw k * (4294967296 + x - y - q) = pw (k + 1) + pw k * x - pw k * y - pw k * q := by
    rw [pw_succ, Int.mul_sub, Int.mul_sub, Int.mul_add]
  rw [Int.mul_sub, Int.mul_one]
  omega

theorem Sl.other {w w' : World} {ay : Option Addr} {m cy b : Nat} {ys : List Int} (h : Sl w ay m cy ys) (hg : w.grownBy w' (some b)) (hne : ∀ b' o, ay = some ⟨b', o, none⟩ → b' ≠ b) : Sl w' ay m cy ys := by
  refine ⟨h.len, h.cap, h.digs, ?_⟩
  rcases h.cells.2 with h1 | ⟨b', off, h1, h2, h3⟩
  · exact .inl h1
  · refine .inr ⟨b', off, h1, Nat.lt_of_lt_of_le h2 hg.size, fun j hj => ?_⟩
    have := hg.block b' h2 (by simpa using hne b' off h1)
    have h4 := h3 j hj
    unfold World.cell? at h4 ⊢
    rw [this]
    exact h4

set_option maxHeartbeats 1000000 in
theorem take_any (w : World) (b n c : Nat) (zs : List Int) (hM : Mine w b n zs) (hc : n ≤ c) (hb1 : n ≤ 4000000) (ay : Option Addr) (m cy : Nat) (ys : List Int) (hY : Sl w ay m cy ys) (hb2 : m ≤ 4000000) (hne : ∀ b' o, ay = some ⟨b', o, none⟩ → b' ≠ b) (hle : val ys ≤ val zs) :
    Calls Try.prog 81 #[.slice (some ⟨b, 0, none⟩) n c, .slice ay m cy] w fun e w' => ∃ zs', e = .returned (.tuple #[]) ∧ Mine w' b n zs' ∧ val zs' = val zs - val ys ∧ w.grownBy w' (some b) ∧ w'.heap.size = w.heap.size := by
  have hzl := hidd hM.len
  have hdz := hidd hM.digs
  have HLE := hidd hle
  have HNE := hidd hne
  clear hle hne
  go_enter Try.func81, Try.ntmps81
  go_wp2
  go_loopw [4, 5] (fun vc vi wr => ∃ (k : Nat) (q : Int) (us : List Int), k ≤ n ∧ vi = .int .i64 k ∧ vc = .int .u64 q ∧ 0 ≤ q ∧ q ≤ 1 ∧ Mine wr b n us ∧ us.drop k = zs.drop k ∧ val (us.take k) = val (zs.take k) - val (ys.take k) + pw k * q ∧ w.grownBy wr (some b) ∧ wr.heap.size = w.heap.size) (fun _ vi _ => n - (intOf vi).toNat)
  case atStart => exact ⟨0, 0, zs, Nat.zero_le _, rfl, rfl, by omega, by omega, hM, rfl, by simp [val], World.grownBy.refl _ _, rfl⟩
  case round =>
    obtain ⟨k, q, us, hk, rfl, rfl, hq0, hq1, hU, hdr, hv, hg, hsz⟩ := hrel
    have HDR := hidd hdr
    have HV := hidd hv
    have HSZ := hidd hsz
    clear hdr hv hsz
    by_cases hkn : k < n
    · obtain ⟨x, hx⟩ : ∃ x, us.getD k 0 = x := ⟨_, rfl⟩
      obtain ⟨y, hy⟩ : ∃ y, ys.getD k 0 = y := ⟨_, rfl⟩
      have hxd := hU.digs.getD k
      have hyd := hY.digs.getD k
      rw [hx] at hxd
      rw [hy] at hyd
      obtain ⟨hx0, hx1⟩ := hxd
      obtain ⟨hy0, hy1⟩ := hyd
      have hcell := hU.cell hkn
      rw [hx] at hcell
      have Hx := hidd hx
      have Hy := hidd hy
      clear hx hy
      have hYr := hY.other hg HNE.out
      go_wp2
      go_quiet ((go_at_call 79; exact Calls.quiet_of_same (word_same _ _ _ _ _ (Sl.drewN hYr _) (by omega) k (by omega) y Hy.out)))
      obtain ⟨w2, hw2⟩ : ∃ w2, w2 = wr.drewN nq := ⟨_, rfl⟩
      rw [← hw2]
      have hU2 : Mine w2 b n us := by rw [hw2]; exact hU.drewN _
      have hg2 : w.grownBy w2 (some b) := by rw [hw2]; exact grown_drewN hg _
      have HS2 : Hid (w2.heap.size = w.heap.size) := by show _ = _; rw [hw2]; exact HSZ.out
      clear hw2 hcell hYr hU hg HSZ
      have hfr := hU2.frozen k
      have hcell := hU2.cell hkn
      go_wp2
      go_roundw
      case rel =>
        have hlen := hU2.len
        have e1 : zs.getD k 0 = x := by
          have := congrArg (fun l => l.getD 0 0) HDR.out
          simp only [getD_drop, Nat.add_zero] at this
          rw [← this]; exact Hx.out
        refine ⟨k + 1, 1 - (4294967296 + x - y - q) / 4294967296, us.set k ((4294967296 + x - y - q) % 4294967296), by omega, by go_num, by go_num, by omega, by omega, hU2.set hkn (by omega) (by omega), ?_, take_step (by omega) HV.out e1 Hy.out, grown_set hg2 _ _, by rw [World.size_setCell]; exact HS2.out⟩
        rw [List.drop_set_of_lt (by omega), ← List.drop_drop, HDR.out, List.drop_drop]
      case measure => simp [intOf]; omega
    · obtain rfl : k = n := by omega
      have HE : Hid (val us = val zs - val ys) := by
        have h1 := HV.out
        rw [val_take_all us (by rw [hU.len]; omega), val_take_all zs (by rw [hzl.out]; omega)] at h1
        have h2 := val_split_any ys k
        have h3 := val_lt hdz.out
        rw [hzl.out] at h3
        have h4 := val_nonneg (hY.digs.drop k)
        have h5 := val_lt hU.digs
        rw [hU.len] at h5
        have h6 := val_nonneg (hY.digs.take k)
        have h7 := val_nonneg hU.digs
        have h8 := HLE.out
        have h9 := pw_pos k
        show val us = _
        have h10 : val (ys.drop k) = 0 := by
          rcases (by omega : val (ys.drop k) = 0 ∨ 1 ≤ val (ys.drop k)) with h | h
          · exact h
          · have := Int.mul_le_mul_of_nonneg_left h (Int.le_of_lt h9)
            omega
        rw [h10, Int.mul_zero] at h2
        rcases (by omega : q = 0 ∨ q = 1) with rfl | rfl
        · omega
        · omega
      go_wp2
      (try simp only [Exit.inBlock, Exit.then])
      exact bodyPost_end (results_none rfl _ _ _) rfl ⟨us, rfl, hU, HE.out, hg, HSZ.out⟩

end Go.Proofs.Ytjpbmghdamcdcaa
