/- Walk: Bezout. -/
import Derived.Test.YtjpbmghdamcdcaaFa
import Derived.Test.YtjpbmghdamcdcaaBz
import Derived.Deep.Cut
namespace Go.Proofs.Ytjpbmghdamcdcaa
open Go Go.RowKit

/-- All have laid their values. -/
def putAll (ops : Array Oper) (vs : Nat → Value) : Nat → Act → Act
  | 0, a => a
  | k + 1, a => (putAll ops vs k a).put (dstOf ops k) (vs k)

theorem lay_all {ops : Array Oper} {L : Nat → Bool} {vs : Nat → Value} : ∀ {k : Nat} {a : Act}, (∀ j, j < k → L j = true) → lay ops L vs k a = putAll ops vs k a
  | 0, _, _ => rfl
  | k + 1, a, h => by simp only [lay, putAll]; rw [if_pos (h k (by omega)), lay_all fun j hj => h j (by omega)]

theorem pw_six (k : Nat) : 6 * pw k ≤ pw (k + 1) := by
  rw [pw_add]
  have e : pw 1 = 4294967296 := rfl
  have := pw_pos k
  rw [e]; omega

theorem num_of {w : World} {v : Value} {z : Int} (h : IsInt w v z) {k : Nat} (hz : ab z < pw k) (hk : k ≤ 900000) : Num w v z := h.num hk hz

theorem BoxNum.made {w : World} {n : Bool} {ao : Option Addr} {k c : Nat} {z : Int} (h : Num w (.agg #[.bool n, .slice ao k c]) z) (t : TypeId) : BoxNum (w.alloc (.cells #[.bool n, .slice ao k c] t)) w.heap.size z :=
  ⟨n, ao, k, c, IntBox.new w _ _ t, h.mono (alloc_below w _)⟩

theorem BoxNum.made0 (w : World) (t : TypeId) : BoxNum (w.alloc (.cells #[.bool false, .slice none 0 0] t)) w.heap.size 0 := BoxNum.zero (IntBox.new w _ _ t)

theorem boxes5 (w : World) {na nb : Bool} {ax ay : Option Addr} {n m cx cy : Nat} {a b : Int} (hA : Num w (.agg #[.bool na, .slice ax n cx]) a) (hB : Num w (.agg #[.bool nb, .slice ay m cy]) b) (t : TypeId) :
    ∃ w0, w0 = ((((w.alloc (.cells #[.bool na, .slice ax n cx] t)).alloc (.cells #[.bool nb, .slice ay m cy] t)).alloc (.cells #[.bool false, .slice none 0 0] t)).alloc (.cells #[.bool false, .slice none 0 0] t)).alloc (.cells #[.bool false, .slice none 0 0] t) ∧
      BoxNum w0 w.heap.size a ∧ BoxNum w0 (w.heap.size + 1) b ∧ BoxNum w0 (w.heap.size + 1 + 1) 0 ∧ BoxNum w0 (w.heap.size + 1 + 1 + 1) 0 ∧ BoxNum w0 (w.heap.size + 1 + 1 + 1 + 1) 0 ∧ Below w.heap.size w w0 ∧ Hid (w0.heap.size = w.heap.size + 5) := by
  obtain ⟨w1, h1⟩ : ∃ w1, w1 = w.alloc (.cells #[.bool na, .slice ax n cx] t) := ⟨_, rfl⟩
  have s1 : w1.heap.size = w.heap.size + 1 := by rw [h1, World.size_alloc]
  have b1 : Below w.heap.size w w1 := by rw [h1]; exact alloc_below _ _
  have x1 : BoxNum w1 w.heap.size a := by rw [h1]; exact BoxNum.made hA t
  have hB1 := hB.mono b1
  rw [← h1]
  obtain ⟨w2, h2⟩ : ∃ w2, w2 = w1.alloc (.cells #[.bool nb, .slice ay m cy] t) := ⟨_, rfl⟩
  have s2 : w2.heap.size = w.heap.size + 1 + 1 := by rw [h2, World.size_alloc, s1]
  have b2 : Below w1.heap.size w1 w2 := by rw [h2]; exact alloc_below _ _
  have x2 : BoxNum w2 (w.heap.size + 1) b := by rw [h2, ← s1]; exact BoxNum.made hB1 t
  rw [← h2]
  obtain ⟨w3, h3⟩ : ∃ w3, w3 = w2.alloc (.cells #[.bool false, .slice none 0 0] t) := ⟨_, rfl⟩
  have s3 : w3.heap.size = w.heap.size + 1 + 1 + 1 := by rw [h3, World.size_alloc, s2]
  have b3 : Below w2.heap.size w2 w3 := by rw [h3]; exact alloc_below _ _
  have x3 : BoxNum w3 (w.heap.size + 1 + 1) 0 := by rw [h3, ← s2]; exact BoxNum.made0 _ t
  rw [← h3]
  obtain ⟨w4, h4⟩ : ∃ w4, w4 = w3.alloc (.cells #[.bool false, .slice none 0 0] t) := ⟨_, rfl⟩
  have s4 : w4.heap.size = w.heap.size + 1 + 1 + 1 + 1 := by rw [h4, World.size_alloc, s3]
  have b4 : Below w3.heap.size w3 w4 := by rw [h4]; exact alloc_below _ _
  have x4 : BoxNum w4 (w.heap.size + 1 + 1 + 1) 0 := by rw [h4, ← s3]; exact BoxNum.made0 _ t
  rw [← h4]
  obtain ⟨w5, h5⟩ : ∃ w5, w5 = w4.alloc (.cells #[.bool false, .slice none 0 0] t) := ⟨_, rfl⟩
  have s5 : w5.heap.size = w.heap.size + 5 := by rw [h5, World.size_alloc, s4]
  have b5 : Below w4.heap.size w4 w5 := by rw [h5]; exact alloc_below _ _
  have x5 : BoxNum w5 (w.heap.size + 1 + 1 + 1 + 1) 0 := by rw [h5, ← s4]; exact BoxNum.made0 _ t
  refine ⟨w5, h5, (((x1.mono b2).mono b3).mono b4).mono b5, ((x2.mono b3).mono b4).mono b5, (x3.mono b4).mono b5, x4.mono b5, x5, ?_, s5⟩
  exact (((b1.trans (b2.mono b1.size)).trans (b3.mono (Nat.le_trans b1.size b2.size))).trans (b4.mono (Nat.le_trans (Nat.le_trans b1.size b2.size) b3.size))).trans (b5.mono (Nat.le_trans (Nat.le_trans (Nat.le_trans b1.size b2.size) b3.size) b4.size))

theorem Num.zero (w : World) : Num w (.agg #[.bool false, .slice none 0 0]) 0 := ⟨false, none, 0, 0, [], rfl, Sl.nil _, by omega, by simp [sgn, val], ⟨fun _ hx => by simp at hx, .inl rfl⟩, by simp⟩

theorem gives_num {w w' : World} {z : Int} {e : Ending} (h : GivesInt w z e w') {k : Nat} (hz : ab z < pw k) (hk : k ≤ 900000) : ∃ v', e = .returned v' ∧ Below w.heap.size w w' ∧ Num w' v' z := by
  obtain ⟨v, rfl, hi, hb⟩ := h
  exact ⟨v, rfl, hb, num_of hi hz hk⟩

theorem OfV (w : World) (z : Int) (h0 : -9223372036854775808 ≤ z) (h1 : z ≤ 9223372036854775807) : Calls Try.prog 45 #[.int .i64 z] w fun e w' => ∃ v', e = .returned v' ∧ Below w.heap.size w w' ∧ Num w' v' z :=
  (Of_any w z h0 h1).mono fun _ _ h => gives_num h (k := 2) (by have e : pw 2 = 18446744073709551616 := rfl; rw [e]; unfold ab; omega) (by omega)

theorem enter_Abs (args : Array Value) (w : World) : (callFunc 27 args).run Try.prog w = .ok (.enter 27 args) w := enter_of Try.func27 (by kernel_rfl) rfl args w
theorem enter_Sign (args : Array Value) (w : World) : (callFunc 31 args).run Try.prog w = .ok (.enter 31 args) w := enter_of Try.func31 (by kernel_rfl) rfl args w
theorem enter_Of (args : Array Value) (w : World) : (callFunc 45 args).run Try.prog w = .ok (.enter 45 args) w := enter_of Try.func45 (by kernel_rfl) rfl args w
theorem enter_Mul (args : Array Value) (w : World) : (callFunc 23 args).run Try.prog w = .ok (.enter 23 args) w := enter_of Try.func23 (by kernel_rfl) rfl args w
theorem enter_Sub (args : Array Value) (w : World) : (callFunc 21 args).run Try.prog w = .ok (.enter 21 args) w := enter_of Try.func21 (by kernel_rfl) rfl args w

theorem ab_ab (z : Int) : ab (ab z) = ab z := ab_of (ab_nonneg z)

theorem cmpI_small (z : Int) : -1 ≤ cmpI z 0 ∧ cmpI z 0 ≤ 1 := by
  unfold cmpI
  split
  · omega
  · split <;> omega

/-- What Bezout leaves. -/
def BezGives (w : World) (a b : Int) (e : Ending) (w' : World) : Prop :=
  Below w.heap.size w w' ∧ ∃ v1 v2 v3 g u v, e = .returned (.tuple #[v1, v2, v3]) ∧ Num w' v1 g ∧ Num w' v2 u ∧ Num w' v3 v ∧ g = (Int.gcd a b : Int) ∧
    ((b = 0 ∧ u = cmpI a 0 ∧ v = 0) ∨ (b ≠ 0 ∧ 0 ≤ u ∧ u < ab b / g ∧ u * a + v * b = g))

theorem div_tup {w w' : World} {z z' : Int} {e : Ending} (h : DivGives w z z' e w') (h0 : z' ≠ 0) {k : Nat} (hq : ab (z / z') < pw k) (hr : ab (z % z') < pw k) (hk : k ≤ 900000) :
    ∃ v', e = .returned v' ∧ Below w.heap.size w w' ∧ (Fact.tup (z / z') (z % z')).holds v' w' := by
  obtain ⟨hb, ⟨h1, _⟩ | ⟨_, vq, vr, rfl, h1, h2⟩⟩ := h
  · exact absurd h1 h0
  · exact ⟨_, rfl, hb, vq, vr, _, rfl, num_of h1 hq hk, num_of h2 hr hk⟩

theorem Num.unique {w : World} {v : Value} {z z' : Int} (h : Num w v z) (h' : Num w v z') : z = z' := by
  obtain ⟨neg, ao, n, c, xs, rfl, hs, _, hz, _⟩ := h
  obtain ⟨neg', ao', n', c', xs', hv, hs', _, hz', _⟩ := h'
  cases hv
  rw [hz, hz', hs.unique hs']

theorem BoxNum.unique {w : World} {b : Nat} {z z' : Int} (h : BoxNum w b z) (h' : BoxNum w b z') : z = z' := by
  obtain ⟨n, ao, k, c, ⟨e0, e1, _, _⟩, hN⟩ := h
  obtain ⟨n', ao', k', c', ⟨f0, f1, _, _⟩, hN'⟩ := h'
  have h0 := e0.symm.trans f0
  have h1 := e1.symm.trans f1
  cases h0
  cases h1
  exact hN.unique hN'

open Classical in
/-- The size of the number in a box: for a measure. -/
noncomputable def boxVal (w : World) (b : Nat) : Nat :=
  if h : ∃ x : Nat, ∃ z, BoxNum w b z ∧ x = z.natAbs then Classical.choose h else 0

theorem boxVal_eq {w : World} {b : Nat} {z : Int} (h : BoxNum w b z) : boxVal w b = z.natAbs := by
  have he : ∃ x : Nat, ∃ z, BoxNum w b z ∧ x = z.natAbs := ⟨_, z, h, rfl⟩
  unfold boxVal
  rw [dif_pos he]
  obtain ⟨z', h', hx⟩ := Classical.choose_spec he
  rw [hx, h.unique h']

/-- The boxes of the arguments and of the results. -/
structure Bx (s : Nat) (a b : Int) (w W : World) : Prop where
  xA : BoxNum W s a
  xB : BoxNum W (s + 1) b
  x4 : BoxNum W (s + 1 + 1) 0
  x5 : BoxNum W (s + 1 + 1 + 1) 0
  x6 : BoxNum W (s + 1 + 1 + 1 + 1) 0
  below : Below s w W
  lt : s + 5 ≤ W.heap.size

theorem Bx.mono {s : Nat} {a b : Int} {w W W' : World} (h : Bx s a b w W) (hb : Below W.heap.size W W') : Bx s a b w W' :=
  ⟨h.xA.mono hb, h.xB.mono hb, h.x4.mono hb, h.x5.mono hb, h.x6.mono hb, h.below.trans (hb.mono (by have := h.lt; omega)), Nat.le_trans h.lt hb.size⟩

theorem Bx.put {s : Nat} {a b y : Int} {w W : World} {c : Nat} (h : Bx s a b w W) (hb : BoxNum W c y) (hc : s + 5 ≤ c) (n' : Bool) (a' : Option Addr) (k' c' : Nat) : Bx s a b w (putBox W c n' a' k' c') :=
  ⟨h.xA.putOther hb (by omega) _ _ _ _, h.xB.putOther hb (by omega) _ _ _ _, h.x4.putOther hb (by omega) _ _ _ _, h.x5.putOther hb (by omega) _ _ _ _, h.x6.putOther hb (by omega) _ _ _ _, belowPut h.below (by omega) _ _ _ _, by rw [putBox_size]; exact h.lt⟩

/-- The boxes of the loop. -/
structure Bl (b7 b8 b9 b10 : Nat) (r rr u uu : Int) (W : World) : Prop where
  x7 : BoxNum W b7 r
  x8 : BoxNum W b8 rr
  x9 : BoxNum W b9 u
  x10 : BoxNum W b10 uu

theorem Bl.mono {b7 b8 b9 b10 : Nat} {r rr u uu : Int} {W W' : World} (h : Bl b7 b8 b9 b10 r rr u uu W) (hb : Below W.heap.size W W') : Bl b7 b8 b9 b10 r rr u uu W' :=
  ⟨h.x7.mono hb, h.x8.mono hb, h.x9.mono hb, h.x10.mono hb⟩

set_option maxHeartbeats 2000000 in
theorem Bezout_any (w : World) {na nb : Bool} {ax ay : Option Addr} {n m cx cy : Nat} {a b : Int} (hA : Num w (.agg #[.bool na, .slice ax n cx]) a) (hB : Num w (.agg #[.bool nb, .slice ay m cy]) b) {K : Nat} (hKa : ab a < pw K) (hKb : ab b < pw K) (hK : K ≤ 400000) :
    Calls Try.prog 15 #[.agg #[.bool na, .slice ax n cx], .agg #[.bool nb, .slice ay m cy]] w (BezGives w a b) := by
  have hal := hA.lt
  go_enter Try.func15, Try.ntmps15
  go_upto_region 1 with (fail)
  obtain ⟨w0, hw0, xA, xB, r4, r5, r6, hbl, HS⟩ := boxes5 w hA hB 27
  rw [← hw0]
  clear hw0
  have hN := xB
  obtain ⟨nb', ay', m', cy', ⟨c0, c1, _, _⟩, hN⟩ := hN
  go_wp2_with fail
  refine (SignV hN).mono ?_
  rintro e w1 ⟨rfl, hb1⟩
  have xA1 := xA.mono hb1
  have xB1 := xB.mono hb1
  have x41 := r4.mono hb1
  have x51 := r5.mono hb1
  have x61 := r6.mono hb1
  have hbl1 := hbl.trans (hb1.mono hbl.size)
  have HS1 : Hid (w.heap.size + 5 ≤ w1.heap.size) := by show _ ≤ _; have := HS.out; have := hb1.size; omega
  clear xA xB r4 r5 r6 hbl hb1 c0 c1 hN HS hA hB
  by_cases hb0 : b = 0
  · have hc : cmpI b 0 = 0 := cmpI_zero.2 hb0
    rw [hc]
    clear hc
    go_wp2
    have hp : (mkPlan [.num a, .num (ab a), .num a, .int (cmpI a 0), .num (cmpI a 0), .num 0] [(w.heap.size, 1000, a, a), (w.heap.size + 1 + 1, 6, 0, ab a), (w.heap.size + 1 + 1 + 1, 7, 0, cmpI a 0), (w.heap.size + 1 + 1 + 1 + 1, 8, 0, 0)] []).Ok w.heap.size w1.heap.size :=
      mkPlan_ok (by have := HS1.out; simp; omega) (by simp; omega) (by simp) (by have := HS1.out; omega)
    refine region_steps (p := mkPlan [.num a, .num (ab a), .num a, .int (cmpI a 0), .num (cmpI a 0), .num 0] [(w.heap.size, 1000, a, a), (w.heap.size + 1 + 1, 6, 0, ab a), (w.heap.size + 1 + 1 + 1, 7, 0, cmpI a 0), (w.heap.size + 1 + 1 + 1 + 1, 8, 0, 0)] []) (B := w.heap.size) (B0 := w1.heap.size) (w0 := w) (by kernel_rfl) rfl rfl
      (mkPlan_start (by simp; exact ⟨xA1, x41, x51, x61⟩) hbl1) ⟨?_, ?_, ?_, ?_, ?_, ?_, ?_, ?_, ?_, trivial⟩ ?_
    · exact st_load hp (.head _) (.inl rfl) rfl rfl (fun v w h => h) ⟨by simp [mkPlan], by simp [mkPlan]⟩
    · exact st_call1 (j := 0) hp rfl rfl (by simp) rfl enter_Abs (fun v w h => (AbsV h).mono fun e w' h' => gives_num h' (by show ab (ab a) < _; rw [ab_ab]; exact hal) (Nat.le_refl _)) ⟨by simp [mkPlan], by simp [mkPlan]⟩
    · exact st_load hp (.head _) (.inl rfl) rfl rfl (fun v w h => h) ⟨by simp [mkPlan], by simp [mkPlan]⟩
    · exact st_call1 (j := 2) hp rfl rfl (by simp) rfl enter_Sign (fun v w h => (SignV h).mono fun e w' h' => ⟨_, h'.1, h'.2, rfl⟩) ⟨by simp [mkPlan], by simp [mkPlan]⟩
    · exact st_call1 (j := 3) hp rfl rfl (by simp) rfl enter_Of (fun v w h => by have h' : v = .int .i64 (cmpI a 0) := h; subst h'; have := cmpI_small a; exact OfV _ _ (by omega) (by omega)) ⟨by simp [mkPlan], by simp [mkPlan]⟩
    · exact st_zero hp (fun w => Num.zero w) ⟨by simp [mkPlan], by simp [mkPlan]⟩
    · exact st_storeOld (j := 1) hp rfl (.tail _ (.head _)) rfl rfl rfl (by simp) rfl (fun v w h => h) (fun _ _ => trivial) (by simp [mkPlan]) (by simp [mkPlan])
    · exact st_storeOld (j := 4) hp rfl (.tail _ (.tail _ (.head _))) rfl rfl rfl (by simp) rfl (fun v w h => h) (fun _ _ => trivial) (by simp [mkPlan]) (by simp [mkPlan])
    · exact st_storeOld (j := 5) hp rfl (.tail _ (.tail _ (.tail _ (.head _)))) rfl rfl rfl (by simp) rfl (fun v w h => h) (fun _ _ => trivial) (by simp [mkPlan]) (by simp [mkPlan])
    · intro L vs w2 hL hG
      have y4 : BoxNum w2 (w.heap.size + 1 + 1) (ab a) := by have := hG.old _ (.tail _ (.head _)); simpa [hL 6 (by simp)] using this
      have y5 : BoxNum w2 (w.heap.size + 1 + 1 + 1) (cmpI a 0) := by have := hG.old _ (.tail _ (.tail _ (.head _))); simpa [hL 7 (by simp)] using this
      have y6 : BoxNum w2 (w.heap.size + 1 + 1 + 1 + 1) 0 := by have := hG.old _ (.tail _ (.tail _ (.tail _ (.head _)))); simpa [hL 8 (by simp)] using this
      have hbl2 := hG.below
      have hl : ∀ j, j < 9 → L j = true := hL
      rw [lay_all hL]
      clear hL hG hl hp xA1 xB1 x41 x51 x61 hbl1
      simp only [putAll, dstOf, List.length_cons, List.length_nil, Nat.zero_add, Nat.reduceAdd, List.getElem?_toArray, List.getElem?_cons_zero, List.getElem?_cons_succ, Option.bind_some, Act.put, List.setIfInBounds_toArray, List.set_cons_succ, List.set_cons_zero]
      obtain ⟨n4, a4, k4, c4, ⟨e0, e1, _, _⟩, N4⟩ := y4
      obtain ⟨n5, a5, k5, c5, ⟨f0, f1, _, _⟩, N5⟩ := y5
      obtain ⟨n6, a6, k6, c6, ⟨g0, g1, _, _⟩, N6⟩ := y6
      go_wp2
      refine bodyPost_ret (v := .tuple #[.agg #[.bool n4, .slice a4 k4 c4], .agg #[.bool n5, .slice a5 k5 c5], .agg #[.bool n6, .slice a6 k6 c6]]) ?_ rfl ⟨hbl2, _, _, _, ab a, cmpI a 0, 0, rfl, N4, N5, N6, ?_, .inl ⟨hb0, rfl, rfl⟩⟩
      · simp [results, Try.results15, go_sem, e0, e1, f0, f1, g0, g1]
      · rw [hb0, Int.gcd_zero_right]; rfl
  · have hc : cmpI b 0 ≠ 0 := fun h => hb0 (cmpI_zero.1 h)
    generalize cmpI b 0 = t at *
    have hcb : (t == 0) = false := by simp [hc]
    clear hc
    go_wp2
    have hp : (mkPlan [.num a, .num b] [(w.heap.size, 1000, a, a), (w.heap.size + 1, 1001, b, b), (w.heap.size + 1 + 1, 1002, 0, 0), (w.heap.size + 1 + 1 + 1, 1003, 0, 0), (w.heap.size + 1 + 1 + 1 + 1, 1004, 0, 0)] [(2, 4, a), (3, 5, b)]).Ok w.heap.size w1.heap.size :=
      mkPlan_ok (by have := HS1.out; simp; omega) (by simp; omega) (by simp) (by have := HS1.out; omega)
    refine region_steps (p := mkPlan [.num a, .num b] [(w.heap.size, 1000, a, a), (w.heap.size + 1, 1001, b, b), (w.heap.size + 1 + 1, 1002, 0, 0), (w.heap.size + 1 + 1 + 1, 1003, 0, 0), (w.heap.size + 1 + 1 + 1 + 1, 1004, 0, 0)] [(2, 4, a), (3, 5, b)]) (B := w.heap.size) (B0 := w1.heap.size) (w0 := w) (by kernel_rfl) rfl rfl
      (mkPlan_start (by simp; exact ⟨xA1, xB1, x41, x51, x61⟩) hbl1) ⟨?_, ?_, ?_, ?_, ?_, ?_, trivial⟩ ?_
    · exact st_load hp (.head _) (.inl rfl) rfl rfl (fun v w h => h) ⟨by simp [mkPlan], by simp [mkPlan]⟩
    · exact st_load hp (.tail _ (.head _)) (.inl rfl) rfl rfl (fun v w h => h) ⟨by simp [mkPlan], by simp [mkPlan]⟩
    · exact st_alloc (k := 4) hp (.head _) rfl (fun _ _ => trivial) (by simp [mkPlan]) (by simp [mkPlan])
    · exact st_alloc (k := 5) hp (.tail _ (.head _)) rfl (fun _ _ => trivial) (by simp [mkPlan]) (by simp [mkPlan])
    · exact st_storeNew (i0 := 2) (j := 0) hp rfl (.head _) rfl (by simp) rfl rfl (by simp) rfl (fun v w h => h) (fun _ _ => trivial) (by simp [mkPlan]) (by simp [mkPlan])
    · exact st_storeNew (i0 := 3) (j := 1) hp rfl (.tail _ (.head _)) rfl (by simp) rfl rfl (by simp) rfl (fun v w h => h) (fun _ _ => trivial) (by simp [mkPlan]) (by simp [mkPlan])
    intro L vs w2 hL hG
    have hl : ∀ j, j < 6 → L j = true := hL
    have xA2 : BoxNum w2 w.heap.size a := by have := hG.old _ (.head _); simpa using this
    have xB2 : BoxNum w2 (w.heap.size + 1) b := by have := hG.old _ (.tail _ (.head _)); simpa using this
    have x42 : BoxNum w2 (w.heap.size + 1 + 1) 0 := by have := hG.old _ (.tail _ (.tail _ (.head _))); simpa using this
    have x52 : BoxNum w2 (w.heap.size + 1 + 1 + 1) 0 := by have := hG.old _ (.tail _ (.tail _ (.tail _ (.head _)))); simpa using this
    have x62 : BoxNum w2 (w.heap.size + 1 + 1 + 1 + 1) 0 := by have := hG.old _ (.tail _ (.tail _ (.tail _ (.tail _ (.head _))))); simpa using this
    obtain ⟨p7, q7, hp7, x72⟩ := hG.new _ (.head _) (hl 2 (by omega))
    obtain ⟨p8, q8, hp8, x82⟩ := hG.new _ (.tail _ (.head _)) (hl 3 (by omega))
    have h78 := hG.apart _ (.head _) _ (.tail _ (.head _)) (by simp) (hl 2 (by omega)) (hl 3 (by omega))
    replace q7 : vs 2 = .pointer (some ⟨p7, 0, none⟩) := q7
    replace q8 : vs 3 = .pointer (some ⟨p8, 0, none⟩) := q8
    replace x72 : BoxNum w2 p7 a := by simpa [hl 4 (by omega)] using x72
    replace x82 : BoxNum w2 p8 b := by simpa [hl 5 (by omega)] using x82
    replace h78 : p7 ≠ p8 := fun e => h78 (by show vs 2 = vs 3; rw [q7, q8, e])
    have hbl2 := hG.below
    rw [lay_all hL]
    clear hL hG hl hp xA1 xB1 x41 x51 x61 hbl1
    simp only [putAll, dstOf, List.length_cons, List.length_nil, Nat.zero_add, Nat.reduceAdd, List.getElem?_toArray, List.getElem?_cons_zero, List.getElem?_cons_succ, Option.bind_some, Act.put, List.setIfInBounds_toArray, List.set_cons_succ, List.set_cons_zero]
    rw [q7, q8]
    generalize vs 0 = u30
    generalize vs 1 = u31
    clear q7 q8 vs L
    go_wp2_with fail
    refine (OfV w2 1 (by omega) (by omega)).mono ?_
    rintro e w3 ⟨v1, rfl, hb3, N1⟩
    go_wp2_with fail
    refine (OfV w3 0 (by omega) (by omega)).mono ?_
    rintro e w4 ⟨v2, rfl, hb4, N2⟩
    obtain ⟨d1, a1, k1, c1, rfl⟩ := N1.parts
    obtain ⟨d2, a2, k2, c2, rfl⟩ := N2.parts
    have N1' := N1.mono hb4
    have hb24 := hb3.trans (hb4.mono hb3.size)
    have xA4 := xA2.mono hb24
    have xB4 := xB2.mono hb24
    have x44 := x42.mono hb24
    have x54 := x52.mono hb24
    have x64 := x62.mono hb24
    have x74 := x72.mono hb24
    have x84 := x82.mono hb24
    have hbl4 := hbl2.trans (hb24.mono hbl2.size)
    have HS4 : Hid (p7 < w4.heap.size ∧ p8 < w4.heap.size) := ⟨x74.lt, x84.lt⟩
    clear xA2 xB2 x42 x52 x62 x72 x82 hb24 hb3 hb4 N1 hbl2
    have hs5 : w.heap.size + 5 ≤ w1.heap.size := HS1.out
    have hw14 : w1.heap.size ≤ w4.heap.size := by have := HS4.out; omega
    have hX4 : Bx w.heap.size a b w w4 := ⟨xA4, xB4, x44, x54, x64, hbl4, by omega⟩
    clear xA4 xB4 x44 x54 x64 hbl4 HS1
    obtain ⟨w5, b9, b10, hw5, h9e, h10e⟩ : ∃ w5 b9 b10, w5 = (w4.alloc (.cells #[.bool d1, .slice a1 k1 c1] 27)).alloc (.cells #[.bool d2, .slice a2 k2 c2] 27) ∧ b9 = w4.heap.size ∧ b10 = w4.heap.size + 1 := ⟨_, _, _, rfl, rfl, rfl⟩
    go_wp2
    rw [← hw5, ← h10e, ← h9e]
    have hBx : Bx w.heap.size a b w w5 := by rw [hw5]; exact (hX4.mono (alloc_below _ _)).mono (alloc_below _ _)
    have hBl : Bl p7 p8 b9 b10 a b 1 0 w5 := by
      have x1 := (BoxNum.made N1' 27).mono (alloc_below _ (.cells #[.bool d2, .slice a2 k2 c2] 27))
      have x2 := BoxNum.made (N2.mono (alloc_below w4 (.cells #[.bool d1, .slice a1 k1 c1] 27))) 27
      rw [World.size_alloc] at x2
      rw [hw5, h9e, h10e]
      exact ⟨(x74.mono (alloc_below _ _)).mono (alloc_below _ _), (x84.mono (alloc_below _ _)).mono (alloc_below _ _), x1, x2⟩
    have H910 : Hid (w.heap.size + 5 ≤ p7 ∧ w.heap.size + 5 ≤ p8 ∧ w.heap.size + 5 ≤ b9 ∧ w.heap.size + 5 ≤ b10 ∧ p7 ≠ p8 ∧ p7 ≠ b9 ∧ p7 ≠ b10 ∧ p8 ≠ b9 ∧ p8 ≠ b10 ∧ b9 ≠ b10) := by
      show _ ∧ _
      have := HS4.out
      omega
    have hI0 := bez_start (a := a) hb0
    clear hX4 x74 x84 N1' N2 hw5 h9e h10e HS4 hs5 hw14 hp7 hp8 h78
    go_loopw [13] (fun _ W => ∃ r rr u uu, BezInv a b r rr u uu ∧ Bx w.heap.size a b w W ∧ Bl p7 p8 b9 b10 r rr u uu W) (fun _ W => boxVal W p8)
    case atStart => exact ⟨a, b, 1, 0, hI0, hBx, hBl⟩
    case round =>
      obtain ⟨r, rr, u, uu, hI, hx, hl⟩ := hrel
      clear hBx hBl hI0
      have h8 := hl.x8
      obtain ⟨n8, a8, k8, c8, ⟨e0, e1, _, _⟩, N8⟩ := h8
      go_wp2_with fail
      refine (SignV N8).mono ?_
      rintro e w6 ⟨rfl, hb6⟩
      have hx6 := hx.mono hb6
      have hl6 := hl.mono hb6
      have hbv : boxVal wr p8 = rr.natAbs := boxVal_eq hl.x8
      have HBV := hidd hbv
      clear hx hl e0 e1 N8 hb6 hbv
      by_cases h0 : rr = 0
      · subst h0
        have hc : cmpI 0 0 = 0 := rfl
        rw [hc]
        clear hc
        have h7 := hl6.x7
        obtain ⟨n7, a7, k7, c7, ⟨f0, f1, _, _⟩, N7⟩ := h7
        obtain ⟨g, hge⟩ : ∃ g, g = ab r := ⟨_, rfl⟩
        obtain ⟨hgg, hgp, hgk, hgu⟩ := bez_end hb0 hI
        have hKr : ab r < pw K := by rcases hI.2.2.2.2.2.1 with h | h <;> omega
        rw [← hge] at hgg hgp hgk hKr
        obtain ⟨lm0, lu0, lu1, lv⟩ := bez_last hb0 hgg hgk
        obtain ⟨u', hu'⟩ : ∃ u', u' = u % (ab b / g) := ⟨_, rfl⟩
        rw [← hu'] at lu0 lu1 lv
        have hbb := ab_nonneg b
        have hdm := Int.mul_ediv_add_emod (ab b) g
        have hm0 := Int.emod_nonneg (ab b) (show g ≠ 0 by omega)
        have hmq : ab b / g ≤ ab b := by
          have h1 := Int.mul_le_mul_of_nonneg_right (show 1 ≤ g by omega) (show 0 ≤ ab b / g by omega)
          omega
        have hmr : ab b % g ≤ ab b := by
          have h1 := Int.mul_nonneg (show 0 ≤ g by omega) (show 0 ≤ ab b / g by omega)
          omega
        have hp6 := pw_six K
        have hp2 : pw (K + K) = pw K * pw K := pw_add K K
        have hp7 := pw_six (K + K)
        have hpk := pw_pos K
        have hKm : ab (ab b / g) < pw K := by rw [ab_of (by omega)]; omega
        have hKn : ab (ab b % g) < pw K := by rw [ab_of hm0]; omega
        have hKu' : ab u' < pw K := by rw [ab_of lu0]; omega
        have hKua : ab (u' * a) < pw (K + K) := by
          rw [ab_mul, hp2]
          have h1 := Int.mul_le_mul_of_nonneg_left (show ab a ≤ pw K by omega) (ab_nonneg u')
          have h2 := Int.mul_lt_mul_of_pos_right hKu' hpk
          omega
        have hpkk : pw K ≤ pw (K + K) := pw_le (by omega)
        have hKs : ab (g - u' * a) < pw (K + K + 1) := by
          have h1 := ab_sub g (u' * a)
          have h2 : ab g = g := ab_of (by omega)
          omega
        have hKv : ab ((g - u' * a) / b) < pw (K + K + 1) := by
          have h1 := Int.natAbs_ediv_le_natAbs (g - u' * a) b
          have h2 : ab ((g - u' * a) / b) ≤ ab (g - u' * a) := by unfold ab; omega
          omega
        have hKw : ab ((g - u' * a) % b) < pw (K + K + 1) := by
          have h1 := Int.emod_nonneg (g - u' * a) hb0
          have h2 := Int.emod_lt (g - u' * a) hb0
          have h3 : ab ((g - u' * a) % b) < ab b := by rw [ab_of h1]; unfold ab; exact h2
          omega
        have hfin : u' * a + (g - u' * a) / b * b = g := by rw [lv]; omega
        have hgcd : Hid (g = (Int.gcd a b : Int)) := hgg
        have HG := hidd hge
        clear hgg hge lv hdm hp6 hp2 hp7 hpk hpkk hgk hgu hI
        go_wp2_with fail
        refine (AbsV N7).mono ?_
        rintro e w7 ⟨vg, rfl, hg, hb7⟩
        have Ng : Num w7 vg g := by rw [HG.out]; exact num_of hg (k := K) (by show ab (ab r) < _; rw [ab_ab, ← HG.out]; exact hKr) (by omega)
        obtain ⟨m1, q1, j1, o1, rfl⟩ := Ng.parts
        have hx7 := hx6.mono hb7
        have hl7 := hl6.mono hb7
        clear hx6 hl6 hb7 f0 f1 N7 hg
        obtain ⟨w8, b14, hw8, h14e⟩ : ∃ w8 b14, w8 = w7.alloc (.cells #[.bool m1, .slice q1 j1 o1] 27) ∧ b14 = w7.heap.size := ⟨_, _, rfl, rfl⟩
        go_wp2
        rw [← hw8, ← h14e]
        have hx8 : Bx w.heap.size a b w w8 := by rw [hw8]; exact hx7.mono (alloc_below _ _)
        have hl8 : BoxNum w8 b9 u := by rw [hw8]; exact hl7.x9.mono (alloc_below _ _)
        have x14 : BoxNum w8 b14 g := by rw [hw8, h14e]; exact BoxNum.made Ng 27
        have H14 : Hid (w.heap.size + 5 ≤ b14 ∧ b9 < b14) := by
          have h1 := hl7.x9.lt
          have h2 := hx7.lt
          show _ ∧ _
          omega
        clear hw8 h14e hx7 hl7 Ng
        have hp : (mkPlan [.num b, .num (ab b), .num g, .tup (ab b / g) (ab b % g), .tup (ab b / g) (ab b % g), .num (ab b / g), .num (ab b % g)] [(b9, 1001, u, u), (b14, 1002, g, g), (w.heap.size, 1010, a, a), (w.heap.size + 1, 1011, b, b), (w.heap.size + 1 + 1, 1012, 0, 0), (w.heap.size + 1 + 1 + 1, 1013, 0, 0), (w.heap.size + 1 + 1 + 1 + 1, 1014, 0, 0)] [(8, 10, ab b / g), (9, 11, ab b % g)]).Ok w.heap.size w8.heap.size :=
          mkPlan_ok (by have h1 := H14.out; have h2 := H910.out; have h3 := hx8.lt; have h4 := x14.lt; simp; omega) (by have h1 := H14.out; have h2 := H910.out; simp; omega) (by simp) (by have := hx8.lt; omega)
        refine region_steps (p := mkPlan [.num b, .num (ab b), .num g, .tup (ab b / g) (ab b % g), .tup (ab b / g) (ab b % g), .num (ab b / g), .num (ab b % g)] [(b9, 1001, u, u), (b14, 1002, g, g), (w.heap.size, 1010, a, a), (w.heap.size + 1, 1011, b, b), (w.heap.size + 1 + 1, 1012, 0, 0), (w.heap.size + 1 + 1 + 1, 1013, 0, 0), (w.heap.size + 1 + 1 + 1 + 1, 1014, 0, 0)] [(8, 10, ab b / g), (9, 11, ab b % g)]) (B := w.heap.size) (B0 := w8.heap.size) (w0 := w) (by kernel_rfl) rfl rfl
          (mkPlan_start (by simp; exact ⟨hl8, x14, hx8.xA, hx8.xB, hx8.x4, hx8.x5, hx8.x6⟩) hx8.below) ⟨?_, ?_, ?_, ?_, ?_, ?_, ?_, ?_, ?_, ?_, ?_, ?_, ?_, trivial⟩ ?_
        · exact st_load (b := w.heap.size + 1) (k := 1011) (z := b) (z' := b) hp (by simp [mkPlan]) (.inl rfl) rfl rfl (fun v w h => h) ⟨by simp [mkPlan], by simp [mkPlan]⟩
        · exact st_call1 (j := 0) hp rfl rfl (by simp) rfl enter_Abs (fun v w h => (AbsV h).mono fun e w' h' => gives_num h' (k := K) (by show ab (ab b) < _; rw [ab_ab]; exact hKb) (by omega)) ⟨by simp [mkPlan], by simp [mkPlan]⟩
        · exact st_load (b := b14) (k := 1002) (z := g) (z' := g) hp (by simp [mkPlan]) (.inl rfl) rfl rfl (fun v w h => h) ⟨by simp [mkPlan], by simp [mkPlan]⟩
        · exact st_call2 (j := 1) (j' := 2) hp rfl rfl (by simp) rfl rfl (by simp) rfl enter_DivMod (fun v v' w h h' => (DivModV h h').mono fun e w' h' => div_tup h' (by omega) hKm hKn (by omega)) ⟨by simp [mkPlan], by simp [mkPlan]⟩
        · exact st_move (j := 3) hp rfl rfl (by simp) rfl (fun v w h => h) ⟨by simp [mkPlan], by simp [mkPlan]⟩
        · exact st_extract (j := 4) hp rfl rfl (by simp) rfl (fun v w h => by obtain ⟨v1, v2, v3, h0, h1, h2⟩ := h; exact ⟨_, v1, h0, rfl, h1⟩) ⟨by simp [mkPlan], by simp [mkPlan]⟩
        · exact st_extract (j := 4) hp rfl rfl (by simp) rfl (fun v w h => by obtain ⟨v1, v2, v3, h0, h1, h2⟩ := h; exact ⟨_, v2, h0, rfl, h2⟩) ⟨by simp [mkPlan], by simp [mkPlan]⟩
        · exact st_extract (j := 4) hp rfl rfl (by simp) rfl (fun v w h => by obtain ⟨v1, v2, v3, h0, h1, h2⟩ := h; exact ⟨_, v3, h0, rfl, trivial⟩) ⟨by simp [mkPlan], by simp [mkPlan]⟩
        · exact st_alloc (k := 10) (z := ab b / g) hp (by simp [mkPlan]) rfl (fun _ _ => trivial) (by simp [mkPlan]) (by simp [mkPlan])
        · exact st_alloc (k := 11) (z := ab b % g) hp (by simp [mkPlan]) rfl (fun _ _ => trivial) (by simp [mkPlan]) (by simp [mkPlan])
        · exact st_storeNew (i0 := 8) (j := 5) (z := ab b / g) hp rfl (by simp [mkPlan]) rfl (by simp) rfl rfl (by simp) rfl (fun v w h => h) (fun _ _ => trivial) (by simp [mkPlan]) (by simp [mkPlan])
        · exact st_storeNew (i0 := 9) (j := 6) (z := ab b % g) hp rfl (by simp [mkPlan]) rfl (by simp) rfl rfl (by simp) rfl (fun v w h => h) (fun _ _ => trivial) (by simp [mkPlan]) (by simp [mkPlan])
        · exact st_assign (j := 7) hp rfl rfl (by simp) rfl (fun v w h => trivial) ⟨by simp [mkPlan], by simp [mkPlan]⟩
        intro L vs w9 hL hG
        have hls : ∀ j, j < 13 → L j = true := hL
        have y9 : BoxNum w9 (b9) (u) := by have := hG.old (b9, 1001, u, u) (by simp [mkPlan]); simpa using this
        have y14 : BoxNum w9 (b14) (g) := by have := hG.old (b14, 1002, g, g) (by simp [mkPlan]); simpa using this
        have yA : BoxNum w9 (w.heap.size) (a) := by have := hG.old (w.heap.size, 1010, a, a) (by simp [mkPlan]); simpa using this
        have yB : BoxNum w9 (w.heap.size + 1) (b) := by have := hG.old (w.heap.size + 1, 1011, b, b) (by simp [mkPlan]); simpa using this
        have y4 : BoxNum w9 (w.heap.size + 1 + 1) (0) := by have := hG.old (w.heap.size + 1 + 1, 1012, 0, 0) (by simp [mkPlan]); simpa using this
        have y5 : BoxNum w9 (w.heap.size + 1 + 1 + 1) (0) := by have := hG.old (w.heap.size + 1 + 1 + 1, 1013, 0, 0) (by simp [mkPlan]); simpa using this
        have y6 : BoxNum w9 (w.heap.size + 1 + 1 + 1 + 1) (0) := by have := hG.old (w.heap.size + 1 + 1 + 1 + 1, 1014, 0, 0) (by simp [mkPlan]); simpa using this
        obtain ⟨p15, q15, hp15, y15⟩ := hG.new (8, 10, ab b / g) (by simp [mkPlan]) (hls 8 (by omega))
        obtain ⟨p16, q16, hp16, y16⟩ := hG.new (9, 11, ab b % g) (by simp [mkPlan]) (hls 9 (by omega))
        replace q15 : vs 8 = .pointer (some ⟨p15, 0, none⟩) := q15
        replace q16 : vs 9 = .pointer (some ⟨p16, 0, none⟩) := q16
        replace y15 : BoxNum w9 p15 (ab b / g) := by simpa [hls 10 (by omega)] using y15
        have hbl9 := hG.below
        have hx9 : Bx w.heap.size a b w w9 := ⟨yA, yB, y4, y5, y6, hbl9, by have := hG.size; have := hx8.lt; omega⟩
        rw [lay_all hL]
        clear hL hG hls hp hx8 hl8 x14 yA yB y4 y5 y6 y16 hbl9
        simp only [putAll, dstOf, List.length_cons, List.length_nil, Nat.zero_add, Nat.reduceAdd, List.getElem?_toArray, List.getElem?_cons_zero, List.getElem?_cons_succ, Option.bind_some, Act.put, List.setIfInBounds_toArray, List.set_cons_succ, List.set_cons_zero]
        rw [q15, q16]
        generalize vs 0 = u55
        generalize vs 1 = u56
        generalize vs 2 = u57
        generalize vs 3 = u58
        generalize vs 4 = u54
        generalize vs 5 = u59
        generalize vs 6 = u60
        generalize vs 7 = u61
        generalize vs 12 = u17
        clear q15 q16 vs L
        have h9 := y9
        have h15 := y15
        obtain ⟨n9, a9, k9, c9, ⟨e0, e1, e2, e3⟩, N9⟩ := h9
        obtain ⟨n15, a15, k15, c15, ⟨f0, f1, _, _⟩, N15⟩ := h15
        go_wp2_with fail
        refine (DivModV N9 N15).mono ?_
        rintro e wb ⟨hb, ⟨h0', _⟩ | ⟨_, vq, vr, rfl, hq2, hr2⟩⟩
        · exact absurd h0' (by omega)
        have N' : Num wb vr u' := by rw [hu']; exact num_of hr2 (k := K) (by rw [← hu']; exact hKu') (by omega)
        obtain ⟨m2, q2, j2, o2, rfl⟩ := N'.parts
        have hxb := hx9.mono hb
        have y9b := y9.mono hb
        have y14b := y14.mono hb
        have HU := hidd hu'
        have HN : Hid (p15 < p15 + 1) := Nat.lt_succ_self _
        clear hx9 y9 y14 y15 e0 e1 e2 e3 f0 f1 N9 N15 hb hq2 hr2 hu' hp15 hp16
        have h9 := y9b
        obtain ⟨n9, a9, k9, c9, ⟨e0, e1, e2, e3⟩, N9⟩ := h9
        obtain ⟨wc, hwc⟩ : ∃ wc, wc = putBox wb b9 m2 q2 j2 o2 := ⟨_, rfl⟩
        have hwc' : wc = (wb.setCell ⟨b9, 0, none⟩ (.bool m2)).setCell ⟨b9, 1, none⟩ (.slice q2 j2 o2) := hwc
        go_wp2
        rw [← hwc']
        have hlb9 : w.heap.size + 5 ≤ b9 := H910.out.2.2.1
        have hxc : Bx w.heap.size a b w wc := by rw [hwc]; exact hxb.put y9b hlb9 _ _ _ _
        have y9c : BoxNum wc b9 u' := by rw [hwc]; exact y9b.putSame N'
        have y14c : BoxNum wc b14 g := by rw [hwc]; exact y14b.putOther y9b (by have := H14.out; omega) _ _ _ _
        clear hwc hwc' hxb y9b y14b e0 e1 e2 e3 N9 N'
        have hp : (mkPlan [.num g, .num u', .num a, .num (u' * a), .num (g - u' * a), .num b, .tup ((g - u' * a) / b) ((g - u' * a) % b), .tup ((g - u' * a) / b) ((g - u' * a) % b), .num ((g - u' * a) / b), .num ((g - u' * a) % b)] [(b9, 1001, u', u'), (b14, 1002, g, g), (w.heap.size, 1010, a, a), (w.heap.size + 1, 1011, b, b), (w.heap.size + 1 + 1, 1012, 0, 0), (w.heap.size + 1 + 1 + 1, 1013, 0, 0), (w.heap.size + 1 + 1 + 1 + 1, 1014, 0, 0)] [(11, 13, (g - u' * a) / b), (12, 14, (g - u' * a) % b)]).Ok w.heap.size wc.heap.size :=
          mkPlan_ok (by have h1 := H14.out; have h2 := H910.out; have h3 := hxc.lt; have h4 := y14c.lt; simp; omega) (by have h1 := H14.out; have h2 := H910.out; simp; omega) (by simp) (by have := hxc.lt; omega)
        refine region_steps (p := mkPlan [.num g, .num u', .num a, .num (u' * a), .num (g - u' * a), .num b, .tup ((g - u' * a) / b) ((g - u' * a) % b), .tup ((g - u' * a) / b) ((g - u' * a) % b), .num ((g - u' * a) / b), .num ((g - u' * a) % b)] [(b9, 1001, u', u'), (b14, 1002, g, g), (w.heap.size, 1010, a, a), (w.heap.size + 1, 1011, b, b), (w.heap.size + 1 + 1, 1012, 0, 0), (w.heap.size + 1 + 1 + 1, 1013, 0, 0), (w.heap.size + 1 + 1 + 1 + 1, 1014, 0, 0)] [(11, 13, (g - u' * a) / b), (12, 14, (g - u' * a) % b)]) (B := w.heap.size) (B0 := wc.heap.size) (w0 := w) (by kernel_rfl) rfl rfl
          (mkPlan_start (by simp; exact ⟨y9c, y14c, hxc.xA, hxc.xB, hxc.x4, hxc.x5, hxc.x6⟩) hxc.below) ⟨?_, ?_, ?_, ?_, ?_, ?_, ?_, ?_, ?_, ?_, ?_, ?_, ?_, ?_, ?_, ?_, trivial⟩ ?_
        · exact st_load (b := b14) (k := 1002) (z := g) (z' := g) hp (by simp [mkPlan]) (.inl rfl) rfl rfl (fun v w h => h) ⟨by simp [mkPlan], by simp [mkPlan]⟩
        · exact st_load (b := b9) (k := 1001) (z := u') (z' := u') hp (by simp [mkPlan]) (.inl rfl) rfl rfl (fun v w h => h) ⟨by simp [mkPlan], by simp [mkPlan]⟩
        · exact st_load (b := w.heap.size) (k := 1010) (z := a) (z' := a) hp (by simp [mkPlan]) (.inl rfl) rfl rfl (fun v w h => h) ⟨by simp [mkPlan], by simp [mkPlan]⟩
        · exact st_call2 (j := 1) (j' := 2) hp rfl rfl (by simp) rfl rfl (by simp) rfl enter_Mul (fun v v' w h h' => (MulV h h').mono fun e w' h' => gives_num h' hKua (by omega)) ⟨by simp [mkPlan], by simp [mkPlan]⟩
        · exact st_call2 (j := 0) (j' := 3) hp rfl rfl (by simp) rfl rfl (by simp) rfl enter_Sub (fun v v' w h h' => (SubV h h').mono fun e w' h' => gives_num h' hKs (by omega)) ⟨by simp [mkPlan], by simp [mkPlan]⟩
        · exact st_load (b := w.heap.size + 1) (k := 1011) (z := b) (z' := b) hp (by simp [mkPlan]) (.inl rfl) rfl rfl (fun v w h => h) ⟨by simp [mkPlan], by simp [mkPlan]⟩
        · exact st_call2 (j := 4) (j' := 5) hp rfl rfl (by simp) rfl rfl (by simp) rfl enter_DivMod (fun v v' w h h' => (DivModV h h').mono fun e w' h' => div_tup h' hb0 hKv hKw (by omega)) ⟨by simp [mkPlan], by simp [mkPlan]⟩
        · exact st_move (j := 6) hp rfl rfl (by simp) rfl (fun v w h => h) ⟨by simp [mkPlan], by simp [mkPlan]⟩
        · exact st_extract (j := 7) hp rfl rfl (by simp) rfl (fun v w h => by obtain ⟨v1, v2, v3, h0, h1, h2⟩ := h; exact ⟨_, v1, h0, rfl, h1⟩) ⟨by simp [mkPlan], by simp [mkPlan]⟩
        · exact st_extract (j := 7) hp rfl rfl (by simp) rfl (fun v w h => by obtain ⟨v1, v2, v3, h0, h1, h2⟩ := h; exact ⟨_, v2, h0, rfl, h2⟩) ⟨by simp [mkPlan], by simp [mkPlan]⟩
        · exact st_extract (j := 7) hp rfl rfl (by simp) rfl (fun v w h => by obtain ⟨v1, v2, v3, h0, h1, h2⟩ := h; exact ⟨_, v3, h0, rfl, trivial⟩) ⟨by simp [mkPlan], by simp [mkPlan]⟩
        · exact st_alloc (k := 13) (z := (g - u' * a) / b) hp (by simp [mkPlan]) rfl (fun _ _ => trivial) (by simp [mkPlan]) (by simp [mkPlan])
        · exact st_alloc (k := 14) (z := (g - u' * a) % b) hp (by simp [mkPlan]) rfl (fun _ _ => trivial) (by simp [mkPlan]) (by simp [mkPlan])
        · exact st_storeNew (i0 := 11) (j := 8) (z := (g - u' * a) / b) hp rfl (by simp [mkPlan]) rfl (by simp) rfl rfl (by simp) rfl (fun v w h => h) (fun _ _ => trivial) (by simp [mkPlan]) (by simp [mkPlan])
        · exact st_storeNew (i0 := 12) (j := 9) (z := (g - u' * a) % b) hp rfl (by simp [mkPlan]) rfl (by simp) rfl rfl (by simp) rfl (fun v w h => h) (fun _ _ => trivial) (by simp [mkPlan]) (by simp [mkPlan])
        · exact st_assign (j := 10) hp rfl rfl (by simp) rfl (fun v w h => trivial) ⟨by simp [mkPlan], by simp [mkPlan]⟩
        intro L vs wd hL hG
        have hls : ∀ j, j < 16 → L j = true := hL
        have z9 : BoxNum wd (b9) (u') := by have := hG.old (b9, 1001, u', u') (by simp [mkPlan]); simpa using this
        have z14 : BoxNum wd (b14) (g) := by have := hG.old (b14, 1002, g, g) (by simp [mkPlan]); simpa using this
        have zA : BoxNum wd (w.heap.size) (a) := by have := hG.old (w.heap.size, 1010, a, a) (by simp [mkPlan]); simpa using this
        have zB : BoxNum wd (w.heap.size + 1) (b) := by have := hG.old (w.heap.size + 1, 1011, b, b) (by simp [mkPlan]); simpa using this
        have z4 : BoxNum wd (w.heap.size + 1 + 1) (0) := by have := hG.old (w.heap.size + 1 + 1, 1012, 0, 0) (by simp [mkPlan]); simpa using this
        have z5 : BoxNum wd (w.heap.size + 1 + 1 + 1) (0) := by have := hG.old (w.heap.size + 1 + 1 + 1, 1013, 0, 0) (by simp [mkPlan]); simpa using this
        have z6 : BoxNum wd (w.heap.size + 1 + 1 + 1 + 1) (0) := by have := hG.old (w.heap.size + 1 + 1 + 1 + 1, 1014, 0, 0) (by simp [mkPlan]); simpa using this
        obtain ⟨p18, q18, hp18, z18⟩ := hG.new (11, 13, (g - u' * a) / b) (by simp [mkPlan]) (hls 11 (by omega))
        obtain ⟨p19, q19, hp19, z19⟩ := hG.new (12, 14, (g - u' * a) % b) (by simp [mkPlan]) (hls 12 (by omega))
        replace q18 : vs 11 = .pointer (some ⟨p18, 0, none⟩) := q18
        replace q19 : vs 12 = .pointer (some ⟨p19, 0, none⟩) := q19
        replace z18 : BoxNum wd p18 ((g - u' * a) / b) := by simpa [hls 13 (by omega)] using z18
        have hbld := hG.below
        have hpw : w.heap.size + 5 ≤ p18 ∧ b14 < p18 ∧ b9 < p18 := by have h1 := hxc.lt; have h2 := y9c.lt; have h3 := y14c.lt; omega
        rw [lay_all hL]
        clear hL hG hls hp hxc y9c y14c z19 hp18 hp19
        simp only [putAll, dstOf, List.length_cons, List.length_nil, Nat.zero_add, Nat.reduceAdd, List.getElem?_toArray, List.getElem?_cons_zero, List.getElem?_cons_succ, Option.bind_some, Act.put, List.setIfInBounds_toArray, List.set_cons_succ, List.set_cons_zero]
        rw [q18, q19]
        generalize vs 0 = u70
        generalize vs 1 = u71
        generalize vs 2 = u72
        generalize vs 3 = u73
        generalize vs 4 = u74
        generalize vs 5 = u75
        generalize vs 6 = u76
        generalize vs 7 = u69
        generalize vs 8 = u77
        generalize vs 9 = u78
        generalize vs 10 = u79
        generalize vs 15 = u20
        clear q18 q19 vs L
        go_wp2
        have hp : (mkPlan [.num g, .num u', .num ((g - u' * a) / b)] [(w.heap.size + 1 + 1, 3, 0, g), (w.heap.size + 1 + 1 + 1, 4, 0, u'), (w.heap.size + 1 + 1 + 1 + 1, 5, 0, (g - u' * a) / b), (b14, 1000, g, g), (b9, 1001, u', u'), (p18, 1002, (g - u' * a) / b, (g - u' * a) / b)] []).Ok w.heap.size wd.heap.size :=
          mkPlan_ok (by have h1 := H14.out; have h2 := z18.lt; have h3 := z9.lt; have h4 := z14.lt; have h5 := z6.lt; simp; omega) (by have h1 := H14.out; simp; omega) (by simp) (by have := z6.lt; omega)
        refine region_steps (p := mkPlan [.num g, .num u', .num ((g - u' * a) / b)] [(w.heap.size + 1 + 1, 3, 0, g), (w.heap.size + 1 + 1 + 1, 4, 0, u'), (w.heap.size + 1 + 1 + 1 + 1, 5, 0, (g - u' * a) / b), (b14, 1000, g, g), (b9, 1001, u', u'), (p18, 1002, (g - u' * a) / b, (g - u' * a) / b)] []) (B := w.heap.size) (B0 := wd.heap.size) (w0 := w) (by kernel_rfl) rfl rfl
          (mkPlan_start (by simp; exact ⟨z4, z5, z6, z14, z9, z18⟩) hbld) ⟨?_, ?_, ?_, ?_, ?_, ?_, trivial⟩ ?_
        · exact st_load (b := b14) (k := 1000) (z := g) (z' := g) hp (by simp [mkPlan]) (.inl rfl) rfl rfl (fun v w h => h) ⟨by simp [mkPlan], by simp [mkPlan]⟩
        · exact st_load (b := b9) (k := 1001) (z := u') (z' := u') hp (by simp [mkPlan]) (.inl rfl) rfl rfl (fun v w h => h) ⟨by simp [mkPlan], by simp [mkPlan]⟩
        · exact st_load (b := p18) (k := 1002) (z := (g - u' * a) / b) (z' := (g - u' * a) / b) hp (by simp [mkPlan]) (.inl rfl) rfl rfl (fun v w h => h) ⟨by simp [mkPlan], by simp [mkPlan]⟩
        · exact st_storeOld (b := w.heap.size + 1 + 1) (z := 0) (z' := g) (j := 0) hp rfl (by simp [mkPlan]) rfl rfl rfl (by simp) rfl (fun v w h => h) (fun _ _ => trivial) (by simp [mkPlan]) (by simp [mkPlan])
        · exact st_storeOld (b := w.heap.size + 1 + 1 + 1) (z := 0) (z' := u') (j := 1) hp rfl (by simp [mkPlan]) rfl rfl rfl (by simp) rfl (fun v w h => h) (fun _ _ => trivial) (by simp [mkPlan]) (by simp [mkPlan])
        · exact st_storeOld (b := w.heap.size + 1 + 1 + 1 + 1) (z := 0) (z' := (g - u' * a) / b) (j := 2) hp rfl (by simp [mkPlan]) rfl rfl rfl (by simp) rfl (fun v w h => h) (fun _ _ => trivial) (by simp [mkPlan]) (by simp [mkPlan])
        intro L vs we hL hG
        have hls : ∀ j, j < 6 → L j = true := hL
        have x4 : BoxNum we (w.heap.size + 1 + 1) (g) := by have := hG.old (w.heap.size + 1 + 1, 3, 0, g) (by simp [mkPlan]); simpa [hls 3 (by omega)] using this
        have x5 : BoxNum we (w.heap.size + 1 + 1 + 1) (u') := by have := hG.old (w.heap.size + 1 + 1 + 1, 4, 0, u') (by simp [mkPlan]); simpa [hls 4 (by omega)] using this
        have x6 : BoxNum we (w.heap.size + 1 + 1 + 1 + 1) ((g - u' * a) / b) := by have := hG.old (w.heap.size + 1 + 1 + 1 + 1, 5, 0, (g - u' * a) / b) (by simp [mkPlan]); simpa [hls 5 (by omega)] using this
        have hble := hG.below
        rw [lay_all hL]
        clear hL hG hls hp z9 z14 zA zB z4 z5 z6 z18
        simp only [putAll, dstOf, List.length_cons, List.length_nil, Nat.zero_add, Nat.reduceAdd, List.getElem?_toArray, List.getElem?_cons_zero, List.getElem?_cons_succ, Option.bind_some, Act.put, List.setIfInBounds_toArray, List.set_cons_succ, List.set_cons_zero]
        obtain ⟨n4, a4, k4, c4, ⟨e0, e1, _, _⟩, N4⟩ := x4
        obtain ⟨n5, a5, k5, c5, ⟨f0, f1, _, _⟩, N5⟩ := x5
        obtain ⟨n6, a6, k6, c6, ⟨g0, g1, _, _⟩, N6⟩ := x6
        go_wp2
        refine bodyPost_ret (v := .tuple #[.agg #[.bool n4, .slice a4 k4 c4], .agg #[.bool n5, .slice a5 k5 c5], .agg #[.bool n6, .slice a6 k6 c6]]) ?_ rfl ⟨hble, _, _, _, g, u', (g - u' * a) / b, rfl, N4, N5, N6, hgcd.out, .inr ⟨hb0, lu0, lu1, hfin⟩⟩
        · simp [results, Try.results15, go_sem, e0, e1, f0, f1, g0, g1]
      · have hc : cmpI rr 0 ≠ 0 := fun h => h0 (cmpI_zero.1 h)
        generalize cmpI rr 0 = t2 at *
        have hcb2 : (t2 == 0) = false := by simp [hc]
        have hcb3 : (t2 != 0) = true := by simp [hc]
        clear hc
        have h7 := hl6.x7
        have h8 := hl6.x8
        obtain ⟨n7, a7, k7, c7, ⟨f0, f1, _, _⟩, N7⟩ := h7
        obtain ⟨n8, a8, k8, c8, ⟨e0, e1, _, _⟩, N8⟩ := h8
        go_wp2_with fail
        refine (DivModV N7 N8).mono ?_
        rintro e w7 ⟨hb7, ⟨h0', _⟩ | ⟨_, vq, vr, rfl, hq, hr⟩⟩
        · exact absurd h0' h0
        obtain ⟨hI2, hlt2, hqu, hqr⟩ := bez_step hb0 hI h0
        have hp6 := pw_six K
        have hp9 : pw (K + 1) ≤ pw 900000 := pw_le (by omega)
        have hbb := ab_nonneg b
        have hKr : ab r < pw K := by rcases hI.2.2.2.2.2.1 with h | h <;> omega
        have hKrr : ab rr < pw K := by have := hI.2.2.2.2.2.2.1; omega
        have Nq : Num w7 vq (r / rr) := num_of hq (k := K) (by omega) (by omega)
        have Nr : Num w7 vr (r % rr) := num_of hr (k := K) (by omega) (by omega)
        have hKuu : ab (r / rr * uu) < pw (K + 1) := by omega
        have hKu : ab (u - r / rr * uu) < pw (K + 1) := by have := hI2.2.2.2.2.1; omega
        obtain ⟨m1, q1, j1, o1, rfl⟩ := Nq.parts
        obtain ⟨m2, q2, j2, o2, rfl⟩ := Nr.parts
        have hx7 := hx6.mono hb7
        have hl7 := hl6.mono hb7
        clear hx6 hl6 hb7 e0 e1 f0 f1 N7 N8 hq hr hp6 hp9 hbb hKr hKrr hqu hqr
        obtain ⟨w8, b11, b12, hw8, h11e, h12e⟩ : ∃ w8 b11 b12, w8 = (w7.alloc (.cells #[.bool m1, .slice q1 j1 o1] 27)).alloc (.cells #[.bool m2, .slice q2 j2 o2] 27) ∧ b11 = w7.heap.size ∧ b12 = w7.heap.size + 1 := ⟨_, _, _, rfl, rfl, rfl⟩
        go_wp2
        rw [← hw8, ← h12e, ← h11e]
        have hx8 : Bx w.heap.size a b w w8 := by rw [hw8]; exact (hx7.mono (alloc_below _ _)).mono (alloc_below _ _)
        have hl8 : Bl p7 p8 b9 b10 r rr u uu w8 := by rw [hw8]; exact (hl7.mono (alloc_below _ _)).mono (alloc_below _ _)
        have x11 : BoxNum w8 b11 (r / rr) := by
          rw [hw8, h11e]; exact (BoxNum.made Nq 27).mono (alloc_below _ (.cells #[.bool m2, .slice q2 j2 o2] 27))
        have x12 : BoxNum w8 b12 (r % rr) := by
          have x2 := BoxNum.made (Nr.mono (alloc_below w7 (.cells #[.bool m1, .slice q1 j1 o1] 27))) 27
          rw [World.size_alloc] at x2
          rw [hw8, h12e]; exact x2
        have HL8 : Hid (p7 < w8.heap.size ∧ p8 < w8.heap.size ∧ b9 < w8.heap.size ∧ b10 < w8.heap.size ∧ b11 < w8.heap.size ∧ b12 < w8.heap.size ∧ w.heap.size + 5 ≤ b11 ∧ w.heap.size + 5 ≤ b12 ∧ b11 ≠ b12 ∧ p7 < b11 ∧ p8 < b11 ∧ b9 < b11 ∧ b10 < b11 ∧ p7 < b12 ∧ p8 < b12 ∧ b9 < b12 ∧ b10 < b12) := by
          have h1 := hl7.x7.lt
          have h2 := hl7.x8.lt
          have h3 := hl7.x9.lt
          have h4 := hl7.x10.lt
          have h5 := hx7.lt
          have h6 := x12.lt
          show _ ∧ _
          omega
        clear hw8 h11e h12e hx7 hl7 Nq Nr
        have hp : (mkPlan [.num rr, .num (r % rr)] [(p7, 2, r, rr), (p8, 3, rr, r % rr), (b12, 1000, r % rr, r % rr), (b11, 1001, r / rr, r / rr), (b9, 1002, u, u), (b10, 1003, uu, uu), (w.heap.size, 1010, a, a), (w.heap.size + 1, 1011, b, b), (w.heap.size + 1 + 1, 1012, 0, 0), (w.heap.size + 1 + 1 + 1, 1013, 0, 0), (w.heap.size + 1 + 1 + 1 + 1, 1014, 0, 0)] []).Ok w.heap.size w8.heap.size :=
          mkPlan_ok (by have h1 := HL8.out; have h2 := H910.out; have h3 := hx8.lt; simp; omega) (by have h1 := HL8.out; have h2 := H910.out; simp; omega) (by simp) (by have := hx8.lt; omega)
        refine region_steps (p := mkPlan [.num rr, .num (r % rr)] [(p7, 2, r, rr), (p8, 3, rr, r % rr), (b12, 1000, r % rr, r % rr), (b11, 1001, r / rr, r / rr), (b9, 1002, u, u), (b10, 1003, uu, uu), (w.heap.size, 1010, a, a), (w.heap.size + 1, 1011, b, b), (w.heap.size + 1 + 1, 1012, 0, 0), (w.heap.size + 1 + 1 + 1, 1013, 0, 0), (w.heap.size + 1 + 1 + 1 + 1, 1014, 0, 0)] []) (B := w.heap.size) (B0 := w8.heap.size) (w0 := w) (by kernel_rfl) rfl rfl
          (mkPlan_start (by simp; exact ⟨hl8.x7, hl8.x8, x12, x11, hl8.x9, hl8.x10, hx8.xA, hx8.xB, hx8.x4, hx8.x5, hx8.x6⟩) hx8.below) ⟨?_, ?_, ?_, ?_, trivial⟩ ?_
        · exact st_load (b := p8) (k := 3) (z := rr) (z' := r % rr) hp (by simp [mkPlan]) (.inr rfl) rfl rfl (fun v w h => h) ⟨by simp [mkPlan], by simp [mkPlan]⟩
        · exact st_load (b := b12) (k := 1000) (z := r % rr) (z' := r % rr) hp (by simp [mkPlan]) (.inl rfl) rfl rfl (fun v w h => h) ⟨by simp [mkPlan], by simp [mkPlan]⟩
        · exact st_storeOld (b := p7) (z := r) (z' := rr) (j := 0) hp rfl (by simp [mkPlan]) rfl rfl rfl (by simp) rfl (fun v w h => h) (fun _ _ => trivial) (by simp [mkPlan]) (by simp [mkPlan])
        · exact st_storeOld (b := p8) (z := rr) (z' := r % rr) (j := 1) hp rfl (by simp [mkPlan]) rfl rfl rfl (by simp) rfl (fun v w h => h) (fun _ _ => trivial) (by simp [mkPlan]) (by simp [mkPlan])
        intro L vs w9 hL hG
        have hls : ∀ j, j < 4 → L j = true := hL
        have y7 : BoxNum w9 (p7) (rr) := by have := hG.old (p7, 2, r, rr) (by simp [mkPlan]); simpa [hls 2 (by omega)] using this
        have y8 : BoxNum w9 (p8) (r % rr) := by have := hG.old (p8, 3, rr, r % rr) (by simp [mkPlan]); simpa [hls 3 (by omega)] using this
        have y11 : BoxNum w9 (b11) (r / rr) := by have := hG.old (b11, 1001, r / rr, r / rr) (by simp [mkPlan]); simpa using this
        have y9 : BoxNum w9 (b9) (u) := by have := hG.old (b9, 1002, u, u) (by simp [mkPlan]); simpa using this
        have y10 : BoxNum w9 (b10) (uu) := by have := hG.old (b10, 1003, uu, uu) (by simp [mkPlan]); simpa using this
        have yA : BoxNum w9 (w.heap.size) (a) := by have := hG.old (w.heap.size, 1010, a, a) (by simp [mkPlan]); simpa using this
        have yB : BoxNum w9 (w.heap.size + 1) (b) := by have := hG.old (w.heap.size + 1, 1011, b, b) (by simp [mkPlan]); simpa using this
        have y4 : BoxNum w9 (w.heap.size + 1 + 1) (0) := by have := hG.old (w.heap.size + 1 + 1, 1012, 0, 0) (by simp [mkPlan]); simpa using this
        have y5 : BoxNum w9 (w.heap.size + 1 + 1 + 1) (0) := by have := hG.old (w.heap.size + 1 + 1 + 1, 1013, 0, 0) (by simp [mkPlan]); simpa using this
        have y6 : BoxNum w9 (w.heap.size + 1 + 1 + 1 + 1) (0) := by have := hG.old (w.heap.size + 1 + 1 + 1 + 1, 1014, 0, 0) (by simp [mkPlan]); simpa using this
        have hblw := hG.below
        have hszw := hG.size
        rw [lay_all hL]
        clear hL hG hls hp hx8 hl8 x11 x12
        simp only [putAll, dstOf, List.length_cons, List.length_nil, Nat.zero_add, Nat.reduceAdd, List.getElem?_toArray, List.getElem?_cons_zero, List.getElem?_cons_succ, Option.bind_some, Act.put, List.setIfInBounds_toArray, List.set_cons_succ, List.set_cons_zero]
        generalize vs 0 = u44
        generalize vs 1 = u45
        clear vs L
        go_wp2
        have hlt9 : w.heap.size + 5 ≤ w9.heap.size := by have := y10.lt; have := H910.out; omega
        have hp : (mkPlan [.num uu, .num u, .num (r / rr), .num uu, .num (r / rr * uu), .num (u - r / rr * uu)] [(b9, 6, u, uu), (b10, 7, uu, u - r / rr * uu), (b11, 1001, r / rr, r / rr), (p7, 1002, rr, rr), (p8, 1003, r % rr, r % rr), (w.heap.size, 1010, a, a), (w.heap.size + 1, 1011, b, b), (w.heap.size + 1 + 1, 1012, 0, 0), (w.heap.size + 1 + 1 + 1, 1013, 0, 0), (w.heap.size + 1 + 1 + 1 + 1, 1014, 0, 0)] []).Ok w.heap.size w9.heap.size :=
          mkPlan_ok (by have h1 := y7.lt; have h2 := H910.out; have h3 := y8.lt; have h4 := y9.lt; have h5 := y10.lt; have h6 := y11.lt; have h7 := HL8.out; simp; omega) (by have h1 := HL8.out; have h2 := H910.out; simp; omega) (by simp) (by omega)
        refine region_steps (p := mkPlan [.num uu, .num u, .num (r / rr), .num uu, .num (r / rr * uu), .num (u - r / rr * uu)] [(b9, 6, u, uu), (b10, 7, uu, u - r / rr * uu), (b11, 1001, r / rr, r / rr), (p7, 1002, rr, rr), (p8, 1003, r % rr, r % rr), (w.heap.size, 1010, a, a), (w.heap.size + 1, 1011, b, b), (w.heap.size + 1 + 1, 1012, 0, 0), (w.heap.size + 1 + 1 + 1, 1013, 0, 0), (w.heap.size + 1 + 1 + 1 + 1, 1014, 0, 0)] []) (B := w.heap.size) (B0 := w9.heap.size) (w0 := w) (by kernel_rfl) rfl rfl
          (mkPlan_start (by simp; exact ⟨y9, y10, y11, y7, y8, yA, yB, y4, y5, y6⟩) hblw) ⟨?_, ?_, ?_, ?_, ?_, ?_, ?_, ?_, trivial⟩ ?_
        · exact st_load (b := b10) (k := 7) (z := uu) (z' := u - r / rr * uu) hp (by simp [mkPlan]) (.inr rfl) rfl rfl (fun v w h => h) ⟨by simp [mkPlan], by simp [mkPlan]⟩
        · exact st_load (b := b9) (k := 6) (z := u) (z' := uu) hp (by simp [mkPlan]) (.inr rfl) rfl rfl (fun v w h => h) ⟨by simp [mkPlan], by simp [mkPlan]⟩
        · exact st_load (b := b11) (k := 1001) (z := r / rr) (z' := r / rr) hp (by simp [mkPlan]) (.inl rfl) rfl rfl (fun v w h => h) ⟨by simp [mkPlan], by simp [mkPlan]⟩
        · exact st_load (b := b10) (k := 7) (z := uu) (z' := u - r / rr * uu) hp (by simp [mkPlan]) (.inr rfl) rfl rfl (fun v w h => h) ⟨by simp [mkPlan], by simp [mkPlan]⟩
        · exact st_call2 (j := 2) (j' := 3) hp rfl rfl (by simp) rfl rfl (by simp) rfl enter_Mul (fun v v' w h h' => (MulV h h').mono fun e w' h' => gives_num h' hKuu (by omega)) ⟨by simp [mkPlan], by simp [mkPlan]⟩
        · exact st_call2 (j := 1) (j' := 4) hp rfl rfl (by simp) rfl rfl (by simp) rfl enter_Sub (fun v v' w h h' => (SubV h h').mono fun e w' h' => gives_num h' hKu (by omega)) ⟨by simp [mkPlan], by simp [mkPlan]⟩
        · exact st_storeOld (b := b9) (z := u) (z' := uu) (j := 0) hp rfl (by simp [mkPlan]) rfl rfl rfl (by simp) rfl (fun v w h => h) (fun _ _ => trivial) (by simp [mkPlan]) (by simp [mkPlan])
        · exact st_storeOld (b := b10) (z := uu) (z' := u - r / rr * uu) (j := 5) hp rfl (by simp [mkPlan]) rfl rfl rfl (by simp) rfl (fun v w h => h) (fun _ _ => trivial) (by simp [mkPlan]) (by simp [mkPlan])
        intro L vs wa hL hG
        have hls : ∀ j, j < 8 → L j = true := hL
        have z7 : BoxNum wa (p7) (rr) := by have := hG.old (p7, 1002, rr, rr) (by simp [mkPlan]); simpa using this
        have z8 : BoxNum wa (p8) (r % rr) := by have := hG.old (p8, 1003, r % rr, r % rr) (by simp [mkPlan]); simpa using this
        have z9 : BoxNum wa (b9) (uu) := by have := hG.old (b9, 6, u, uu) (by simp [mkPlan]); simpa [hls 6 (by omega)] using this
        have z10 : BoxNum wa (b10) (u - r / rr * uu) := by have := hG.old (b10, 7, uu, u - r / rr * uu) (by simp [mkPlan]); simpa [hls 7 (by omega)] using this
        have zA : BoxNum wa (w.heap.size) (a) := by have := hG.old (w.heap.size, 1010, a, a) (by simp [mkPlan]); simpa using this
        have zB : BoxNum wa (w.heap.size + 1) (b) := by have := hG.old (w.heap.size + 1, 1011, b, b) (by simp [mkPlan]); simpa using this
        have z4 : BoxNum wa (w.heap.size + 1 + 1) (0) := by have := hG.old (w.heap.size + 1 + 1, 1012, 0, 0) (by simp [mkPlan]); simpa using this
        have z5 : BoxNum wa (w.heap.size + 1 + 1 + 1) (0) := by have := hG.old (w.heap.size + 1 + 1 + 1, 1013, 0, 0) (by simp [mkPlan]); simpa using this
        have z6 : BoxNum wa (w.heap.size + 1 + 1 + 1 + 1) (0) := by have := hG.old (w.heap.size + 1 + 1 + 1 + 1, 1014, 0, 0) (by simp [mkPlan]); simpa using this
        have hbla := hG.below
        have hsza := hG.size
        rw [lay_all hL]
        clear hL hG hls hp yA yB y4 y5 y6 y7 y8 y9 y10 y11
        simp only [putAll, dstOf, List.length_cons, List.length_nil, Nat.zero_add, Nat.reduceAdd, List.getElem?_toArray, List.getElem?_cons_zero, List.getElem?_cons_succ, Option.bind_some, Act.put, List.setIfInBounds_toArray, List.set_cons_succ, List.set_cons_zero]
        generalize vs 0 = u46
        generalize vs 1 = u47
        generalize vs 2 = u48
        generalize vs 3 = u49
        generalize vs 4 = u50
        generalize vs 5 = u51
        clear vs L
        go_wp2
        go_roundw
        case rel => exact ⟨rr, r % rr, uu, u - r / rr * uu, hI2, ⟨zA, zB, z4, z5, z6, hbla, by omega⟩, ⟨z7, z8, z9, z10⟩⟩
        case measure =>
          rw [HBV.out, boxVal_eq z8]
          unfold ab at hlt2
          omega

end Go.Proofs.Ytjpbmghdamcdcaa
