/- Walk of the laws' examples: the fixed calls whose results the document gives. -/
import Derived.Test.YtjpbmghdamcdcaaCv
import Derived.Test.YtjpbmghdamcdcaaTt
import Derived.Deep.Cut
namespace Go.Proofs.Ytjpbmghdamcdcaa
open Go Go.RowKit

theorem pw_two_eq : pw 2 = 18446744073709551616 := rfl

theorem num2 {w : World} {v : Value} {z : Int} (h : IsInt w v z) (hz : ab z < 18446744073709551616) : Num w v z := num_of h (k := 2) (by rw [pw_two_eq]; exact hz) (by omega)

theorem ab_lt {z : Int} (h0 : -9223372036854775808 ≤ z) (h1 : z ≤ 9223372036854775808) : ab z < 18446744073709551616 := by unfold ab; omega

theorem le_pw2 {z : Int} {k : Nat} (hk : 2 ≤ k) (h0 : -9223372036854775808 ≤ z) (h1 : z ≤ 9223372036854775808) : ab z < pw k := Int.lt_of_lt_of_le (by rw [pw_two_eq]; exact ab_lt h0 h1) (pw_le hk)

/-- Two integers and no error. -/
def RTwo (w : World) (z1 z2 : Int) (e : Ending) (w' : World) : Prop :=
  ∃ (n : Bool) (ao : Option Addr) (k c : Nat) (n' : Bool) (ao' : Option Addr) (k' c' : Nat), e = .returned (.tuple #[.agg #[.bool n, .slice ao k c], .agg #[.bool n', .slice ao' k' c'], .int .i64 0]) ∧ Below w.heap.size w w' ∧
    Num w' (.agg #[.bool n, .slice ao k c]) z1 ∧ Num w' (.agg #[.bool n', .slice ao' k' c']) z2

/-- One integer and no error. -/
def ROne (w : World) (z1 : Int) (e : Ending) (w' : World) : Prop :=
  ∃ (n : Bool) (ao : Option Addr) (k c : Nat), e = .returned (.tuple #[.agg #[.bool n, .slice ao k c], .int .i64 0]) ∧ Below w.heap.size w w' ∧ Num w' (.agg #[.bool n, .slice ao k c]) z1

/-- Three integers. -/
def RThree (w : World) (z1 z2 z3 : Int) (e : Ending) (w' : World) : Prop :=
  ∃ (n : Bool) (ao : Option Addr) (k c : Nat) (n' : Bool) (ao' : Option Addr) (k' c' : Nat) (n'' : Bool) (ao'' : Option Addr) (k'' c'' : Nat),
    e = .returned (.tuple #[.agg #[.bool n, .slice ao k c], .agg #[.bool n', .slice ao' k' c'], .agg #[.bool n'', .slice ao'' k'' c'']]) ∧ Below w.heap.size w w' ∧
    Num w' (.agg #[.bool n, .slice ao k c]) z1 ∧ Num w' (.agg #[.bool n', .slice ao' k' c']) z2 ∧ Num w' (.agg #[.bool n'', .slice ao'' k'' c'']) z3

theorem exDiv {w : World} {v v' : Value} {a b : Int} (h : Num w v a) (h' : Num w v' b) (hb : b ≠ 0) {q r : Int} (hq : a / b = q) (hr : a % b = r) (q1 : ab q < 18446744073709551616) (r1 : ab r < 18446744073709551616) : Calls Try.prog 13 #[v, v'] w (RTwo w q r) :=
  (DivModV h h').mono fun e w' hg => by
    obtain ⟨hbl, ⟨h0, _⟩ | ⟨_, vq, vr, rfl, i1, i2⟩⟩ := hg
    · exact absurd h0 hb
    · rw [hq] at i1
      rw [hr] at i2
      have n1 := num2 i1 q1
      have n2 := num2 i2 r1
      obtain ⟨n, ao, k, c, rfl⟩ := n1.parts
      obtain ⟨n', ao', k', c', rfl⟩ := n2.parts
      exact ⟨_, _, _, _, _, _, _, _, rfl, hbl, n1, n2⟩

theorem exBez {w : World} {v v' : Value} {a b : Int} (h : Num w v a) (h' : Num w v' b) (ha : ab a < 18446744073709551616) (hb : ab b < 18446744073709551616) {g s t : Int} (hg : ∀ u x : Int, ((b = 0 ∧ u = cmpI a 0 ∧ x = 0) ∨ (b ≠ 0 ∧ 0 ≤ u ∧ u < ab b / (Int.gcd a b : Int) ∧ u * a + x * b = (Int.gcd a b : Int))) → (Int.gcd a b : Int) = g ∧ u = s ∧ x = t) :
    Calls Try.prog 15 #[v, v'] w (RThree w g s t) :=
  (BezoutV h h' (K := 2) (by rw [pw_two_eq]; exact ha) (by rw [pw_two_eq]; exact hb) (by omega)).mono fun e w' hg' => by
    obtain ⟨hbl, v1, v2, v3, g1, u, x, rfl, n1, n2, n3, hgcd, hc⟩ := hg'
    subst hgcd
    obtain ⟨e1, e2, e3⟩ := hg u x hc
    rw [e1] at n1
    subst e2
    subst e3
    obtain ⟨n, ao, k, c, rfl⟩ := n1.parts
    obtain ⟨n', ao', k', c', rfl⟩ := n2.parts
    obtain ⟨n'', ao'', k'', c'', rfl⟩ := n3.parts
    exact ⟨_, _, _, _, _, _, _, _, _, _, _, _, rfl, hbl, n1, n2, n3⟩

theorem exSqrt {w : World} {v : Value} {a : Int} (h : Num w v a) (ha : 0 ≤ a) (ha2 : a < 18446744073709551616) {s t : Int} (hs : ∀ r : Int, IsRoot a 2 r → r = s ∧ a - r * r = t) (s1 : ab s < 18446744073709551616) (t1 : ab t < 18446744073709551616) : Calls Try.prog 35 #[v] w (RTwo w s t) :=
  (SqrtV h (Int.lt_of_lt_of_le (by rw [ab_of ha, pw_two_eq]; exact ha2) (pw_le (show 2 ≤ 60000 by omega)))).mono fun e w' hg => by
    obtain ⟨hbl, ⟨h0, _⟩ | ⟨_, v1, v2, r, rfl, i1, i2, hr⟩⟩ := hg
    · omega
    · obtain ⟨e1, e2⟩ := hs r hr
      rw [e2] at i2
      subst e1
      have n1 := num2 i1 s1
      have n2 := num2 i2 t1
      obtain ⟨n, ao, k, c, rfl⟩ := n1.parts
      obtain ⟨n', ao', k', c', rfl⟩ := n2.parts
      exact ⟨_, _, _, _, _, _, _, _, rfl, hbl, n1, n2⟩

theorem exRoot {w : World} {v : Value} {a : Int} (h : Num w v a) (ha : 0 ≤ a) (ha2 : a < 18446744073709551616) {d : Int} (hd1 : 1 ≤ d) (hd2 : d ≤ 9223372036854775807) {s : Int} (hs : ∀ r : Int, IsRoot a d.toNat r → r = s) (s1 : ab s < 18446744073709551616) : Calls Try.prog 37 #[v, .int .i64 d] w (ROne w s) :=
  (RootV h (Int.lt_of_lt_of_le (by rw [ab_of ha, pw_two_eq]; exact ha2) (pw_le (show 2 ≤ 60000 by omega))) d (by omega) hd2).mono fun e w' hg => by
    obtain ⟨hbl, ⟨h0, _⟩ | ⟨_, v1, r, rfl, i1, hr⟩⟩ := hg
    · omega
    · obtain rfl := hs r hr
      have n1 := num2 i1 s1
      obtain ⟨n, ao, k, c, rfl⟩ := n1.parts
      exact ⟨_, _, _, _, rfl, hbl, n1⟩

theorem lim_big : 18446744073709551616 ≤ lim 4096 := by
  unfold lim
  obtain ⟨j, hj⟩ : ∃ j : Nat, 4096 = 64 + j := ⟨4032, rfl⟩
  rw [hj, Int.pow_add]
  have h : (0 : Int) < 2 ^ j := Int.pow_pos (by decide)
  have e : (2 : Int) ^ 64 = 18446744073709551616 := by decide
  rw [e]
  omega

theorem exPow {w : World} {v : Value} {a : Int} (h : Num w v a) (ha : ab a < 18446744073709551616) {d : Int} (hd1 : 0 ≤ d) (hd2 : d ≤ 4096) {s : Int} (hs : a ^ d.toNat = s) (s1 : ab s < 18446744073709551616) : Calls Try.prog 39 #[v, .int .i64 d] w (ROne w s) :=
  (PowV h (Int.lt_of_lt_of_le (by rw [pw_two_eq]; exact ha) (pw_le (show 2 ≤ 60000 by omega))) d (by omega) (by omega)).mono fun e w' hg => by
    have hl := lim_big
    have s2 := s1
    unfold ab at s2
    obtain ⟨hbl, ⟨h0, _⟩ | ⟨_, _, h0, _⟩ | ⟨_, _, _, _, v1, rfl, i1⟩⟩ := hg
    · omega
    · rw [hs] at h0; omega
    · rw [hs] at i1
      have n1 := num2 i1 s1
      obtain ⟨n, ao, k, c, rfl⟩ := n1.parts
      exact ⟨_, _, _, _, rfl, hbl, n1⟩

theorem exGcd {w : World} {v v' : Value} {a b : Int} (h : Num w v a) (h' : Num w v' b) {g : Int} (hg : (Int.gcd a b : Int) = g) (g1 : ab g < 18446744073709551616) : Calls Try.prog 18 #[v, v'] w fun e w' => ∃ v', e = .returned v' ∧ Below w.heap.size w w' ∧ Num w' v' g :=
  (GcdV h h').mono fun e w' hh => gives_num (by rw [hg] at hh; exact hh) (k := 2) (by rw [pw_two_eq]; exact g1) (by omega)

theorem exText {w : World} {v : Value} (h : Num w v (-4294967296)) : Calls Try.prog 46 #[v] w fun e w' => e = .returned (.tuple #[.string { data := #[45, 52, 50, 57, 52, 57, 54, 55, 50, 57, 54] }, .int .i64 0]) ∧ Below w.heap.size w w' := by
  have e : intText (-4294967296) = [45, 52, 50, 57, 52, 57, 54, 55, 50, 57, 54] := by
    have h0 : sizeText 4294967296 = [52, 50, 57, 52, 57, 54, 55, 50, 57, 54] := by
      unfold sizeText
      rw [if_neg (by decide)]
      rw [decs_pos (by decide), decs_pos (by decide), decs_pos (by decide), decs_pos (by decide), decs_pos (by decide), decs_pos (by decide), decs_pos (by decide), decs_pos (by decide), decs_pos (by decide), decs_pos (by decide), show 4294967296 / 10 / 10 / 10 / 10 / 10 / 10 / 10 / 10 / 10 / 10 = 0 from rfl, decs_zero]
      rfl
    unfold intText
    rw [if_pos (by decide), show (-4294967296 : Int).natAbs = 4294967296 from rfl, h0]
  have e2 : textOf (-4294967296) = .tuple #[.string { data := #[45, 52, 50, 57, 52, 57, 54, 55, 50, 57, 54] }, .int .i64 0] := by
    rw [textOf_ok (by rw [e]; decide), e]
    rfl
  have := TextV w h
  rw [e2] at this
  exact this

theorem boxOne {w : World} {n : Bool} {ao : Option Addr} {k c : Nat} {z : Int} (h : Num w (.agg #[.bool n, .slice ao k c]) z) (t : TypeId) :
    ∃ w1, w1 = w.alloc (.cells #[.bool n, .slice ao k c] t) ∧ Below w.heap.size w w1 ∧ BoxNum w1 w.heap.size z := ⟨_, rfl, alloc_below _ _, BoxNum.made h t⟩

theorem boxTwo {w : World} {n n' : Bool} {ao ao' : Option Addr} {k c k' c' : Nat} {z z' : Int} (h : Num w (.agg #[.bool n, .slice ao k c]) z) (h' : Num w (.agg #[.bool n', .slice ao' k' c']) z') (t : TypeId) :
    ∃ w1, w1 = (w.alloc (.cells #[.bool n, .slice ao k c] t)).alloc (.cells #[.bool n', .slice ao' k' c'] t) ∧ Below w.heap.size w w1 ∧ BoxNum w1 w.heap.size z ∧ BoxNum w1 (w.heap.size + 1) z' := by
  obtain ⟨w1, h1, b1, x1⟩ := boxOne h t
  have h2 := h'.mono b1
  have s1 : w1.heap.size = w.heap.size + 1 := by rw [h1, World.size_alloc]
  obtain ⟨w2, h3, b2, x2⟩ := boxOne h2 t
  rw [s1] at x2
  exact ⟨w2, by rw [h3, h1], b1.trans (b2.mono (by omega)), x1.mono b2, x2⟩

theorem boxThree {w : World} {n n' n'' : Bool} {ao ao' ao'' : Option Addr} {k c k' c' k'' c'' : Nat} {z z' z'' : Int} (h : Num w (.agg #[.bool n, .slice ao k c]) z) (h' : Num w (.agg #[.bool n', .slice ao' k' c']) z') (h'' : Num w (.agg #[.bool n'', .slice ao'' k'' c'']) z'') (t : TypeId) :
    ∃ w1, w1 = ((w.alloc (.cells #[.bool n, .slice ao k c] t)).alloc (.cells #[.bool n', .slice ao' k' c'] t)).alloc (.cells #[.bool n'', .slice ao'' k'' c''] t) ∧ Below w.heap.size w w1 ∧ BoxNum w1 w.heap.size z ∧ BoxNum w1 (w.heap.size + 1) z' ∧ BoxNum w1 (w.heap.size + 1 + 1) z'' := by
  obtain ⟨w1, h1, b1, x1, y1⟩ := boxTwo h h' t
  have h2 := h''.mono b1
  have s1 : w1.heap.size = w.heap.size + 1 + 1 := by rw [h1, World.size_alloc, World.size_alloc]
  obtain ⟨w2, h3, b2, x2⟩ := boxOne h2 t
  rw [s1] at x2
  exact ⟨w2, by rw [h3, h1], b1.trans (b2.mono (by omega)), x1.mono b2, y1.mono b2, x2⟩

/-- Boxes that hold these numbers. -/
def Bs (w : World) : List (Nat × Int) → Prop
  | [] => True
  | p :: r => BoxNum w p.1 p.2 ∧ Bs w r

theorem Bs.mono {w w' : World} (hb : Below w.heap.size w w') : ∀ {l : List (Nat × Int)}, Bs w l → Bs w' l
  | [], _ => trivial
  | _ :: _, h => ⟨h.1.mono hb, Bs.mono hb h.2⟩

theorem bez6 (u x : Int) (h : ((18 : Int) = 0 ∧ u = cmpI 12 0 ∧ x = 0) ∨ ((18 : Int) ≠ 0 ∧ 0 ≤ u ∧ u < ab 18 / (Int.gcd 12 18 : Int) ∧ u * 12 + x * 18 = (Int.gcd 12 18 : Int))) : (Int.gcd 12 18 : Int) = 6 ∧ u = 2 ∧ x = -1 := by
  have e : (Int.gcd 12 18 : Int) = 6 := by decide
  have e2 : ab 18 = 18 := by decide
  rw [e, e2] at h
  rw [e]
  omega

theorem bez4 (u x : Int) (h : ((-4 : Int) = 0 ∧ u = cmpI 0 0 ∧ x = 0) ∨ ((-4 : Int) ≠ 0 ∧ 0 ≤ u ∧ u < ab (-4) / (Int.gcd 0 (-4) : Int) ∧ u * 0 + x * (-4) = (Int.gcd 0 (-4) : Int))) : (Int.gcd 0 (-4) : Int) = 4 ∧ u = 0 ∧ x = -1 := by
  have e : (Int.gcd 0 (-4) : Int) = 4 := by decide
  have e2 : ab (-4) = 4 := by decide
  rw [e, e2] at h
  rw [e]
  omega

theorem sq_lt {a b : Int} (ha : 0 ≤ a) (h : a ≤ b) : a * a ≤ b * b := Int.mul_le_mul h h ha (by omega)

theorem sqrt10 (r : Int) (h : IsRoot 10 2 r) : r = 3 ∧ 10 - r * r = 1 := by
  obtain ⟨h0, h1, h2⟩ := h
  have e : r = 3 := by
    rcases (by omega : r ≤ 2 ∨ r = 3 ∨ 4 ≤ r) with h | h | h
    · have := pow_mono (by omega) (show r + 1 ≤ 3 by omega) 2
      have e : (3 : Int) ^ 2 = 9 := by decide
      omega
    · exact h
    · have := pow_mono (by omega) h 2
      have e : (4 : Int) ^ 2 = 16 := by decide
      omega
  subst e
  exact ⟨rfl, by decide⟩

theorem root999 (r : Int) (h : IsRoot 999 (3 : Int).toNat r) : r = 9 := by
  obtain ⟨h0, h1, h2⟩ := h
  have e3 : (3 : Int).toNat = 3 := rfl
  rw [e3] at h1 h2
  rcases (by omega : r ≤ 8 ∨ r = 9 ∨ 10 ≤ r) with h | h | h
  · have := pow_mono (by omega) (show r + 1 ≤ 9 by omega) 3
    have e : (9 : Int) ^ 3 = 729 := by decide
    omega
  · exact h
  · have := pow_mono (by omega) h 3
    have e : (10 : Int) ^ 3 = 1000 := by decide
    omega

set_option maxRecDepth 10000 in
set_option maxHeartbeats 8000000 in
theorem examples_any (w : World) : Calls Try.prog 11 #[] w fun e w' => e = .returned (.bool true) ∧ Below w.heap.size w w' := by
  go_enter Try.func11, Try.ntmps11
  go_wp2_with fail
  refine (rOfV _ (-7) (by omega) (by omega)).mono ?_
  rintro e w1 ⟨v1, rfl, hb1, hn1⟩
  have HB := hb1
  go_wp2_with fail
  refine (rOfV _ (3) (by omega) (by omega)).mono ?_
  rintro e w2 ⟨v2, rfl, hb2, hn2⟩
  replace HB := HB.trans (hb2.mono HB.size)
  go_wp2_with fail
  refine (exDiv (hn1.mono hb2) hn2 (by decide) (q := -3) (r := 2) (by decide) (by decide) (by decide) (by decide)).mono ?_
  rintro e w3 ⟨n3, ao3, k3, c3, n3', ao3', k3', c3', rfl, hb3, hq3, hr3⟩
  replace HB := HB.trans (hb3.mono HB.size)
  go_wp2_with fail
  obtain ⟨w4, hw4, hb4, x4_0, x4_1⟩ := boxTwo hq3 hr3 27
  rw [← hw4]
  clear hw4
  replace HB := HB.trans (hb4.mono HB.size)
  have BS : Bs w4 [(w3.heap.size, _), (w3.heap.size + 1, _)] := ⟨x4_0, x4_1, trivial⟩
  clear hb4 x4_0 x4_1
  go_wp2_with fail
  refine (rOfV _ (-7) (by omega) (by omega)).mono ?_
  rintro e w5 ⟨v5, rfl, hb5, hn5⟩
  replace HB := HB.trans (hb5.mono HB.size)
  replace BS := Bs.mono hb5 BS
  go_wp2_with fail
  refine (rOfV _ (-3) (by omega) (by omega)).mono ?_
  rintro e w6 ⟨v6, rfl, hb6, hn6⟩
  replace HB := HB.trans (hb6.mono HB.size)
  replace BS := Bs.mono hb6 BS
  go_wp2_with fail
  refine (exDiv (hn5.mono hb6) hn6 (by decide) (q := 3) (r := 2) (by decide) (by decide) (by decide) (by decide)).mono ?_
  rintro e w7 ⟨n7, ao7, k7, c7, n7', ao7', k7', c7', rfl, hb7, hq7, hr7⟩
  replace HB := HB.trans (hb7.mono HB.size)
  replace BS := Bs.mono hb7 BS
  go_wp2_with fail
  obtain ⟨w8, hw8, hb8, x8_0, x8_1⟩ := boxTwo hq7 hr7 27
  rw [← hw8]
  clear hw8
  replace HB := HB.trans (hb8.mono HB.size)
  replace BS := Bs.mono hb8 BS
  replace BS : Bs w8 ((w7.heap.size, _) :: (w7.heap.size + 1, _) :: _) := ⟨x8_0, x8_1, BS⟩
  clear hb8 x8_0 x8_1
  go_wp2_with fail
  refine (rOfV _ (12) (by omega) (by omega)).mono ?_
  rintro e w9 ⟨v9, rfl, hb9, hn9⟩
  replace HB := HB.trans (hb9.mono HB.size)
  replace BS := Bs.mono hb9 BS
  go_wp2_with fail
  refine (rOfV _ (18) (by omega) (by omega)).mono ?_
  rintro e w10 ⟨v10, rfl, hb10, hn10⟩
  replace HB := HB.trans (hb10.mono HB.size)
  replace BS := Bs.mono hb10 BS
  go_wp2_with fail
  refine (exBez (hn9.mono hb10) hn10 (by decide) (by decide) (g := 6) (s := 2) (t := -1) (bez6)).mono ?_
  rintro e w11 ⟨n11, ao11, k11, c11, n11', ao11', k11', c11', n11'', ao11'', k11'', c11'', rfl, hb11, hq11, hr11, ht11⟩
  replace HB := HB.trans (hb11.mono HB.size)
  replace BS := Bs.mono hb11 BS
  go_wp2_with fail
  obtain ⟨w12, hw12, hb12, x12_0, x12_1, x12_2⟩ := boxThree hq11 hr11 ht11 27
  rw [← hw12]
  clear hw12
  replace HB := HB.trans (hb12.mono HB.size)
  replace BS := Bs.mono hb12 BS
  replace BS : Bs w12 ((w11.heap.size, _) :: (w11.heap.size + 1, _) :: (w11.heap.size + 1 + 1, _) :: _) := ⟨x12_0, x12_1, x12_2, BS⟩
  clear hb12 x12_0 x12_1 x12_2
  go_wp2_with fail
  refine (rOfV _ (0) (by omega) (by omega)).mono ?_
  rintro e w13 ⟨v13, rfl, hb13, hn13⟩
  replace HB := HB.trans (hb13.mono HB.size)
  replace BS := Bs.mono hb13 BS
  go_wp2_with fail
  refine (rOfV _ (-4) (by omega) (by omega)).mono ?_
  rintro e w14 ⟨v14, rfl, hb14, hn14⟩
  replace HB := HB.trans (hb14.mono HB.size)
  replace BS := Bs.mono hb14 BS
  go_wp2_with fail
  refine (exBez (hn13.mono hb14) hn14 (by decide) (by decide) (g := 4) (s := 0) (t := -1) (bez4)).mono ?_
  rintro e w15 ⟨n15, ao15, k15, c15, n15', ao15', k15', c15', n15'', ao15'', k15'', c15'', rfl, hb15, hq15, hr15, ht15⟩
  replace HB := HB.trans (hb15.mono HB.size)
  replace BS := Bs.mono hb15 BS
  go_wp2_with fail
  obtain ⟨w16, hw16, hb16, x16_0, x16_1, x16_2⟩ := boxThree hq15 hr15 ht15 27
  rw [← hw16]
  clear hw16
  replace HB := HB.trans (hb16.mono HB.size)
  replace BS := Bs.mono hb16 BS
  replace BS : Bs w16 ((w15.heap.size, _) :: (w15.heap.size + 1, _) :: (w15.heap.size + 1 + 1, _) :: _) := ⟨x16_0, x16_1, x16_2, BS⟩
  clear hb16 x16_0 x16_1 x16_2
  go_wp2_with fail
  refine (rOfV _ (10) (by omega) (by omega)).mono ?_
  rintro e w17 ⟨v17, rfl, hb17, hn17⟩
  replace HB := HB.trans (hb17.mono HB.size)
  replace BS := Bs.mono hb17 BS
  go_wp2_with fail
  refine (exSqrt hn17 (by decide) (by decide) (s := 3) (t := 1) sqrt10 (by decide) (by decide)).mono ?_
  rintro e w18 ⟨n18, ao18, k18, c18, n18', ao18', k18', c18', rfl, hb18, hq18, hr18⟩
  replace HB := HB.trans (hb18.mono HB.size)
  replace BS := Bs.mono hb18 BS
  go_wp2_with fail
  obtain ⟨w19, hw19, hb19, x19_0, x19_1⟩ := boxTwo hq18 hr18 27
  rw [← hw19]
  clear hw19
  replace HB := HB.trans (hb19.mono HB.size)
  replace BS := Bs.mono hb19 BS
  replace BS : Bs w19 ((w18.heap.size, _) :: (w18.heap.size + 1, _) :: _) := ⟨x19_0, x19_1, BS⟩
  clear hb19 x19_0 x19_1
  go_wp2_with fail
  refine (rOfV _ (999) (by omega) (by omega)).mono ?_
  rintro e w20 ⟨v20, rfl, hb20, hn20⟩
  replace HB := HB.trans (hb20.mono HB.size)
  replace BS := Bs.mono hb20 BS
  go_wp2_with fail
  refine (exRoot hn20 (by decide) (by decide) (d := 3) (by decide) (by decide) (s := 9) root999 (by decide)).mono ?_
  rintro e w21 ⟨n21, ao21, k21, c21, rfl, hb21, hq21⟩
  replace HB := HB.trans (hb21.mono HB.size)
  replace BS := Bs.mono hb21 BS
  go_wp2_with fail
  obtain ⟨w22, hw22, hb22, x22_0⟩ := boxOne hq21 27
  rw [← hw22]
  clear hw22
  replace HB := HB.trans (hb22.mono HB.size)
  replace BS := Bs.mono hb22 BS
  replace BS : Bs w22 ((w21.heap.size, _) :: _) := ⟨x22_0, BS⟩
  clear hb22 x22_0
  go_wp2_with fail
  refine (rOfV _ (-2) (by omega) (by omega)).mono ?_
  rintro e w23 ⟨v23, rfl, hb23, hn23⟩
  replace HB := HB.trans (hb23.mono HB.size)
  replace BS := Bs.mono hb23 BS
  go_wp2_with fail
  refine (exPow hn23 (by decide) (d := 3) (by decide) (by decide) (s := -8) (by decide) (by decide)).mono ?_
  rintro e w24 ⟨n24, ao24, k24, c24, rfl, hb24, hq24⟩
  replace HB := HB.trans (hb24.mono HB.size)
  replace BS := Bs.mono hb24 BS
  go_wp2_with fail
  obtain ⟨w25, hw25, hb25, x25_0⟩ := boxOne hq24 27
  rw [← hw25]
  clear hw25
  replace HB := HB.trans (hb25.mono HB.size)
  replace BS := Bs.mono hb25 BS
  replace BS : Bs w25 ((w24.heap.size, _) :: _) := ⟨x25_0, BS⟩
  clear hb25 x25_0
  go_wp2_with fail
  refine (rOfV _ (-4294967296) (by omega) (by omega)).mono ?_
  rintro e w26 ⟨v26, rfl, hb26, hn26⟩
  replace HB := HB.trans (hb26.mono HB.size)
  replace BS := Bs.mono hb26 BS
  go_wp2_with fail
  refine (exText hn26).mono ?_
  rintro e w27 ⟨rfl, hb27⟩
  replace HB := HB.trans (hb27.mono HB.size)
  replace BS := Bs.mono hb27 BS
  go_wp2_with fail
  refine (Parse_minus_zero _).mono ?_
  rintro e w28 ⟨rfl, hb28⟩
  replace HB := HB.trans (hb28.mono HB.size)
  replace BS := Bs.mono hb28 BS
  go_upto_region 10 with (fail)
  obtain ⟨w29, hw29, hb29, x29⟩ := boxOne (Num.zero w28) 27
  rw [← hw29]
  clear hw29 x29
  replace HB := HB.trans (hb29.mono HB.size)
  replace BS := Bs.mono hb29 BS
  obtain ⟨n30, ao30, k30, c30, ⟨d0, d1, d2, d3⟩, hN⟩ := BS.2.2.2.2.2.2.2.2.2.2.2.2.1
  go_wp2_with fail
  refine (is_any _ hN (-3) (by omega) (by omega)).mono ?_
  rintro e w30 ⟨rfl, hb30⟩
  clear d0 d1 d2 d3 hN
  replace HB := HB.trans (hb30.mono HB.size)
  replace BS := Bs.mono hb30 BS
  obtain ⟨n31, ao31, k31, c31, ⟨d0, d1, d2, d3⟩, hN⟩ := BS.2.2.2.2.2.2.2.2.2.2.2.2.2.1
  go_wp2_with fail
  refine (is_any _ hN (2) (by omega) (by omega)).mono ?_
  rintro e w31 ⟨rfl, hb31⟩
  clear d0 d1 d2 d3 hN
  replace HB := HB.trans (hb31.mono HB.size)
  replace BS := Bs.mono hb31 BS
  obtain ⟨n32, ao32, k32, c32, ⟨d0, d1, d2, d3⟩, hN⟩ := BS.2.2.2.2.2.2.2.2.2.2.1
  go_wp2_with fail
  refine (is_any _ hN (3) (by omega) (by omega)).mono ?_
  rintro e w32 ⟨rfl, hb32⟩
  clear d0 d1 d2 d3 hN
  replace HB := HB.trans (hb32.mono HB.size)
  replace BS := Bs.mono hb32 BS
  obtain ⟨n33, ao33, k33, c33, ⟨d0, d1, d2, d3⟩, hN⟩ := BS.2.2.2.2.2.2.2.2.2.2.2.1
  go_wp2_with fail
  refine (is_any _ hN (2) (by omega) (by omega)).mono ?_
  rintro e w33 ⟨rfl, hb33⟩
  clear d0 d1 d2 d3 hN
  replace HB := HB.trans (hb33.mono HB.size)
  replace BS := Bs.mono hb33 BS
  obtain ⟨n34, ao34, k34, c34, ⟨d0, d1, d2, d3⟩, hN⟩ := BS.2.2.2.2.2.2.2.1
  go_wp2_with fail
  refine (is_any _ hN (6) (by omega) (by omega)).mono ?_
  rintro e w34 ⟨rfl, hb34⟩
  clear d0 d1 d2 d3 hN
  replace HB := HB.trans (hb34.mono HB.size)
  replace BS := Bs.mono hb34 BS
  obtain ⟨n35, ao35, k35, c35, ⟨d0, d1, d2, d3⟩, hN⟩ := BS.2.2.2.2.2.2.2.2.1
  go_wp2_with fail
  refine (is_any _ hN (2) (by omega) (by omega)).mono ?_
  rintro e w35 ⟨rfl, hb35⟩
  clear d0 d1 d2 d3 hN
  replace HB := HB.trans (hb35.mono HB.size)
  replace BS := Bs.mono hb35 BS
  obtain ⟨n36, ao36, k36, c36, ⟨d0, d1, d2, d3⟩, hN⟩ := BS.2.2.2.2.2.2.2.2.2.1
  go_wp2_with fail
  refine (is_any _ hN (-1) (by omega) (by omega)).mono ?_
  rintro e w36 ⟨rfl, hb36⟩
  clear d0 d1 d2 d3 hN
  replace HB := HB.trans (hb36.mono HB.size)
  replace BS := Bs.mono hb36 BS
  obtain ⟨n37, ao37, k37, c37, ⟨d0, d1, d2, d3⟩, hN⟩ := BS.2.2.2.2.1
  go_wp2_with fail
  refine (is_any _ hN (4) (by omega) (by omega)).mono ?_
  rintro e w37 ⟨rfl, hb37⟩
  clear d0 d1 d2 d3 hN
  replace HB := HB.trans (hb37.mono HB.size)
  replace BS := Bs.mono hb37 BS
  obtain ⟨n38, ao38, k38, c38, ⟨d0, d1, d2, d3⟩, hN⟩ := BS.2.2.2.2.2.1
  go_wp2_with fail
  refine (is_any _ hN (0) (by omega) (by omega)).mono ?_
  rintro e w38 ⟨rfl, hb38⟩
  clear d0 d1 d2 d3 hN
  replace HB := HB.trans (hb38.mono HB.size)
  replace BS := Bs.mono hb38 BS
  obtain ⟨n39, ao39, k39, c39, ⟨d0, d1, d2, d3⟩, hN⟩ := BS.2.2.2.2.2.2.1
  go_wp2_with fail
  refine (is_any _ hN (-1) (by omega) (by omega)).mono ?_
  rintro e w39 ⟨rfl, hb39⟩
  clear d0 d1 d2 d3 hN
  replace HB := HB.trans (hb39.mono HB.size)
  replace BS := Bs.mono hb39 BS
  obtain ⟨n40, ao40, k40, c40, ⟨d0, d1, d2, d3⟩, hN⟩ := BS.2.2.1
  go_wp2_with fail
  refine (is_any _ hN (3) (by omega) (by omega)).mono ?_
  rintro e w40 ⟨rfl, hb40⟩
  clear d0 d1 d2 d3 hN
  replace HB := HB.trans (hb40.mono HB.size)
  replace BS := Bs.mono hb40 BS
  obtain ⟨n41, ao41, k41, c41, ⟨d0, d1, d2, d3⟩, hN⟩ := BS.2.2.2.1
  go_wp2_with fail
  refine (is_any _ hN (1) (by omega) (by omega)).mono ?_
  rintro e w41 ⟨rfl, hb41⟩
  clear d0 d1 d2 d3 hN
  replace HB := HB.trans (hb41.mono HB.size)
  replace BS := Bs.mono hb41 BS
  obtain ⟨n42, ao42, k42, c42, ⟨d0, d1, d2, d3⟩, hN⟩ := BS.2.1
  go_wp2_with fail
  refine (is_any _ hN (9) (by omega) (by omega)).mono ?_
  rintro e w42 ⟨rfl, hb42⟩
  clear d0 d1 d2 d3 hN
  replace HB := HB.trans (hb42.mono HB.size)
  replace BS := Bs.mono hb42 BS
  obtain ⟨n43, ao43, k43, c43, ⟨d0, d1, d2, d3⟩, hN⟩ := BS.1
  go_wp2_with fail
  refine (is_any _ hN (-8) (by omega) (by omega)).mono ?_
  rintro e w43 ⟨rfl, hb43⟩
  clear d0 d1 d2 d3 hN
  replace HB := HB.trans (hb43.mono HB.size)
  replace BS := Bs.mono hb43 BS
  clear BS
  go_wp2_with fail
  refine (rOfV _ (-12) (by omega) (by omega)).mono ?_
  rintro e w44 ⟨v44, rfl, hb44, hn44⟩
  replace HB := HB.trans (hb44.mono HB.size)
  go_wp2_with fail
  refine (rOfV _ (18) (by omega) (by omega)).mono ?_
  rintro e w45 ⟨v45, rfl, hb45, hn45⟩
  replace HB := HB.trans (hb45.mono HB.size)
  go_wp2_with fail
  refine (exGcd (hn44.mono hb45) hn45 (g := 6) (by decide) (by decide)).mono ?_
  rintro e w46 ⟨v46, rfl, hb46, hn46⟩
  replace HB := HB.trans (hb46.mono HB.size)
  go_wp2_with fail
  refine (is_any _ hn46 (6) (by omega) (by omega)).mono ?_
  rintro e w47 ⟨rfl, hb47⟩
  replace HB := HB.trans (hb47.mono HB.size)
  go_wp2
  go_ret
  exact ⟨rfl, HB⟩

end Go.Proofs.Ytjpbmghdamcdcaa
