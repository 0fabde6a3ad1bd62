/- Vh. -/
import Derived.Test.YtoimphnhmpmipaaGreatBh6
/- Walk of the law on intervals. -/
namespace Go.Proofs.YtoimphnhmpmipaaGreat
open Go Go.RowKit

theorem span_le (x y : Rat) : leastQ x [y] ≤ greatQ x [y] := Rat.le_trans (least_le [y] x).1 (le_great [y] x).1
theorem inner_in {a b : Rat} {t : Int} (hab : a ≤ b) : a ≤ a + Rat.divInt (t % 9) (8) * (b - a) ∧ a + Rat.divInt (t % 9) (8) * (b - a) ≤ b := by
  have h0 : (0 : Rat) ≤ b - a := (Rat.le_iff_sub_nonneg a b).1 hab
  have h1 : (0 : Rat) ≤ Rat.divInt (t % 9) (8) := (Rat.divInt_nonneg_iff_of_pos_right (by decide)).2 (by omega)
  have h2 : Rat.divInt (t % 9) (8) ≤ 1 := by
    rw [Rat.divInt_eq_div]
    refine Rat.not_lt.1 fun h => ?_
    have h := (Rat.lt_div_iff (by decide)).1 h
    have h3 : ((t % 9 : Int) : Rat) ≤ ((8 : Int) : Rat) := Rat.intCast_le_intCast.2 (by omega)
    rw [Rat.one_mul] at h
    exact Rat.not_lt.2 h3 h
  constructor
  · have := Rat.add_le_add_left (c := a) |>.2 (Rat.mul_nonneg h1 h0)
    rw [Rat.add_zero] at this
    exact this
  · have h3 : Rat.divInt (t % 9) (8) * (b - a) ≤ 1 * (b - a) := Rat.mul_le_mul_of_nonneg_right h2 h0
    rw [Rat.one_mul] at h3
    have h4 := (Rat.add_le_add_left (c := a)).2 h3
    rw [Rat.add_comm a (b - a), Rat.sub_add_cancel] at h4
    exact h4
theorem add_in {a b c d p q : Rat} (h1 : a ≤ p) (h2 : p ≤ b) (h3 : c ≤ q) (h4 : q ≤ d) : a + c ≤ p + q ∧ p + q ≤ b + d :=
  ⟨Rat.le_trans ((Rat.add_le_add_right).2 h1) ((Rat.add_le_add_left).2 h3), Rat.le_trans ((Rat.add_le_add_right).2 h2) ((Rat.add_le_add_left).2 h4)⟩
theorem sub_in {a b c d p q : Rat} (h1 : a ≤ p) (h2 : p ≤ b) (h3 : c ≤ q) (h4 : q ≤ d) : a - d ≤ p - q ∧ p - q ≤ b - c := by
  rw [Rat.sub_eq_add_neg, Rat.sub_eq_add_neg, Rat.sub_eq_add_neg]
  exact add_in h1 h2 (Rat.neg_le_neg h4) (Rat.neg_le_neg h3)
theorem mul_lo {c d q x : Rat} (h3 : c ≤ q) (h4 : q ≤ d) : x * c ≤ x * q ∧ x * q ≤ x * d ∨ x * d ≤ x * q ∧ x * q ≤ x * c := by
  rcases Rat.le_total (a := 0) (b := x) with h | h
  · exact .inl ⟨Rat.mul_le_mul_of_nonneg_left h3 h, Rat.mul_le_mul_of_nonneg_left h4 h⟩
  · right
    have hn : (0 : Rat) ≤ -x := by have := Rat.neg_le_neg h; simpa using this
    have e1 := Rat.mul_le_mul_of_nonneg_left h3 hn
    have e2 := Rat.mul_le_mul_of_nonneg_left h4 hn
    rw [Rat.neg_mul, Rat.neg_mul] at e1 e2
    exact ⟨Rat.neg_le_neg_iff.1 e2, Rat.neg_le_neg_iff.1 e1⟩
theorem mul_lo' {a b p q : Rat} (h1 : a ≤ p) (h2 : p ≤ b) : a * q ≤ p * q ∧ p * q ≤ b * q ∨ b * q ≤ p * q ∧ p * q ≤ a * q := by
  have := mul_lo (x := q) h1 h2
  rw [Rat.mul_comm q a, Rat.mul_comm q p, Rat.mul_comm q b] at this
  exact this
theorem scale_in {a b p q : Rat} (h1 : a ≤ p) (h2 : p ≤ b) : leastQ (a * q) [b * q] ≤ p * q ∧ p * q ≤ greatQ (a * q) [b * q] := by
  obtain ⟨l1, l2⟩ := least_le [b * q] (a * q)
  obtain ⟨g1, g2⟩ := le_great [b * q] (a * q)
  have l2 := l2 (b * q) (by simp)
  have g2 := g2 (b * q) (by simp)
  rcases mul_lo' (q := q) h1 h2 with ⟨e1, e2⟩ | ⟨e1, e2⟩
  · exact ⟨Rat.le_trans l1 e1, Rat.le_trans e2 g2⟩
  · exact ⟨Rat.le_trans l2 e1, Rat.le_trans e2 g1⟩
theorem mul_in {a b c d p q : Rat} (h1 : a ≤ p) (h2 : p ≤ b) (h3 : c ≤ q) (h4 : q ≤ d) : leastQ (a * c) [a * d, b * c, b * d] ≤ p * q ∧ p * q ≤ greatQ (a * c) [a * d, b * c, b * d] := by
  obtain ⟨l1, l⟩ := least_le [a * d, b * c, b * d] (a * c)
  obtain ⟨g1, g⟩ := le_great [a * d, b * c, b * d] (a * c)
  have l2 := l (a * d) (by simp)
  have l3 := l (b * c) (by simp)
  have l4 := l (b * d) (by simp)
  have g2 := g (a * d) (by simp)
  have g3 := g (b * c) (by simp)
  have g4 := g (b * d) (by simp)
  have hA : leastQ (a * c) [a * d, b * c, b * d] ≤ a * q ∧ a * q ≤ greatQ (a * c) [a * d, b * c, b * d] := by
    rcases mul_lo (x := a) h3 h4 with ⟨e1, e2⟩ | ⟨e1, e2⟩
    · exact ⟨Rat.le_trans l1 e1, Rat.le_trans e2 g2⟩
    · exact ⟨Rat.le_trans l2 e1, Rat.le_trans e2 g1⟩
  have hB : leastQ (a * c) [a * d, b * c, b * d] ≤ b * q ∧ b * q ≤ greatQ (a * c) [a * d, b * c, b * d] := by
    rcases mul_lo (x := b) h3 h4 with ⟨e1, e2⟩ | ⟨e1, e2⟩
    · exact ⟨Rat.le_trans l3 e1, Rat.le_trans e2 g4⟩
    · exact ⟨Rat.le_trans l4 e1, Rat.le_trans e2 g3⟩
  rcases mul_lo' (q := q) h1 h2 with ⟨e1, e2⟩ | ⟨e1, e2⟩
  · exact ⟨Rat.le_trans hA.1 e1, Rat.le_trans e2 hB.2⟩
  · exact ⟨Rat.le_trans hB.1 e1, Rat.le_trans e2 hA.2⟩
theorem least_dup (x y : Rat) : leastQ x [y] = leastQ x [x, y, y] := by
  unfold leastQ
  simp only [List.foldl_cons, List.foldl_nil]
  rw [if_neg (c := x < x) (Rat.lt_irrefl)]
  by_cases h : y < x
  · rw [if_pos h, if_neg (Rat.lt_irrefl)]
  · rw [if_neg h, if_neg h]
theorem great_dup (x y : Rat) : greatQ x [y] = greatQ x [x, y, y] := by
  unfold greatQ
  simp only [List.foldl_cons, List.foldl_nil]
  rw [if_neg (c := x < x) (Rat.lt_irrefl)]
  by_cases h : x < y
  · rw [if_pos h, if_neg (Rat.lt_irrefl)]
  · rw [if_neg h, if_neg h]
theorem both_true {p q : Prop} [Decidable p] [Decidable q] (h1 : p) (h2 : q) : (decide p && decide q) = true := by simp [h1, h2]

set_option maxRecDepth 100000 in
set_option maxHeartbeats 4000000 in
theorem RationalIntervals_any (w : World) (n1 : Bool) (a1 : Option Addr) (k1 c1 : Nat) (xs1 : List Int) (m1 : Bool) (r1 : Option Addr) (l1 q1 : Nat) (ys1 : List Int) (h1 : Sl w a1 k1 c1 xs1) (g1 : Sl w r1 l1 q1 ys1) (hk1 : k1 ≤ 9223372036854775807) (hl1 : l1 ≤ 9223372036854775807) (n2 : Bool) (a2 : Option Addr) (k2 c2 : Nat) (xs2 : List Int) (m2 : Bool) (r2 : Option Addr) (l2 q2 : Nat) (ys2 : List Int) (h2 : Sl w a2 k2 c2 xs2) (g2 : Sl w r2 l2 q2 ys2) (hk2 : k2 ≤ 9223372036854775807) (hl2 : l2 ≤ 9223372036854775807) (n3 : Bool) (a3 : Option Addr) (k3 c3 : Nat) (xs3 : List Int) (m3 : Bool) (r3 : Option Addr) (l3 q3 : Nat) (ys3 : List Int) (h3 : Sl w a3 k3 c3 xs3) (g3 : Sl w r3 l3 q3 ys3) (hk3 : k3 ≤ 9223372036854775807) (hl3 : l3 ≤ 9223372036854775807) (n4 : Bool) (a4 : Option Addr) (k4 c4 : Nat) (xs4 : List Int) (m4 : Bool) (r4 : Option Addr) (l4 q4 : Nat) (ys4 : List Int) (h4 : Sl w a4 k4 c4 xs4) (g4 : Sl w r4 l4 q4 ys4) (hk4 : k4 ≤ 9223372036854775807) (hl4 : l4 ≤ 9223372036854775807) (s t : Int) (hs : 0 ≤ s ∧ s ≤ 255) (ht : 0 ≤ t ∧ t ≤ 255) :
    Calls Tryz.prog 4 #[.agg #[.bool n1, .slice a1 k1 c1, .bool m1, .slice r1 l1 q1, .bool n2, .slice a2 k2 c2, .bool m2, .slice r2 l2 q2], .agg #[.bool n3, .slice a3 k3 c3, .bool m3, .slice r3 l3 q3, .bool n4, .slice a4 k4 c4, .bool m4, .slice r4 l4 q4], .agg #[.int .u8 s, .int .u8 t]] w fun e w' => e = .returned (.bool true) ∧ Below w.heap.size w w' := by
  obtain ⟨x1, h1_⟩ : ∃ x, x = madeQ n1 xs1 ys1 m1 3 := ⟨_, rfl⟩
  have Bx1 : Hid (Rb x1 3) := by rw [h1_]; exact made_rb h1.digs g1.digs (by omega)
  have Hx1 := hidd h1_
  have K1 := hidd hk1
  have L1 := hidd hl1
  clear h1_ hk1 hl1
  obtain ⟨x2, h2_⟩ : ∃ x, x = madeQ n2 xs2 ys2 m2 3 := ⟨_, rfl⟩
  have Bx2 : Hid (Rb x2 3) := by rw [h2_]; exact made_rb h2.digs g2.digs (by omega)
  have Hx2 := hidd h2_
  have K2 := hidd hk2
  have L2 := hidd hl2
  clear h2_ hk2 hl2
  obtain ⟨x3, h3_⟩ : ∃ x, x = madeQ n3 xs3 ys3 m3 3 := ⟨_, rfl⟩
  have Bx3 : Hid (Rb x3 3) := by rw [h3_]; exact made_rb h3.digs g3.digs (by omega)
  have Hx3 := hidd h3_
  have K3 := hidd hk3
  have L3 := hidd hl3
  clear h3_ hk3 hl3
  obtain ⟨x4, h4_⟩ : ∃ x, x = madeQ n4 xs4 ys4 m4 3 := ⟨_, rfl⟩
  have Bx4 : Hid (Rb x4 3) := by rw [h4_]; exact made_rb h4.digs g4.digs (by omega)
  have Hx4 := hidd h4_
  have K4 := hidd hk4
  have L4 := hidd hl4
  clear h4_ hk4 hl4
  obtain ⟨a, hl_⟩ : ∃ x, x = leastQ x1 [x2] := ⟨_, rfl⟩
  obtain ⟨b, hg_⟩ : ∃ x, x = greatQ x1 [x2] := ⟨_, rfl⟩
  have Ba : Hid (Rb a 3) := by rw [hl_]; exact rb_least Bx1.out (allR Bx2.out nilR)
  have Bb : Hid (Rb b 3) := by rw [hg_]; exact rb_great Bx1.out (allR Bx2.out nilR)
  have Oa : Hid (a ≤ b) := by show _ ≤ _; rw [hl_, hg_]; exact span_le _ _
  have Ha := hidd hl_
  have Hb := hidd hg_
  clear hl_ hg_
  obtain ⟨c, hl_⟩ : ∃ x, x = leastQ x3 [x4] := ⟨_, rfl⟩
  obtain ⟨d, hg_⟩ : ∃ x, x = greatQ x3 [x4] := ⟨_, rfl⟩
  have Bc : Hid (Rb c 3) := by rw [hl_]; exact rb_least Bx3.out (allR Bx4.out nilR)
  have Bd : Hid (Rb d 3) := by rw [hg_]; exact rb_great Bx3.out (allR Bx4.out nilR)
  have Oc : Hid (c ≤ d) := by show _ ≤ _; rw [hl_, hg_]; exact span_le _ _
  have Hc := hidd hl_
  have Hd := hidd hg_
  clear hl_ hg_
  obtain ⟨p, hp_⟩ : ∃ x, x = a + Rat.divInt (s % 9) (8) * (b - a) := ⟨_, rfl⟩
  obtain ⟨q, hq_⟩ : ∃ x, x = c + Rat.divInt (t % 9) (8) * (d - c) := ⟨_, rfl⟩
  have IP : Hid (a ≤ p ∧ p ≤ b) := by rw [hp_]; exact inner_in Oa.out
  have IQ : Hid (c ≤ q ∧ q ≤ d) := by rw [hq_]; exact inner_in Oc.out
  have Bp : Hid (Rb p 20) := by rw [hp_]; exact rb_le (rb_add Ba.out (rb_mul (rb_divInt (k := 3) (by decide) (ab_lit (by unfold ab; omega)) (ab_lit (by decide))) (rb_sub Bb.out Ba.out))) (by omega)
  have Bq : Hid (Rb q 20) := by rw [hq_]; exact rb_le (rb_add Bc.out (rb_mul (rb_divInt (k := 3) (by decide) (ab_lit (by unfold ab; omega)) (ab_lit (by decide))) (rb_sub Bd.out Bc.out))) (by omega)
  have Hp := hidd hp_
  have Hq := hidd hq_
  have HS := hidd hs
  have HT := hidd ht
  clear hp_ hq_ hs ht
  obtain ⟨w1, b1, hw1, hb1, hs1, E⟩ := fr_start w (F := Fq.raws2 n1 a1 k1 c1 xs1 m1 r1 l1 q1 ys1 n2 a2 k2 c2 xs2 m2 r2 l2 q2 ys2) (us := [.bool n1, .slice a1 k1 c1, .bool m1, .slice r1 l1 q1, .bool n2, .slice a2 k2 c2, .bool m2, .slice r2 l2 q2]) 44 rfl (by simp) (tame_ivl _ _ _ _ _ _ _ _ _ _ _ _ _ _ _ _) (show (Fq.raws2 n1 a1 k1 c1 xs1 m1 r1 l1 q1 ys1 n2 a2 k2 c2 xs2 m2 r2 l2 q2 ys2).P _ w from ⟨rfl, h1, g1, h2, g2⟩)
  obtain ⟨w2, b2, hw2, hb2, hs2, E⟩ := fr_more E hs1 (F := Fq.raws2 n3 a3 k3 c3 xs3 m3 r3 l3 q3 ys3 n4 a4 k4 c4 xs4 m4 r4 l4 q4 ys4) (us := [.bool n3, .slice a3 k3 c3, .bool m3, .slice r3 l3 q3, .bool n4, .slice a4 k4 c4, .bool m4, .slice r4 l4 q4]) 44 rfl (by simp) (tame_ivl _ _ _ _ _ _ _ _ _ _ _ _ _ _ _ _) ((Fq.raws2 n3 a3 k3 c3 xs3 m3 r3 l3 q3 ys3 n4 a4 k4 c4 xs4 m4 r4 l4 q4 ys4).mono (show (Fq.raws2 n3 a3 k3 c3 xs3 m3 r3 l3 q3 ys3 n4 a4 k4 c4 xs4 m4 r4 l4 q4 ys4).P _ w from ⟨rfl, h3, g3, h4, g4⟩) E.below)
  obtain ⟨w3, b3, hw3, hb3, hs3, E⟩ := fr_more E hs2 (F := Fq.is (.agg #[.int .u8 s, .int .u8 t])) (us := [.int .u8 s, .int .u8 t]) 45 rfl (by simp) (tame_u8s _ _) ((Fq.is (.agg #[.int .u8 s, .int .u8 t])).mono (show (Fq.is (.agg #[.int .u8 s, .int .u8 t])).P _ w from (show Value.agg #[.int .u8 s, .int .u8 t] = _ from rfl)) E.below)
  go_enter Tryz.func4, Tryz.ntmps4
  go_upto_region 1 with (fail)
  rw [← hw1]
  rw [← hw2]
  rw [← hw3]
  rw [← hb3]
  rw [← hb2]
  rw [← hb1]
  clear hw1 hw2 hw3 hb1 hb2 hb3 hs3 hs1 hs2
  refine region_fr (C := [Fq.is (.bool true), Fq.is (.bool true)]) (ks := [none, none, none]) (new := []) E rfl (by kernel_rfl) rfl rfl (fun hp => ⟨?_, ?_, trivial⟩) ?_
  · exact q_call0 hp (free_of rfl) trivial (enq_K_examples) (fun w => exExamples w)
  · exact q_assign hp (free_of rfl) trivial (sq_in 0 rfl rfl (by simp) rfl (fun v w h => h))
  intro L vs w4 nb hL hC hn E4
  have e0 : vs 0 = .bool true := hC 0 (by simp)
  have e1 : vs 1 = .bool true := hC 1 (by simp)
  have E : Fr w [(b3, 2, Fq.is (.agg #[.int .u8 s, .int .u8 t])), (b2, 8, Fq.raws2 n3 a3 k3 c3 xs3 m3 r3 l3 q3 ys3 n4 a4 k4 c4 xs4 m4 r4 l4 q4 ys4), (b1, 8, Fq.raws2 n1 a1 k1 c1 xs1 m1 r1 l1 q1 ys1 n2 a2 k2 c2 xs2 m2 r2 l2 q2 ys2)] w4 := E4
  rw [lay_all hL]
  simp only [putAll, dstOf, List.length_cons, List.length_nil, Nat.zero_add, Nat.reduceAdd, List.getElem?_toArray, List.getElem?_cons_zero, List.getElem?_cons_succ, Option.bind_some, Act.put, List.setIfInBounds_toArray, List.set_cons_succ, List.set_cons_zero]
  rw [e0, e1]
  clear e0 e1 hC hn E4 hL vs L nb
  go_upto_region 2 with (fail)
  refine region_fr (C := [Fq.is (.bool true), Fq.is (.bool false)]) (ks := [none, none, none]) (new := []) E rfl (by kernel_rfl) rfl rfl (fun hp => ⟨?_, ?_, trivial⟩) ?_
  · exact q_move hp (free_of rfl) trivial (sq_out rfl rfl (fun _ _ => rfl))
  · exact q_one (F := fun v _ => v = .bool true) hp (free_of rfl) trivial (sq_in 0 rfl rfl (by simp) rfl (fun v w h => h)) (fun ρ w _ h => ⟨.bool false, by simp [execOp, go_sem, h], rfl⟩)
  intro L vs w5 nb hL hC hn E5
  have e0 : vs 0 = .bool true := hC 0 (by simp)
  have e1 : vs 1 = .bool false := hC 1 (by simp)
  have E : Fr w [(b3, 2, Fq.is (.agg #[.int .u8 s, .int .u8 t])), (b2, 8, Fq.raws2 n3 a3 k3 c3 xs3 m3 r3 l3 q3 ys3 n4 a4 k4 c4 xs4 m4 r4 l4 q4 ys4), (b1, 8, Fq.raws2 n1 a1 k1 c1 xs1 m1 r1 l1 q1 ys1 n2 a2 k2 c2 xs2 m2 r2 l2 q2 ys2)] w5 := E5
  rw [lay_all hL]
  simp only [putAll, dstOf, List.length_cons, List.length_nil, Nat.zero_add, Nat.reduceAdd, List.getElem?_toArray, List.getElem?_cons_zero, List.getElem?_cons_succ, Option.bind_some, Act.put, List.setIfInBounds_toArray, List.set_cons_succ, List.set_cons_zero]
  rw [e0, e1]
  clear e0 e1 hC hn E5 hL vs L nb
  go_upto_region 4 with (fail)
  refine region_fr (C := [Fq.is (.pointer (some ⟨b1, 0, none⟩)), Fq.raw2 n1 a1 k1 c1 xs1 m1 r1 l1 q1 ys1, Fq.pair x1.num (x1.den : Int), Fq.is (.pointer (some ⟨b1, 4, none⟩)), Fq.raw2 n2 a2 k2 c2 xs2 m2 r2 l2 q2 ys2, Fq.pair x2.num (x2.den : Int), Fq.ivl a.num (a.den : Int) b.num (b.den : Int), Fq.is (.pointer (some ⟨b2, 0, none⟩)), Fq.raw2 n3 a3 k3 c3 xs3 m3 r3 l3 q3 ys3, Fq.pair x3.num (x3.den : Int), Fq.is (.pointer (some ⟨b2, 4, none⟩)), Fq.raw2 n4 a4 k4 c4 xs4 m4 r4 l4 q4 ys4, Fq.pair x4.num (x4.den : Int), Fq.ivl c.num (c.den : Int) d.num (d.den : Int), Fq.any, Fq.any, Fq.any, Fq.any]) (ks := [none, none, none]) (new := [⟨14, 16, 8, Fq.ivl 0 0 0 0, Fq.ivl a.num (a.den : Int) b.num (b.den : Int), none⟩, ⟨15, 17, 8, Fq.ivl 0 0 0 0, Fq.ivl c.num (c.den : Int) d.num (d.den : Int), none⟩]) E rfl (by kernel_rfl) rfl rfl (fun hp => ⟨?_, ?_, ?_, ?_, ?_, ?_, ?_, ?_, ?_, ?_, ?_, ?_, ?_, ?_, ?_, ?_, ?_, ?_, trivial⟩) ?_
  · exact q_one (F := fun v _ => v = .pointer (some ⟨b1, 0, none⟩)) hp (free_of rfl) trivial (sq_out (s := 3) rfl rfl (fun _ _ => rfl)) (fun ρ w hc h => ⟨.pointer (some ⟨b1, 0, none⟩), by simp [execOp, go_sem, h, hc], rfl⟩)
  · exact q_loadRaw2At (off := 0) hp (free_of rfl) trivial (List.mem_iff_getElem?.2 ⟨2, rfl⟩) (.inl rfl) (Nat.le_of_ble_eq_true rfl) (sq_in 0 rfl rfl (by simp) rfl (fun v w h => h)) (fun us w hl h => ld_raws0 hl h)
  · exact q_call2 (F := (Fq.raw2 n1 a1 k1 c1 xs1 m1 r1 l1 q1 ys1).P) (G := (Fq.is (.int .i64 3)).P) hp (free_of rfl) trivial (enq_S_Made) (sq_in 1 rfl rfl (by simp) rfl (fun v w h => h)) (sq_const (fun _ => rfl)) (fun v v' w h h' => (by obtain ⟨rfl, s1, s2⟩ := h; subst h'; rw [Hx1.out]; exact exSMade (j := 3) s1 s2 K1.out L1.out (by omega)))
  · exact q_one (F := fun v _ => v = .pointer (some ⟨b1, 0, none⟩)) hp (free_of rfl) trivial (sq_out (s := 3) rfl rfl (fun _ _ => rfl)) (fun ρ w hc h => ⟨.pointer (some ⟨b1, 4, none⟩), by simp [execOp, go_sem, h, hc], rfl⟩)
  · exact q_loadRaw2At (off := 4) hp (free_of rfl) trivial (List.mem_iff_getElem?.2 ⟨2, rfl⟩) (.inl rfl) (Nat.le_of_ble_eq_true rfl) (sq_in 3 rfl rfl (by simp) rfl (fun v w h => h)) (fun us w hl h => ld_raws1 hl h)
  · exact q_call2 (F := (Fq.raw2 n2 a2 k2 c2 xs2 m2 r2 l2 q2 ys2).P) (G := (Fq.is (.int .i64 3)).P) hp (free_of rfl) trivial (enq_S_Made) (sq_in 4 rfl rfl (by simp) rfl (fun v w h => h)) (sq_const (fun _ => rfl)) (fun v v' w h h' => (by obtain ⟨rfl, s1, s2⟩ := h; subst h'; rw [Hx2.out]; exact exSMade (j := 3) s1 s2 K2.out L2.out (by omega)))
  · exact q_call2 (F := (Fq.pair x1.num (x1.den : Int)).P) (G := (Fq.pair x2.num (x2.den : Int)).P) hp (free_of rfl) trivial (enq_S_Span) (sq_in 2 rfl rfl (by simp) rfl (fun v w h => h)) (sq_in 5 rfl rfl (by simp) rfl (fun v w h => h)) (fun v v' w h h' => (by rw [Ha.out, Hb.out]; exact exSSpan h h' (rb_le Bx1.out (by omega)) (rb_le Bx2.out (by omega))))
  · exact q_one (F := fun v _ => v = .pointer (some ⟨b2, 0, none⟩)) hp (free_of rfl) trivial (sq_out (s := 4) rfl rfl (fun _ _ => rfl)) (fun ρ w hc h => ⟨.pointer (some ⟨b2, 0, none⟩), by simp [execOp, go_sem, h, hc], rfl⟩)
  · exact q_loadRaw2At (off := 0) hp (free_of rfl) trivial (List.mem_iff_getElem?.2 ⟨1, rfl⟩) (.inl rfl) (Nat.le_of_ble_eq_true rfl) (sq_in 7 rfl rfl (by simp) rfl (fun v w h => h)) (fun us w hl h => ld_raws0 hl h)
  · exact q_call2 (F := (Fq.raw2 n3 a3 k3 c3 xs3 m3 r3 l3 q3 ys3).P) (G := (Fq.is (.int .i64 3)).P) hp (free_of rfl) trivial (enq_S_Made) (sq_in 8 rfl rfl (by simp) rfl (fun v w h => h)) (sq_const (fun _ => rfl)) (fun v v' w h h' => (by obtain ⟨rfl, s1, s2⟩ := h; subst h'; rw [Hx3.out]; exact exSMade (j := 3) s1 s2 K3.out L3.out (by omega)))
  · exact q_one (F := fun v _ => v = .pointer (some ⟨b2, 0, none⟩)) hp (free_of rfl) trivial (sq_out (s := 4) rfl rfl (fun _ _ => rfl)) (fun ρ w hc h => ⟨.pointer (some ⟨b2, 4, none⟩), by simp [execOp, go_sem, h, hc], rfl⟩)
  · exact q_loadRaw2At (off := 4) hp (free_of rfl) trivial (List.mem_iff_getElem?.2 ⟨1, rfl⟩) (.inl rfl) (Nat.le_of_ble_eq_true rfl) (sq_in 10 rfl rfl (by simp) rfl (fun v w h => h)) (fun us w hl h => ld_raws1 hl h)
  · exact q_call2 (F := (Fq.raw2 n4 a4 k4 c4 xs4 m4 r4 l4 q4 ys4).P) (G := (Fq.is (.int .i64 3)).P) hp (free_of rfl) trivial (enq_S_Made) (sq_in 11 rfl rfl (by simp) rfl (fun v w h => h)) (sq_const (fun _ => rfl)) (fun v v' w h h' => (by obtain ⟨rfl, s1, s2⟩ := h; subst h'; rw [Hx4.out]; exact exSMade (j := 3) s1 s2 K4.out L4.out (by omega)))
  · exact q_call2 (F := (Fq.pair x3.num (x3.den : Int)).P) (G := (Fq.pair x4.num (x4.den : Int)).P) hp (free_of rfl) trivial (enq_S_Span) (sq_in 9 rfl rfl (by simp) rfl (fun v w h => h)) (sq_in 12 rfl rfl (by simp) rfl (fun v w h => h)) (fun v v' w h h' => (by rw [Hc.out, Hd.out]; exact exSSpan h h' (rb_le Bx3.out (by omega)) (rb_le Bx4.out (by omega))))
  · exact q_allocIvl hp (List.mem_iff_getElem?.2 ⟨0, rfl⟩) rfl rfl rfl rfl (Nat.ne_of_beq_eq_false rfl) (fun _ _ => trivial) (old_ne rfl) (newk_ne rfl) (fun w => Ivl.zero w)
  · exact q_allocIvl hp (List.mem_iff_getElem?.2 ⟨1, rfl⟩) rfl rfl rfl rfl (Nat.ne_of_beq_eq_false rfl) (fun _ _ => trivial) (old_ne rfl) (newk_ne rfl) (fun w => Ivl.zero w)
  · exact q_storeNewIvl hp (List.mem_iff_getElem?.2 ⟨0, rfl⟩) rfl rfl rfl (own_ptr rfl rfl (by simp) rfl) (sq_in 6 rfl rfl (by simp) rfl (fun v w h => h.parts)) (fun _ _ => trivial) (old_ne rfl) (newi_ne rfl)
  · exact q_storeNewIvl hp (List.mem_iff_getElem?.2 ⟨1, rfl⟩) rfl rfl rfl (own_ptr rfl rfl (by simp) rfl) (sq_in 13 rfl rfl (by simp) rfl (fun v w h => h.parts)) (fun _ _ => trivial) (old_ne rfl) (newi_ne rfl)
  intro L vs w6 nb hL hC hn E6
  have e0 : vs 0 = .pointer (some ⟨b1, 0, none⟩) := hC 0 (by simp)
  have e3 : vs 3 = .pointer (some ⟨b1, 4, none⟩) := hC 3 (by simp)
  have e7 : vs 7 = .pointer (some ⟨b2, 0, none⟩) := hC 7 (by simp)
  have e10 : vs 10 = .pointer (some ⟨b2, 4, none⟩) := hC 10 (by simp)
  have e14 : vs 14 = .pointer (some ⟨nb 14, 0, none⟩) := hn _ (List.mem_iff_getElem?.2 ⟨0, rfl⟩)
  have e15 : vs 15 = .pointer (some ⟨nb 15, 0, none⟩) := hn _ (List.mem_iff_getElem?.2 ⟨1, rfl⟩)
  have E : Fr w [(nb 14, 8, Fq.ivl a.num (a.den : Int) b.num (b.den : Int)), (nb 15, 8, Fq.ivl c.num (c.den : Int) d.num (d.den : Int)), (b3, 2, Fq.is (.agg #[.int .u8 s, .int .u8 t])), (b2, 8, Fq.raws2 n3 a3 k3 c3 xs3 m3 r3 l3 q3 ys3 n4 a4 k4 c4 xs4 m4 r4 l4 q4 ys4), (b1, 8, Fq.raws2 n1 a1 k1 c1 xs1 m1 r1 l1 q1 ys1 n2 a2 k2 c2 xs2 m2 r2 l2 q2 ys2)] w6 := E6
  rw [lay_all hL]
  simp only [putAll, dstOf, List.length_cons, List.length_nil, Nat.zero_add, Nat.reduceAdd, List.getElem?_toArray, List.getElem?_cons_zero, List.getElem?_cons_succ, Option.bind_some, Act.put, List.setIfInBounds_toArray, List.set_cons_succ, List.set_cons_zero]
  rw [e0, e3, e7, e10, e14, e15]
  generalize nb 14 = b6_14 at E ⊢
  generalize nb 15 = b6_15 at E ⊢
  generalize vs 1 = u6_1
  generalize vs 2 = u6_2
  generalize vs 4 = u6_4
  generalize vs 5 = u6_5
  generalize vs 6 = u6_6
  generalize vs 8 = u6_8
  generalize vs 9 = u6_9
  generalize vs 11 = u6_11
  generalize vs 12 = u6_12
  generalize vs 13 = u6_13
  clear e0 e3 e7 e10 e14 e15 hC hn E6 hL vs L nb
  go_upto_region 5 with (fail)
  refine region_fr (C := [Fq.ivl a.num (a.den : Int) b.num (b.den : Int), Fq.is (.pointer (some ⟨b3, 0, none⟩)), Fq.is (.int .u8 s), Fq.pair p.num (p.den : Int), Fq.ivl c.num (c.den : Int) d.num (d.den : Int), Fq.is (.pointer (some ⟨b3, 1, none⟩)), Fq.is (.int .u8 t), Fq.pair q.num (q.den : Int), Fq.any, Fq.any, Fq.any, Fq.any]) (ks := [none, none, none, none, none]) (new := [⟨8, 10, 4, Fq.pair 0 0, Fq.pair p.num (p.den : Int), none⟩, ⟨9, 11, 4, Fq.pair 0 0, Fq.pair q.num (q.den : Int), none⟩]) E rfl (by kernel_rfl) rfl rfl (fun hp => ⟨?_, ?_, ?_, ?_, ?_, ?_, ?_, ?_, ?_, ?_, ?_, ?_, trivial⟩) ?_
  · exact q_loadIvl hp (free_of rfl) trivial (List.mem_iff_getElem?.2 ⟨0, rfl⟩) (.inl rfl) rfl (sq_out rfl rfl (fun _ _ => rfl)) (fun us w hl h => h)
  · exact q_one (F := fun v _ => v = .pointer (some ⟨b3, 0, none⟩)) hp (free_of rfl) trivial (sq_out (s := 5) rfl rfl (fun _ _ => rfl)) (fun ρ w hc h => ⟨.pointer (some ⟨b3, 0, none⟩), by simp [execOp, go_sem, h, hc], rfl⟩)
  · exact q_loadU8 (off := 0) (v := .int .u8 s) hp (free_of rfl) trivial (List.mem_iff_getElem?.2 ⟨2, rfl⟩) (.inl rfl) (Nat.le_of_ble_eq_true rfl) (sq_in 1 rfl rfl (by simp) rfl (fun v w h => h)) (fun us w hl h => ⟨ld_u8s0 hl h, rfl⟩)
  · exact q_call2 (F := (Fq.ivl a.num (a.den : Int) b.num (b.den : Int)).P) (G := (Fq.is (.int .u8 s)).P) hp (free_of rfl) trivial (enq_K_inner) (sq_in 0 rfl rfl (by simp) rfl (fun v w h => h)) (sq_in 2 rfl rfl (by simp) rfl (fun v w h => h)) (fun v v' w h h' => (by subst h'; rw [Hp.out]; exact exInner h (rb_le Ba.out (by omega)) (rb_le Bb.out (by omega)) HS.out))
  · exact q_loadIvl hp (free_of rfl) trivial (List.mem_iff_getElem?.2 ⟨1, rfl⟩) (.inl rfl) rfl (sq_out rfl rfl (fun _ _ => rfl)) (fun us w hl h => h)
  · exact q_one (F := fun v _ => v = .pointer (some ⟨b3, 0, none⟩)) hp (free_of rfl) trivial (sq_out (s := 5) rfl rfl (fun _ _ => rfl)) (fun ρ w hc h => ⟨.pointer (some ⟨b3, 1, none⟩), by simp [execOp, go_sem, h, hc], rfl⟩)
  · exact q_loadU8 (off := 1) (v := .int .u8 t) hp (free_of rfl) trivial (List.mem_iff_getElem?.2 ⟨2, rfl⟩) (.inl rfl) (Nat.le_of_ble_eq_true rfl) (sq_in 5 rfl rfl (by simp) rfl (fun v w h => h)) (fun us w hl h => ⟨ld_u8s1 hl h, rfl⟩)
  · exact q_call2 (F := (Fq.ivl c.num (c.den : Int) d.num (d.den : Int)).P) (G := (Fq.is (.int .u8 t)).P) hp (free_of rfl) trivial (enq_K_inner) (sq_in 4 rfl rfl (by simp) rfl (fun v w h => h)) (sq_in 6 rfl rfl (by simp) rfl (fun v w h => h)) (fun v v' w h h' => (by subst h'; rw [Hq.out]; exact exInner h (rb_le Bc.out (by omega)) (rb_le Bd.out (by omega)) HT.out))
  · exact q_allocRat hp (List.mem_iff_getElem?.2 ⟨0, rfl⟩) rfl rfl rfl rfl (Nat.ne_of_beq_eq_false rfl) (fun _ _ => trivial) (old_ne rfl) (newk_ne rfl) (fun w => Pair.zero w)
  · exact q_allocRat hp (List.mem_iff_getElem?.2 ⟨1, rfl⟩) rfl rfl rfl rfl (Nat.ne_of_beq_eq_false rfl) (fun _ _ => trivial) (old_ne rfl) (newk_ne rfl) (fun w => Pair.zero w)
  · exact q_storeNewRat hp (List.mem_iff_getElem?.2 ⟨0, rfl⟩) rfl rfl rfl (own_ptr rfl rfl (by simp) rfl) (sq_in 3 rfl rfl (by simp) rfl (fun v w h => ratV_pair h)) (fun _ _ => trivial) (old_ne rfl) (newi_ne rfl)
  · exact q_storeNewRat hp (List.mem_iff_getElem?.2 ⟨1, rfl⟩) rfl rfl rfl (own_ptr rfl rfl (by simp) rfl) (sq_in 7 rfl rfl (by simp) rfl (fun v w h => ratV_pair h)) (fun _ _ => trivial) (old_ne rfl) (newi_ne rfl)
  intro L vs w7 nb hL hC hn E7
  have e1 : vs 1 = .pointer (some ⟨b3, 0, none⟩) := hC 1 (by simp)
  have e2 : vs 2 = .int .u8 s := hC 2 (by simp)
  have e5 : vs 5 = .pointer (some ⟨b3, 1, none⟩) := hC 5 (by simp)
  have e6 : vs 6 = .int .u8 t := hC 6 (by simp)
  have e8 : vs 8 = .pointer (some ⟨nb 8, 0, none⟩) := hn _ (List.mem_iff_getElem?.2 ⟨0, rfl⟩)
  have e9 : vs 9 = .pointer (some ⟨nb 9, 0, none⟩) := hn _ (List.mem_iff_getElem?.2 ⟨1, rfl⟩)
  have E : Fr w [(nb 8, 4, Fq.pair p.num (p.den : Int)), (nb 9, 4, Fq.pair q.num (q.den : Int)), (b6_14, 8, Fq.ivl a.num (a.den : Int) b.num (b.den : Int)), (b6_15, 8, Fq.ivl c.num (c.den : Int) d.num (d.den : Int)), (b3, 2, Fq.is (.agg #[.int .u8 s, .int .u8 t])), (b2, 8, Fq.raws2 n3 a3 k3 c3 xs3 m3 r3 l3 q3 ys3 n4 a4 k4 c4 xs4 m4 r4 l4 q4 ys4), (b1, 8, Fq.raws2 n1 a1 k1 c1 xs1 m1 r1 l1 q1 ys1 n2 a2 k2 c2 xs2 m2 r2 l2 q2 ys2)] w7 := E7
  rw [lay_all hL]
  simp only [putAll, dstOf, List.length_cons, List.length_nil, Nat.zero_add, Nat.reduceAdd, List.getElem?_toArray, List.getElem?_cons_zero, List.getElem?_cons_succ, Option.bind_some, Act.put, List.setIfInBounds_toArray, List.set_cons_succ, List.set_cons_zero]
  rw [e1, e2, e5, e6, e8, e9]
  generalize nb 8 = b7_8 at E ⊢
  generalize nb 9 = b7_9 at E ⊢
  generalize vs 0 = u7_0
  generalize vs 3 = u7_3
  generalize vs 4 = u7_4
  generalize vs 7 = u7_7
  clear e1 e2 e5 e6 e8 e9 hC hn E7 hL vs L nb
  go_upto_region 6 with (fail)
  have B8 : Hid (Rb (a + c) 7) := rb_le (rb_add Ba.out Bc.out) (by omega)
  have B9 : Hid (Rb (b + d) 7) := rb_le (rb_add Bb.out Bd.out) (by omega)
  have B10 : Hid (Rb (a - d) 7) := rb_le (rb_sub Ba.out Bd.out) (by omega)
  have B11 : Hid (Rb (b - c) 7) := rb_le (rb_sub Bb.out Bc.out) (by omega)
  have B12 : Hid (Rb (a * c) 6) := rb_le (rb_mul Ba.out Bc.out) (by omega)
  have B13 : Hid (Rb (a * d) 6) := rb_le (rb_mul Ba.out Bd.out) (by omega)
  have B14 : Hid (Rb (b * c) 6) := rb_le (rb_mul Bb.out Bc.out) (by omega)
  have B15 : Hid (Rb (b * d) 6) := rb_le (rb_mul Bb.out Bd.out) (by omega)
  have B16 : Hid (Rb (leastQ (a * c) [a * d, b * c, b * d]) 6) := rb_least (rb_le B12.out (by omega)) (allR (rb_le B13.out (by omega)) (allR (rb_le B14.out (by omega)) (allR (rb_le B15.out (by omega)) nilR)))
  have B17 : Hid (Rb (greatQ (a * c) [a * d, b * c, b * d]) 6) := rb_great (rb_le B12.out (by omega)) (allR (rb_le B13.out (by omega)) (allR (rb_le B14.out (by omega)) (allR (rb_le B15.out (by omega)) nilR)))
  have B18 : Hid (Rb (a * q) 23) := rb_le (rb_mul Ba.out Bq.out) (by omega)
  have B19 : Hid (Rb (b * q) 23) := rb_le (rb_mul Bb.out Bq.out) (by omega)
  have B20 : Hid (Rb (leastQ (a * q) [b * q]) 23) := rb_least (rb_le B18.out (by omega)) (allR (rb_le B19.out (by omega)) nilR)
  have B21 : Hid (Rb (greatQ (a * q) [b * q]) 23) := rb_great (rb_le B18.out (by omega)) (allR (rb_le B19.out (by omega)) nilR)
  refine region_fr (C := [Fq.ivl a.num (a.den : Int) b.num (b.den : Int), Fq.ivl c.num (c.den : Int) d.num (d.den : Int), Fq.ivl (a + c).num ((a + c).den : Int) (b + d).num ((b + d).den : Int), Fq.ivl a.num (a.den : Int) b.num (b.den : Int), Fq.ivl c.num (c.den : Int) d.num (d.den : Int), Fq.ivl (a - d).num ((a - d).den : Int) (b - c).num ((b - c).den : Int), Fq.ivl a.num (a.den : Int) b.num (b.den : Int), Fq.ivl c.num (c.den : Int) d.num (d.den : Int), Fq.ivl (leastQ (a * c) [a * d, b * c, b * d]).num ((leastQ (a * c) [a * d, b * c, b * d]).den : Int) (greatQ (a * c) [a * d, b * c, b * d]).num ((greatQ (a * c) [a * d, b * c, b * d]).den : Int), Fq.ivl a.num (a.den : Int) b.num (b.den : Int), Fq.pair q.num (q.den : Int), Fq.ivl (leastQ (a * q) [b * q]).num ((leastQ (a * q) [b * q]).den : Int) (greatQ (a * q) [b * q]).num ((greatQ (a * q) [b * q]).den : Int), Fq.any, Fq.any, Fq.any, Fq.any, Fq.any, Fq.any, Fq.any, Fq.any]) (ks := [none, none, none, none, none, none, none]) (new := [⟨12, 16, 8, Fq.ivl 0 0 0 0, Fq.ivl (a + c).num ((a + c).den : Int) (b + d).num ((b + d).den : Int), none⟩, ⟨13, 17, 8, Fq.ivl 0 0 0 0, Fq.ivl (a - d).num ((a - d).den : Int) (b - c).num ((b - c).den : Int), none⟩, ⟨14, 18, 8, Fq.ivl 0 0 0 0, Fq.ivl (leastQ (a * c) [a * d, b * c, b * d]).num ((leastQ (a * c) [a * d, b * c, b * d]).den : Int) (greatQ (a * c) [a * d, b * c, b * d]).num ((greatQ (a * c) [a * d, b * c, b * d]).den : Int), none⟩, ⟨15, 19, 8, Fq.ivl 0 0 0 0, Fq.ivl (leastQ (a * q) [b * q]).num ((leastQ (a * q) [b * q]).den : Int) (greatQ (a * q) [b * q]).num ((greatQ (a * q) [b * q]).den : Int), none⟩]) E rfl (by kernel_rfl) rfl rfl (fun hp => ⟨?_, ?_, ?_, ?_, ?_, ?_, ?_, ?_, ?_, ?_, ?_, ?_, ?_, ?_, ?_, ?_, ?_, ?_, ?_, ?_, trivial⟩) ?_
  · exact q_loadIvl hp (free_of rfl) trivial (List.mem_iff_getElem?.2 ⟨2, rfl⟩) (.inl rfl) rfl (sq_out rfl rfl (fun _ _ => rfl)) (fun us w hl h => h)
  · exact q_loadIvl hp (free_of rfl) trivial (List.mem_iff_getElem?.2 ⟨3, rfl⟩) (.inl rfl) rfl (sq_out rfl rfl (fun _ _ => rfl)) (fun us w hl h => h)
  · exact q_call2 (F := (Fq.ivl a.num (a.den : Int) b.num (b.den : Int)).P) (G := (Fq.ivl c.num (c.den : Int) d.num (d.den : Int)).P) hp (free_of rfl) trivial (enq_Q_IAdd) (sq_in 0 rfl rfl (by simp) rfl (fun v w h => h)) (sq_in 1 rfl rfl (by simp) rfl (fun v w h => h)) (fun v v' w h h' => exQIAdd h h' (rb_le Ba.out (by omega)) (rb_le Bb.out (by omega)) (rb_le Bc.out (by omega)) (rb_le Bd.out (by omega)))
  · exact q_loadIvl hp (free_of rfl) trivial (List.mem_iff_getElem?.2 ⟨2, rfl⟩) (.inl rfl) rfl (sq_out rfl rfl (fun _ _ => rfl)) (fun us w hl h => h)
  · exact q_loadIvl hp (free_of rfl) trivial (List.mem_iff_getElem?.2 ⟨3, rfl⟩) (.inl rfl) rfl (sq_out rfl rfl (fun _ _ => rfl)) (fun us w hl h => h)
  · exact q_call2 (F := (Fq.ivl a.num (a.den : Int) b.num (b.den : Int)).P) (G := (Fq.ivl c.num (c.den : Int) d.num (d.den : Int)).P) hp (free_of rfl) trivial (enq_Q_ISub) (sq_in 3 rfl rfl (by simp) rfl (fun v w h => h)) (sq_in 4 rfl rfl (by simp) rfl (fun v w h => h)) (fun v v' w h h' => exQISub h h' (rb_le Ba.out (by omega)) (rb_le Bb.out (by omega)) (rb_le Bc.out (by omega)) (rb_le Bd.out (by omega)))
  · exact q_loadIvl hp (free_of rfl) trivial (List.mem_iff_getElem?.2 ⟨2, rfl⟩) (.inl rfl) rfl (sq_out rfl rfl (fun _ _ => rfl)) (fun us w hl h => h)
  · exact q_loadIvl hp (free_of rfl) trivial (List.mem_iff_getElem?.2 ⟨3, rfl⟩) (.inl rfl) rfl (sq_out rfl rfl (fun _ _ => rfl)) (fun us w hl h => h)
  · exact q_call2 (F := (Fq.ivl a.num (a.den : Int) b.num (b.den : Int)).P) (G := (Fq.ivl c.num (c.den : Int) d.num (d.den : Int)).P) hp (free_of rfl) trivial (enq_Q_IMul) (sq_in 6 rfl rfl (by simp) rfl (fun v w h => h)) (sq_in 7 rfl rfl (by simp) rfl (fun v w h => h)) (fun v v' w h h' => exQIMul h h' (rb_le Ba.out (by omega)) (rb_le Bb.out (by omega)) (rb_le Bc.out (by omega)) (rb_le Bd.out (by omega)))
  · exact q_loadIvl hp (free_of rfl) trivial (List.mem_iff_getElem?.2 ⟨2, rfl⟩) (.inl rfl) rfl (sq_out rfl rfl (fun _ _ => rfl)) (fun us w hl h => h)
  · exact q_loadRat hp (free_of rfl) trivial (List.mem_iff_getElem?.2 ⟨1, rfl⟩) (.inl rfl) rfl (sq_out rfl rfl (fun _ _ => rfl)) (fun us w hl h => h)
  · exact q_call2 (F := (Fq.ivl a.num (a.den : Int) b.num (b.den : Int)).P) (G := (Fq.pair q.num (q.den : Int)).P) hp (free_of rfl) trivial (enq_Q_Scale) (sq_in 9 rfl rfl (by simp) rfl (fun v w h => h)) (sq_in 10 rfl rfl (by simp) rfl (fun v w h => h)) (fun v v' w h h' => exQScale h h' (rb_le Ba.out (by omega)) (rb_le Bb.out (by omega)) (rb_le Bq.out (by omega)))
  · exact q_allocIvl hp (List.mem_iff_getElem?.2 ⟨0, rfl⟩) rfl rfl rfl rfl (Nat.ne_of_beq_eq_false rfl) (fun _ _ => trivial) (old_ne rfl) (newk_ne rfl) (fun w => Ivl.zero w)
  · exact q_allocIvl hp (List.mem_iff_getElem?.2 ⟨1, rfl⟩) rfl rfl rfl rfl (Nat.ne_of_beq_eq_false rfl) (fun _ _ => trivial) (old_ne rfl) (newk_ne rfl) (fun w => Ivl.zero w)
  · exact q_allocIvl hp (List.mem_iff_getElem?.2 ⟨2, rfl⟩) rfl rfl rfl rfl (Nat.ne_of_beq_eq_false rfl) (fun _ _ => trivial) (old_ne rfl) (newk_ne rfl) (fun w => Ivl.zero w)
  · exact q_allocIvl hp (List.mem_iff_getElem?.2 ⟨3, rfl⟩) rfl rfl rfl rfl (Nat.ne_of_beq_eq_false rfl) (fun _ _ => trivial) (old_ne rfl) (newk_ne rfl) (fun w => Ivl.zero w)
  · exact q_storeNewIvl hp (List.mem_iff_getElem?.2 ⟨0, rfl⟩) rfl rfl rfl (own_ptr rfl rfl (by simp) rfl) (sq_in 2 rfl rfl (by simp) rfl (fun v w h => h.parts)) (fun _ _ => trivial) (old_ne rfl) (newi_ne rfl)
  · exact q_storeNewIvl hp (List.mem_iff_getElem?.2 ⟨1, rfl⟩) rfl rfl rfl (own_ptr rfl rfl (by simp) rfl) (sq_in 5 rfl rfl (by simp) rfl (fun v w h => h.parts)) (fun _ _ => trivial) (old_ne rfl) (newi_ne rfl)
  · exact q_storeNewIvl hp (List.mem_iff_getElem?.2 ⟨2, rfl⟩) rfl rfl rfl (own_ptr rfl rfl (by simp) rfl) (sq_in 8 rfl rfl (by simp) rfl (fun v w h => h.parts)) (fun _ _ => trivial) (old_ne rfl) (newi_ne rfl)
  · exact q_storeNewIvl hp (List.mem_iff_getElem?.2 ⟨3, rfl⟩) rfl rfl rfl (own_ptr rfl rfl (by simp) rfl) (sq_in 11 rfl rfl (by simp) rfl (fun v w h => h.parts)) (fun _ _ => trivial) (old_ne rfl) (newi_ne rfl)
  intro L vs w22 nb hL hC hn E22
  have e12 : vs 12 = .pointer (some ⟨nb 12, 0, none⟩) := hn _ (List.mem_iff_getElem?.2 ⟨0, rfl⟩)
  have e13 : vs 13 = .pointer (some ⟨nb 13, 0, none⟩) := hn _ (List.mem_iff_getElem?.2 ⟨1, rfl⟩)
  have e14 : vs 14 = .pointer (some ⟨nb 14, 0, none⟩) := hn _ (List.mem_iff_getElem?.2 ⟨2, rfl⟩)
  have e15 : vs 15 = .pointer (some ⟨nb 15, 0, none⟩) := hn _ (List.mem_iff_getElem?.2 ⟨3, rfl⟩)
  have E : Fr w [(nb 12, 8, Fq.ivl (a + c).num ((a + c).den : Int) (b + d).num ((b + d).den : Int)), (nb 13, 8, Fq.ivl (a - d).num ((a - d).den : Int) (b - c).num ((b - c).den : Int)), (nb 14, 8, Fq.ivl (leastQ (a * c) [a * d, b * c, b * d]).num ((leastQ (a * c) [a * d, b * c, b * d]).den : Int) (greatQ (a * c) [a * d, b * c, b * d]).num ((greatQ (a * c) [a * d, b * c, b * d]).den : Int)), (nb 15, 8, Fq.ivl (leastQ (a * q) [b * q]).num ((leastQ (a * q) [b * q]).den : Int) (greatQ (a * q) [b * q]).num ((greatQ (a * q) [b * q]).den : Int)), (b7_8, 4, Fq.pair p.num (p.den : Int)), (b7_9, 4, Fq.pair q.num (q.den : Int)), (b6_14, 8, Fq.ivl a.num (a.den : Int) b.num (b.den : Int)), (b6_15, 8, Fq.ivl c.num (c.den : Int) d.num (d.den : Int)), (b3, 2, Fq.is (.agg #[.int .u8 s, .int .u8 t])), (b2, 8, Fq.raws2 n3 a3 k3 c3 xs3 m3 r3 l3 q3 ys3 n4 a4 k4 c4 xs4 m4 r4 l4 q4 ys4), (b1, 8, Fq.raws2 n1 a1 k1 c1 xs1 m1 r1 l1 q1 ys1 n2 a2 k2 c2 xs2 m2 r2 l2 q2 ys2)] w22 := E22
  rw [lay_all hL]
  simp only [putAll, dstOf, List.length_cons, List.length_nil, Nat.zero_add, Nat.reduceAdd, List.getElem?_toArray, List.getElem?_cons_zero, List.getElem?_cons_succ, Option.bind_some, Act.put, List.setIfInBounds_toArray, List.set_cons_succ, List.set_cons_zero]
  rw [e12, e13, e14, e15]
  generalize nb 12 = b22_12 at E ⊢
  generalize nb 13 = b22_13 at E ⊢
  generalize nb 14 = b22_14 at E ⊢
  generalize nb 15 = b22_15 at E ⊢
  generalize vs 0 = u22_0
  generalize vs 1 = u22_1
  generalize vs 2 = u22_2
  generalize vs 3 = u22_3
  generalize vs 4 = u22_4
  generalize vs 5 = u22_5
  generalize vs 6 = u22_6
  generalize vs 7 = u22_7
  generalize vs 8 = u22_8
  generalize vs 9 = u22_9
  generalize vs 10 = u22_10
  generalize vs 11 = u22_11
  clear e12 e13 e14 e15 hC hn E22 hL vs L nb
  go_upto_region 7 with (fail)
  have B23 : Hid (Rb (leastQ (a * q) [a * q, b * q, b * q]) 23) := rb_least (rb_le B18.out (by omega)) (allR (rb_le B18.out (by omega)) (allR (rb_le B19.out (by omega)) (allR (rb_le B19.out (by omega)) nilR)))
  have B24 : Hid (Rb (greatQ (a * q) [a * q, b * q, b * q]) 23) := rb_great (rb_le B18.out (by omega)) (allR (rb_le B18.out (by omega)) (allR (rb_le B19.out (by omega)) (allR (rb_le B19.out (by omega)) nilR)))
  refine region_fr (C := [Fq.ivl (a + c).num ((a + c).den : Int) (b + d).num ((b + d).den : Int), Fq.ivl a.num (a.den : Int) b.num (b.den : Int), Fq.ivl c.num (c.den : Int) d.num (d.den : Int), Fq.ivl (a + c).num ((a + c).den : Int) (b + d).num ((b + d).den : Int), Fq.is (.bool true), Fq.is (.bool false), Fq.is (.bool false), Fq.ivl (a - d).num ((a - d).den : Int) (b - c).num ((b - c).den : Int), Fq.ivl a.num (a.den : Int) b.num (b.den : Int), Fq.ivl c.num (c.den : Int) d.num (d.den : Int), Fq.ivl (a - d).num ((a - d).den : Int) (b - c).num ((b - c).den : Int), Fq.is (.bool true), Fq.is (.bool false), Fq.is (.bool false), Fq.is (.bool false), Fq.ivl (leastQ (a * c) [a * d, b * c, b * d]).num ((leastQ (a * c) [a * d, b * c, b * d]).den : Int) (greatQ (a * c) [a * d, b * c, b * d]).num ((greatQ (a * c) [a * d, b * c, b * d]).den : Int), Fq.ivl a.num (a.den : Int) b.num (b.den : Int), Fq.ivl c.num (c.den : Int) d.num (d.den : Int), Fq.ivl (leastQ (a * c) [a * d, b * c, b * d]).num ((leastQ (a * c) [a * d, b * c, b * d]).den : Int) (greatQ (a * c) [a * d, b * c, b * d]).num ((greatQ (a * c) [a * d, b * c, b * d]).den : Int), Fq.is (.bool true), Fq.is (.bool false), Fq.is (.bool false), Fq.is (.bool false), Fq.ivl (leastQ (a * q) [b * q]).num ((leastQ (a * q) [b * q]).den : Int) (greatQ (a * q) [b * q]).num ((greatQ (a * q) [b * q]).den : Int), Fq.ivl a.num (a.den : Int) b.num (b.den : Int), Fq.pair q.num (q.den : Int), Fq.pair q.num (q.den : Int), Fq.ivl q.num (q.den : Int) q.num (q.den : Int), Fq.ivl (leastQ (a * q) [a * q, b * q, b * q]).num ((leastQ (a * q) [a * q, b * q, b * q]).den : Int) (greatQ (a * q) [a * q, b * q, b * q]).num ((greatQ (a * q) [a * q, b * q, b * q]).den : Int), Fq.is (.bool true), Fq.is (.bool false), Fq.is (.bool false)]) (ks := [none, none, none, none, none, none, none, none, none, none, none]) (new := []) E rfl (by kernel_rfl) rfl rfl (fun hp => ⟨?_, ?_, ?_, ?_, ?_, ?_, ?_, ?_, ?_, ?_, ?_, ?_, ?_, ?_, ?_, ?_, ?_, ?_, ?_, ?_, ?_, ?_, ?_, ?_, ?_, ?_, ?_, ?_, ?_, ?_, ?_, ?_, trivial⟩) ?_
  · exact q_loadIvl hp (free_of rfl) trivial (List.mem_iff_getElem?.2 ⟨0, rfl⟩) (.inl rfl) rfl (sq_out rfl rfl (fun _ _ => rfl)) (fun us w hl h => h)
  · exact q_loadIvl hp (free_of rfl) trivial (List.mem_iff_getElem?.2 ⟨6, rfl⟩) (.inl rfl) rfl (sq_out rfl rfl (fun _ _ => rfl)) (fun us w hl h => h)
  · exact q_loadIvl hp (free_of rfl) trivial (List.mem_iff_getElem?.2 ⟨7, rfl⟩) (.inl rfl) rfl (sq_out rfl rfl (fun _ _ => rfl)) (fun us w hl h => h)
  · exact q_call2 (F := (Fq.ivl a.num (a.den : Int) b.num (b.den : Int)).P) (G := (Fq.ivl c.num (c.den : Int) d.num (d.den : Int)).P) hp (free_of rfl) trivial (enq_S_IAdd) (sq_in 1 rfl rfl (by simp) rfl (fun v w h => h)) (sq_in 2 rfl rfl (by simp) rfl (fun v w h => h)) (fun v v' w h h' => exSIAdd h h' (rb_le Ba.out (by omega)) (rb_le Bb.out (by omega)) (rb_le Bc.out (by omega)) (rb_le Bd.out (by omega)))
  · exact q_call2 (F := (Fq.ivl (a + c).num ((a + c).den : Int) (b + d).num ((b + d).den : Int)).P) (G := (Fq.ivl (a + c).num ((a + c).den : Int) (b + d).num ((b + d).den : Int)).P) hp (free_of rfl) trivial (enq_S_SameI) (sq_in 0 rfl rfl (by simp) rfl (fun v w h => h)) (sq_in 3 rfl rfl (by simp) rfl (fun v w h => h)) (fun v v' w h h' => exSSameIB h h' (both_true rfl rfl))
  · exact q_one (F := fun v _ => v = .bool true) hp (free_of rfl) trivial (sq_in 4 rfl rfl (by simp) rfl (fun v w h => h)) (fun ρ w _ h => ⟨.bool false, by simp [execOp, go_sem, h], rfl⟩)
  · exact q_move hp (free_of rfl) trivial (sq_in 5 rfl rfl (by simp) rfl (fun v w h => h))
  · exact q_loadIvl hp (free_of rfl) (gq_some rfl rfl (by simp) rfl (fun v w h => h)) (List.mem_iff_getElem?.2 ⟨1, rfl⟩) (.inl rfl) rfl (sq_out rfl rfl (fun _ _ => rfl)) (fun us w hl h => h)
  · exact q_loadIvl hp (free_of rfl) (gq_some rfl rfl (by simp) rfl (fun v w h => h)) (List.mem_iff_getElem?.2 ⟨6, rfl⟩) (.inl rfl) rfl (sq_out rfl rfl (fun _ _ => rfl)) (fun us w hl h => h)
  · exact q_loadIvl hp (free_of rfl) (gq_some rfl rfl (by simp) rfl (fun v w h => h)) (List.mem_iff_getElem?.2 ⟨7, rfl⟩) (.inl rfl) rfl (sq_out rfl rfl (fun _ _ => rfl)) (fun us w hl h => h)
  · exact q_call2 (F := (Fq.ivl a.num (a.den : Int) b.num (b.den : Int)).P) (G := (Fq.ivl c.num (c.den : Int) d.num (d.den : Int)).P) hp (free_of rfl) (gq_some rfl rfl (by simp) rfl (fun v w h => h)) (enq_S_ISub) (sq_in 8 rfl rfl (by simp) rfl (fun v w h => h)) (sq_in 9 rfl rfl (by simp) rfl (fun v w h => h)) (fun v v' w h h' => exSISub h h' (rb_le Ba.out (by omega)) (rb_le Bb.out (by omega)) (rb_le Bc.out (by omega)) (rb_le Bd.out (by omega)))
  · exact q_call2 (F := (Fq.ivl (a - d).num ((a - d).den : Int) (b - c).num ((b - c).den : Int)).P) (G := (Fq.ivl (a - d).num ((a - d).den : Int) (b - c).num ((b - c).den : Int)).P) hp (free_of rfl) (gq_some rfl rfl (by simp) rfl (fun v w h => h)) (enq_S_SameI) (sq_in 7 rfl rfl (by simp) rfl (fun v w h => h)) (sq_in 10 rfl rfl (by simp) rfl (fun v w h => h)) (fun v v' w h h' => exSSameIB h h' (both_true rfl rfl))
  · exact q_one (F := fun v _ => v = .bool true) hp (free_of rfl) (gq_some rfl rfl (by simp) rfl (fun v w h => h)) (sq_in 11 rfl rfl (by simp) rfl (fun v w h => h)) (fun ρ w _ h => ⟨.bool false, by simp [execOp, go_sem, h], rfl⟩)
  · exact q_two (F := fun v _ => v = .bool false) (G := fun v _ => v = .bool false) hp (free_of rfl) trivial (sq_in 6 rfl rfl (by simp) rfl (fun v w h => h)) (sq_in 12 rfl rfl (by simp) rfl (fun v w h => h)) (fun ρ w hc h h' => ⟨_, by simp [execOp, go_sem, h, h'], rfl⟩)
  · exact q_move hp (free_of rfl) trivial (sq_in 13 rfl rfl (by simp) rfl (fun v w h => h))
  · exact q_loadIvl hp (free_of rfl) (gq_some rfl rfl (by simp) rfl (fun v w h => h)) (List.mem_iff_getElem?.2 ⟨2, rfl⟩) (.inl rfl) rfl (sq_out rfl rfl (fun _ _ => rfl)) (fun us w hl h => h)
  · exact q_loadIvl hp (free_of rfl) (gq_some rfl rfl (by simp) rfl (fun v w h => h)) (List.mem_iff_getElem?.2 ⟨6, rfl⟩) (.inl rfl) rfl (sq_out rfl rfl (fun _ _ => rfl)) (fun us w hl h => h)
  · exact q_loadIvl hp (free_of rfl) (gq_some rfl rfl (by simp) rfl (fun v w h => h)) (List.mem_iff_getElem?.2 ⟨7, rfl⟩) (.inl rfl) rfl (sq_out rfl rfl (fun _ _ => rfl)) (fun us w hl h => h)
  · exact q_call2 (F := (Fq.ivl a.num (a.den : Int) b.num (b.den : Int)).P) (G := (Fq.ivl c.num (c.den : Int) d.num (d.den : Int)).P) hp (free_of rfl) (gq_some rfl rfl (by simp) rfl (fun v w h => h)) (enq_S_IMul) (sq_in 16 rfl rfl (by simp) rfl (fun v w h => h)) (sq_in 17 rfl rfl (by simp) rfl (fun v w h => h)) (fun v v' w h h' => exSIMul h h' (rb_le Ba.out (by omega)) (rb_le Bb.out (by omega)) (rb_le Bc.out (by omega)) (rb_le Bd.out (by omega)))
  · exact q_call2 (F := (Fq.ivl (leastQ (a * c) [a * d, b * c, b * d]).num ((leastQ (a * c) [a * d, b * c, b * d]).den : Int) (greatQ (a * c) [a * d, b * c, b * d]).num ((greatQ (a * c) [a * d, b * c, b * d]).den : Int)).P) (G := (Fq.ivl (leastQ (a * c) [a * d, b * c, b * d]).num ((leastQ (a * c) [a * d, b * c, b * d]).den : Int) (greatQ (a * c) [a * d, b * c, b * d]).num ((greatQ (a * c) [a * d, b * c, b * d]).den : Int)).P) hp (free_of rfl) (gq_some rfl rfl (by simp) rfl (fun v w h => h)) (enq_S_SameI) (sq_in 15 rfl rfl (by simp) rfl (fun v w h => h)) (sq_in 18 rfl rfl (by simp) rfl (fun v w h => h)) (fun v v' w h h' => exSSameIB h h' (both_true rfl rfl))
  · exact q_one (F := fun v _ => v = .bool true) hp (free_of rfl) (gq_some rfl rfl (by simp) rfl (fun v w h => h)) (sq_in 19 rfl rfl (by simp) rfl (fun v w h => h)) (fun ρ w _ h => ⟨.bool false, by simp [execOp, go_sem, h], rfl⟩)
  · exact q_two (F := fun v _ => v = .bool false) (G := fun v _ => v = .bool false) hp (free_of rfl) trivial (sq_in 14 rfl rfl (by simp) rfl (fun v w h => h)) (sq_in 20 rfl rfl (by simp) rfl (fun v w h => h)) (fun ρ w hc h h' => ⟨_, by simp [execOp, go_sem, h, h'], rfl⟩)
  · exact q_move hp (free_of rfl) trivial (sq_in 21 rfl rfl (by simp) rfl (fun v w h => h))
  · exact q_loadIvl hp (free_of rfl) (gq_some rfl rfl (by simp) rfl (fun v w h => h)) (List.mem_iff_getElem?.2 ⟨3, rfl⟩) (.inl rfl) rfl (sq_out rfl rfl (fun _ _ => rfl)) (fun us w hl h => h)
  · exact q_loadIvl hp (free_of rfl) (gq_some rfl rfl (by simp) rfl (fun v w h => h)) (List.mem_iff_getElem?.2 ⟨6, rfl⟩) (.inl rfl) rfl (sq_out rfl rfl (fun _ _ => rfl)) (fun us w hl h => h)
  · exact q_loadRat hp (free_of rfl) (gq_some rfl rfl (by simp) rfl (fun v w h => h)) (List.mem_iff_getElem?.2 ⟨5, rfl⟩) (.inl rfl) rfl (sq_out rfl rfl (fun _ _ => rfl)) (fun us w hl h => h)
  · exact q_loadRat hp (free_of rfl) (gq_some rfl rfl (by simp) rfl (fun v w h => h)) (List.mem_iff_getElem?.2 ⟨5, rfl⟩) (.inl rfl) rfl (sq_out rfl rfl (fun _ _ => rfl)) (fun us w hl h => h)
  · exact q_buildIvl hp (free_of rfl) (gq_some rfl rfl (by simp) rfl (fun v w h => h)) (sq_in 25 rfl rfl (by simp) rfl (fun v w h => h)) (sq_in 26 rfl rfl (by simp) rfl (fun v w h => h)) (fun v w h => h)
  · exact q_call2 (F := (Fq.ivl a.num (a.den : Int) b.num (b.den : Int)).P) (G := (Fq.ivl q.num (q.den : Int) q.num (q.den : Int)).P) hp (free_of rfl) (gq_some rfl rfl (by simp) rfl (fun v w h => h)) (enq_S_IMul) (sq_in 24 rfl rfl (by simp) rfl (fun v w h => h)) (sq_in 27 rfl rfl (by simp) rfl (fun v w h => h)) (fun v v' w h h' => exSIMul h h' (rb_le Ba.out (by omega)) (rb_le Bb.out (by omega)) (rb_le Bq.out (by omega)) (rb_le Bq.out (by omega)))
  · exact q_call2 (F := (Fq.ivl (leastQ (a * q) [b * q]).num ((leastQ (a * q) [b * q]).den : Int) (greatQ (a * q) [b * q]).num ((greatQ (a * q) [b * q]).den : Int)).P) (G := (Fq.ivl (leastQ (a * q) [a * q, b * q, b * q]).num ((leastQ (a * q) [a * q, b * q, b * q]).den : Int) (greatQ (a * q) [a * q, b * q, b * q]).num ((greatQ (a * q) [a * q, b * q, b * q]).den : Int)).P) hp (free_of rfl) (gq_some rfl rfl (by simp) rfl (fun v w h => h)) (enq_S_SameI) (sq_in 23 rfl rfl (by simp) rfl (fun v w h => h)) (sq_in 28 rfl rfl (by simp) rfl (fun v w h => h)) (fun v v' w h h' => exSSameIB h h' (both_true (least_dup _ _) (great_dup _ _)))
  · exact q_one (F := fun v _ => v = .bool true) hp (free_of rfl) (gq_some rfl rfl (by simp) rfl (fun v w h => h)) (sq_in 29 rfl rfl (by simp) rfl (fun v w h => h)) (fun ρ w _ h => ⟨.bool false, by simp [execOp, go_sem, h], rfl⟩)
  · exact q_two (F := fun v _ => v = .bool false) (G := fun v _ => v = .bool false) hp (free_of rfl) trivial (sq_in 22 rfl rfl (by simp) rfl (fun v w h => h)) (sq_in 30 rfl rfl (by simp) rfl (fun v w h => h)) (fun ρ w hc h h' => ⟨_, by simp [execOp, go_sem, h, h'], rfl⟩)
  intro L vs w25 nb hL hC hn E25
  have e4 : vs 4 = .bool true := hC 4 (by simp)
  have e5 : vs 5 = .bool false := hC 5 (by simp)
  have e6 : vs 6 = .bool false := hC 6 (by simp)
  have e11 : vs 11 = .bool true := hC 11 (by simp)
  have e12 : vs 12 = .bool false := hC 12 (by simp)
  have e13 : vs 13 = .bool false := hC 13 (by simp)
  have e14 : vs 14 = .bool false := hC 14 (by simp)
  have e19 : vs 19 = .bool true := hC 19 (by simp)
  have e20 : vs 20 = .bool false := hC 20 (by simp)
  have e21 : vs 21 = .bool false := hC 21 (by simp)
  have e22 : vs 22 = .bool false := hC 22 (by simp)
  have e29 : vs 29 = .bool true := hC 29 (by simp)
  have e30 : vs 30 = .bool false := hC 30 (by simp)
  have e31 : vs 31 = .bool false := hC 31 (by simp)
  have E : Fr w [(b22_12, 8, Fq.ivl (a + c).num ((a + c).den : Int) (b + d).num ((b + d).den : Int)), (b22_13, 8, Fq.ivl (a - d).num ((a - d).den : Int) (b - c).num ((b - c).den : Int)), (b22_14, 8, Fq.ivl (leastQ (a * c) [a * d, b * c, b * d]).num ((leastQ (a * c) [a * d, b * c, b * d]).den : Int) (greatQ (a * c) [a * d, b * c, b * d]).num ((greatQ (a * c) [a * d, b * c, b * d]).den : Int)), (b22_15, 8, Fq.ivl (leastQ (a * q) [b * q]).num ((leastQ (a * q) [b * q]).den : Int) (greatQ (a * q) [b * q]).num ((greatQ (a * q) [b * q]).den : Int)), (b7_8, 4, Fq.pair p.num (p.den : Int)), (b7_9, 4, Fq.pair q.num (q.den : Int)), (b6_14, 8, Fq.ivl a.num (a.den : Int) b.num (b.den : Int)), (b6_15, 8, Fq.ivl c.num (c.den : Int) d.num (d.den : Int)), (b3, 2, Fq.is (.agg #[.int .u8 s, .int .u8 t])), (b2, 8, Fq.raws2 n3 a3 k3 c3 xs3 m3 r3 l3 q3 ys3 n4 a4 k4 c4 xs4 m4 r4 l4 q4 ys4), (b1, 8, Fq.raws2 n1 a1 k1 c1 xs1 m1 r1 l1 q1 ys1 n2 a2 k2 c2 xs2 m2 r2 l2 q2 ys2)] w25 := E25
  rw [lay_all hL]
  simp only [putAll, dstOf, List.length_cons, List.length_nil, Nat.zero_add, Nat.reduceAdd, List.getElem?_toArray, List.getElem?_cons_zero, List.getElem?_cons_succ, Option.bind_some, Act.put, List.setIfInBounds_toArray, List.set_cons_succ, List.set_cons_zero]
  rw [e4, e5, e6, e11, e12, e13, e14, e19, e20, e21, e22, e29, e30, e31]
  generalize vs 0 = u25_0
  generalize vs 1 = u25_1
  generalize vs 2 = u25_2
  generalize vs 3 = u25_3
  generalize vs 7 = u25_7
  generalize vs 8 = u25_8
  generalize vs 9 = u25_9
  generalize vs 10 = u25_10
  generalize vs 15 = u25_15
  generalize vs 16 = u25_16
  generalize vs 17 = u25_17
  generalize vs 18 = u25_18
  generalize vs 23 = u25_23
  generalize vs 24 = u25_24
  generalize vs 25 = u25_25
  generalize vs 26 = u25_26
  generalize vs 27 = u25_27
  generalize vs 28 = u25_28
  clear e4 e5 e6 e11 e12 e13 e14 e19 e20 e21 e22 e29 e30 e31 hC hn E25 hL vs L nb
  go_upto_region 9 with (fail)
  have B26 : Hid (Rb (p + q) 41) := rb_le (rb_add Bp.out Bq.out) (by omega)
  have B27 : Hid (Rb (p - q) 41) := rb_le (rb_sub Bp.out Bq.out) (by omega)
  have B28 : Hid (Rb (p * q) 40) := rb_le (rb_mul Bp.out Bq.out) (by omega)
  refine region_fr (C := [Fq.ivl (a + c).num ((a + c).den : Int) (b + d).num ((b + d).den : Int), Fq.pair p.num (p.den : Int), Fq.pair q.num (q.den : Int), Fq.pair (p + q).num ((p + q).den : Int), Fq.is (.bool true), Fq.is (.bool false), Fq.is (.bool false), Fq.ivl (a - d).num ((a - d).den : Int) (b - c).num ((b - c).den : Int), Fq.pair p.num (p.den : Int), Fq.pair q.num (q.den : Int), Fq.pair (p - q).num ((p - q).den : Int), Fq.is (.bool true), Fq.is (.bool false), Fq.is (.bool false), Fq.is (.bool false), Fq.ivl (leastQ (a * c) [a * d, b * c, b * d]).num ((leastQ (a * c) [a * d, b * c, b * d]).den : Int) (greatQ (a * c) [a * d, b * c, b * d]).num ((greatQ (a * c) [a * d, b * c, b * d]).den : Int), Fq.pair p.num (p.den : Int), Fq.pair q.num (q.den : Int), Fq.pair (p * q).num ((p * q).den : Int), Fq.is (.bool true), Fq.is (.bool false), Fq.is (.bool false), Fq.is (.bool false), Fq.ivl (leastQ (a * q) [b * q]).num ((leastQ (a * q) [b * q]).den : Int) (greatQ (a * q) [b * q]).num ((greatQ (a * q) [b * q]).den : Int), Fq.pair p.num (p.den : Int), Fq.pair q.num (q.den : Int), Fq.pair (p * q).num ((p * q).den : Int), Fq.is (.bool true), Fq.is (.bool false), Fq.is (.bool false)]) (ks := [none, none, none, none, none, none, none, none, none, none, none]) (new := []) E rfl (by kernel_rfl) rfl rfl (fun hp => ⟨?_, ?_, ?_, ?_, ?_, ?_, ?_, ?_, ?_, ?_, ?_, ?_, ?_, ?_, ?_, ?_, ?_, ?_, ?_, ?_, ?_, ?_, ?_, ?_, ?_, ?_, ?_, ?_, ?_, ?_, trivial⟩) ?_
  · exact q_loadIvl hp (free_of rfl) trivial (List.mem_iff_getElem?.2 ⟨0, rfl⟩) (.inl rfl) rfl (sq_out rfl rfl (fun _ _ => rfl)) (fun us w hl h => h)
  · exact q_loadRat hp (free_of rfl) trivial (List.mem_iff_getElem?.2 ⟨4, rfl⟩) (.inl rfl) rfl (sq_out rfl rfl (fun _ _ => rfl)) (fun us w hl h => h)
  · exact q_loadRat hp (free_of rfl) trivial (List.mem_iff_getElem?.2 ⟨5, rfl⟩) (.inl rfl) rfl (sq_out rfl rfl (fun _ _ => rfl)) (fun us w hl h => h)
  · exact q_call2 (F := (Fq.pair p.num (p.den : Int)).P) (G := (Fq.pair q.num (q.den : Int)).P) hp (free_of rfl) trivial (enq_S_Add) (sq_in 1 rfl rfl (by simp) rfl (fun v w h => h)) (sq_in 2 rfl rfl (by simp) rfl (fun v w h => h)) (fun v v' w h h' => exSAddQ h h' (rb_le Bp.out (by omega)) (rb_le Bq.out (by omega)))
  · exact q_call2 (F := (Fq.ivl (a + c).num ((a + c).den : Int) (b + d).num ((b + d).den : Int)).P) (G := (Fq.pair (p + q).num ((p + q).den : Int)).P) hp (free_of rfl) trivial (enq_S_Has) (sq_in 0 rfl rfl (by simp) rfl (fun v w h => h)) (sq_in 3 rfl rfl (by simp) rfl (fun v w h => h)) (fun v v' w h h' => exSHasB h h' (rb_le B8.out (by omega)) (rb_le B9.out (by omega)) (rb_le B26.out (by omega)) (both_true (add_in IP.out.1 IP.out.2 IQ.out.1 IQ.out.2).1 (add_in IP.out.1 IP.out.2 IQ.out.1 IQ.out.2).2))
  · exact q_one (F := fun v _ => v = .bool true) hp (free_of rfl) trivial (sq_in 4 rfl rfl (by simp) rfl (fun v w h => h)) (fun ρ w _ h => ⟨.bool false, by simp [execOp, go_sem, h], rfl⟩)
  · exact q_move hp (free_of rfl) trivial (sq_in 5 rfl rfl (by simp) rfl (fun v w h => h))
  · exact q_loadIvl hp (free_of rfl) (gq_some rfl rfl (by simp) rfl (fun v w h => h)) (List.mem_iff_getElem?.2 ⟨1, rfl⟩) (.inl rfl) rfl (sq_out rfl rfl (fun _ _ => rfl)) (fun us w hl h => h)
  · exact q_loadRat hp (free_of rfl) (gq_some rfl rfl (by simp) rfl (fun v w h => h)) (List.mem_iff_getElem?.2 ⟨4, rfl⟩) (.inl rfl) rfl (sq_out rfl rfl (fun _ _ => rfl)) (fun us w hl h => h)
  · exact q_loadRat hp (free_of rfl) (gq_some rfl rfl (by simp) rfl (fun v w h => h)) (List.mem_iff_getElem?.2 ⟨5, rfl⟩) (.inl rfl) rfl (sq_out rfl rfl (fun _ _ => rfl)) (fun us w hl h => h)
  · exact q_call2 (F := (Fq.pair p.num (p.den : Int)).P) (G := (Fq.pair q.num (q.den : Int)).P) hp (free_of rfl) (gq_some rfl rfl (by simp) rfl (fun v w h => h)) (enq_S_Sub) (sq_in 8 rfl rfl (by simp) rfl (fun v w h => h)) (sq_in 9 rfl rfl (by simp) rfl (fun v w h => h)) (fun v v' w h h' => exSSubQ h h' (rb_le Bp.out (by omega)) (rb_le Bq.out (by omega)))
  · exact q_call2 (F := (Fq.ivl (a - d).num ((a - d).den : Int) (b - c).num ((b - c).den : Int)).P) (G := (Fq.pair (p - q).num ((p - q).den : Int)).P) hp (free_of rfl) (gq_some rfl rfl (by simp) rfl (fun v w h => h)) (enq_S_Has) (sq_in 7 rfl rfl (by simp) rfl (fun v w h => h)) (sq_in 10 rfl rfl (by simp) rfl (fun v w h => h)) (fun v v' w h h' => exSHasB h h' (rb_le B10.out (by omega)) (rb_le B11.out (by omega)) (rb_le B27.out (by omega)) (both_true (sub_in IP.out.1 IP.out.2 IQ.out.1 IQ.out.2).1 (sub_in IP.out.1 IP.out.2 IQ.out.1 IQ.out.2).2))
  · exact q_one (F := fun v _ => v = .bool true) hp (free_of rfl) (gq_some rfl rfl (by simp) rfl (fun v w h => h)) (sq_in 11 rfl rfl (by simp) rfl (fun v w h => h)) (fun ρ w _ h => ⟨.bool false, by simp [execOp, go_sem, h], rfl⟩)
  · exact q_two (F := fun v _ => v = .bool false) (G := fun v _ => v = .bool false) hp (free_of rfl) trivial (sq_in 6 rfl rfl (by simp) rfl (fun v w h => h)) (sq_in 12 rfl rfl (by simp) rfl (fun v w h => h)) (fun ρ w hc h h' => ⟨_, by simp [execOp, go_sem, h, h'], rfl⟩)
  · exact q_move hp (free_of rfl) trivial (sq_in 13 rfl rfl (by simp) rfl (fun v w h => h))
  · exact q_loadIvl hp (free_of rfl) (gq_some rfl rfl (by simp) rfl (fun v w h => h)) (List.mem_iff_getElem?.2 ⟨2, rfl⟩) (.inl rfl) rfl (sq_out rfl rfl (fun _ _ => rfl)) (fun us w hl h => h)
  · exact q_loadRat hp (free_of rfl) (gq_some rfl rfl (by simp) rfl (fun v w h => h)) (List.mem_iff_getElem?.2 ⟨4, rfl⟩) (.inl rfl) rfl (sq_out rfl rfl (fun _ _ => rfl)) (fun us w hl h => h)
  · exact q_loadRat hp (free_of rfl) (gq_some rfl rfl (by simp) rfl (fun v w h => h)) (List.mem_iff_getElem?.2 ⟨5, rfl⟩) (.inl rfl) rfl (sq_out rfl rfl (fun _ _ => rfl)) (fun us w hl h => h)
  · exact q_call2 (F := (Fq.pair p.num (p.den : Int)).P) (G := (Fq.pair q.num (q.den : Int)).P) hp (free_of rfl) (gq_some rfl rfl (by simp) rfl (fun v w h => h)) (enq_S_Mul) (sq_in 16 rfl rfl (by simp) rfl (fun v w h => h)) (sq_in 17 rfl rfl (by simp) rfl (fun v w h => h)) (fun v v' w h h' => exSMulQ h h' (rb_le Bp.out (by omega)) (rb_le Bq.out (by omega)))
  · exact q_call2 (F := (Fq.ivl (leastQ (a * c) [a * d, b * c, b * d]).num ((leastQ (a * c) [a * d, b * c, b * d]).den : Int) (greatQ (a * c) [a * d, b * c, b * d]).num ((greatQ (a * c) [a * d, b * c, b * d]).den : Int)).P) (G := (Fq.pair (p * q).num ((p * q).den : Int)).P) hp (free_of rfl) (gq_some rfl rfl (by simp) rfl (fun v w h => h)) (enq_S_Has) (sq_in 15 rfl rfl (by simp) rfl (fun v w h => h)) (sq_in 18 rfl rfl (by simp) rfl (fun v w h => h)) (fun v v' w h h' => exSHasB h h' (rb_le B16.out (by omega)) (rb_le B17.out (by omega)) (rb_le B28.out (by omega)) (both_true (mul_in IP.out.1 IP.out.2 IQ.out.1 IQ.out.2).1 (mul_in IP.out.1 IP.out.2 IQ.out.1 IQ.out.2).2))
  · exact q_one (F := fun v _ => v = .bool true) hp (free_of rfl) (gq_some rfl rfl (by simp) rfl (fun v w h => h)) (sq_in 19 rfl rfl (by simp) rfl (fun v w h => h)) (fun ρ w _ h => ⟨.bool false, by simp [execOp, go_sem, h], rfl⟩)
  · exact q_two (F := fun v _ => v = .bool false) (G := fun v _ => v = .bool false) hp (free_of rfl) trivial (sq_in 14 rfl rfl (by simp) rfl (fun v w h => h)) (sq_in 20 rfl rfl (by simp) rfl (fun v w h => h)) (fun ρ w hc h h' => ⟨_, by simp [execOp, go_sem, h, h'], rfl⟩)
  · exact q_move hp (free_of rfl) trivial (sq_in 21 rfl rfl (by simp) rfl (fun v w h => h))
  · exact q_loadIvl hp (free_of rfl) (gq_some rfl rfl (by simp) rfl (fun v w h => h)) (List.mem_iff_getElem?.2 ⟨3, rfl⟩) (.inl rfl) rfl (sq_out rfl rfl (fun _ _ => rfl)) (fun us w hl h => h)
  · exact q_loadRat hp (free_of rfl) (gq_some rfl rfl (by simp) rfl (fun v w h => h)) (List.mem_iff_getElem?.2 ⟨4, rfl⟩) (.inl rfl) rfl (sq_out rfl rfl (fun _ _ => rfl)) (fun us w hl h => h)
  · exact q_loadRat hp (free_of rfl) (gq_some rfl rfl (by simp) rfl (fun v w h => h)) (List.mem_iff_getElem?.2 ⟨5, rfl⟩) (.inl rfl) rfl (sq_out rfl rfl (fun _ _ => rfl)) (fun us w hl h => h)
  · exact q_call2 (F := (Fq.pair p.num (p.den : Int)).P) (G := (Fq.pair q.num (q.den : Int)).P) hp (free_of rfl) (gq_some rfl rfl (by simp) rfl (fun v w h => h)) (enq_S_Mul) (sq_in 24 rfl rfl (by simp) rfl (fun v w h => h)) (sq_in 25 rfl rfl (by simp) rfl (fun v w h => h)) (fun v v' w h h' => exSMulQ h h' (rb_le Bp.out (by omega)) (rb_le Bq.out (by omega)))
  · exact q_call2 (F := (Fq.ivl (leastQ (a * q) [b * q]).num ((leastQ (a * q) [b * q]).den : Int) (greatQ (a * q) [b * q]).num ((greatQ (a * q) [b * q]).den : Int)).P) (G := (Fq.pair (p * q).num ((p * q).den : Int)).P) hp (free_of rfl) (gq_some rfl rfl (by simp) rfl (fun v w h => h)) (enq_S_Has) (sq_in 23 rfl rfl (by simp) rfl (fun v w h => h)) (sq_in 26 rfl rfl (by simp) rfl (fun v w h => h)) (fun v v' w h h' => exSHasB h h' (rb_le B20.out (by omega)) (rb_le B21.out (by omega)) (rb_le B28.out (by omega)) (both_true (scale_in IP.out.1 IP.out.2).1 (scale_in IP.out.1 IP.out.2).2))
  · exact q_one (F := fun v _ => v = .bool true) hp (free_of rfl) (gq_some rfl rfl (by simp) rfl (fun v w h => h)) (sq_in 27 rfl rfl (by simp) rfl (fun v w h => h)) (fun ρ w _ h => ⟨.bool false, by simp [execOp, go_sem, h], rfl⟩)
  · exact q_two (F := fun v _ => v = .bool false) (G := fun v _ => v = .bool false) hp (free_of rfl) trivial (sq_in 22 rfl rfl (by simp) rfl (fun v w h => h)) (sq_in 28 rfl rfl (by simp) rfl (fun v w h => h)) (fun ρ w hc h h' => ⟨_, by simp [execOp, go_sem, h, h'], rfl⟩)
  intro L vs w29 nb hL hC hn E29
  have e4 : vs 4 = .bool true := hC 4 (by simp)
  have e5 : vs 5 = .bool false := hC 5 (by simp)
  have e6 : vs 6 = .bool false := hC 6 (by simp)
  have e11 : vs 11 = .bool true := hC 11 (by simp)
  have e12 : vs 12 = .bool false := hC 12 (by simp)
  have e13 : vs 13 = .bool false := hC 13 (by simp)
  have e14 : vs 14 = .bool false := hC 14 (by simp)
  have e19 : vs 19 = .bool true := hC 19 (by simp)
  have e20 : vs 20 = .bool false := hC 20 (by simp)
  have e21 : vs 21 = .bool false := hC 21 (by simp)
  have e22 : vs 22 = .bool false := hC 22 (by simp)
  have e27 : vs 27 = .bool true := hC 27 (by simp)
  have e28 : vs 28 = .bool false := hC 28 (by simp)
  have e29 : vs 29 = .bool false := hC 29 (by simp)
  have E : Fr w [(b22_12, 8, Fq.ivl (a + c).num ((a + c).den : Int) (b + d).num ((b + d).den : Int)), (b22_13, 8, Fq.ivl (a - d).num ((a - d).den : Int) (b - c).num ((b - c).den : Int)), (b22_14, 8, Fq.ivl (leastQ (a * c) [a * d, b * c, b * d]).num ((leastQ (a * c) [a * d, b * c, b * d]).den : Int) (greatQ (a * c) [a * d, b * c, b * d]).num ((greatQ (a * c) [a * d, b * c, b * d]).den : Int)), (b22_15, 8, Fq.ivl (leastQ (a * q) [b * q]).num ((leastQ (a * q) [b * q]).den : Int) (greatQ (a * q) [b * q]).num ((greatQ (a * q) [b * q]).den : Int)), (b7_8, 4, Fq.pair p.num (p.den : Int)), (b7_9, 4, Fq.pair q.num (q.den : Int)), (b6_14, 8, Fq.ivl a.num (a.den : Int) b.num (b.den : Int)), (b6_15, 8, Fq.ivl c.num (c.den : Int) d.num (d.den : Int)), (b3, 2, Fq.is (.agg #[.int .u8 s, .int .u8 t])), (b2, 8, Fq.raws2 n3 a3 k3 c3 xs3 m3 r3 l3 q3 ys3 n4 a4 k4 c4 xs4 m4 r4 l4 q4 ys4), (b1, 8, Fq.raws2 n1 a1 k1 c1 xs1 m1 r1 l1 q1 ys1 n2 a2 k2 c2 xs2 m2 r2 l2 q2 ys2)] w29 := E29
  rw [lay_all hL]
  simp only [putAll, dstOf, List.length_cons, List.length_nil, Nat.zero_add, Nat.reduceAdd, List.getElem?_toArray, List.getElem?_cons_zero, List.getElem?_cons_succ, Option.bind_some, Act.put, List.setIfInBounds_toArray, List.set_cons_succ, List.set_cons_zero]
  rw [e4, e5, e6, e11, e12, e13, e14, e19, e20, e21, e22, e27, e28, e29]
  generalize vs 0 = u29_0
  generalize vs 1 = u29_1
  generalize vs 2 = u29_2
  generalize vs 3 = u29_3
  generalize vs 7 = u29_7
  generalize vs 8 = u29_8
  generalize vs 9 = u29_9
  generalize vs 10 = u29_10
  generalize vs 15 = u29_15
  generalize vs 16 = u29_16
  generalize vs 17 = u29_17
  generalize vs 18 = u29_18
  generalize vs 23 = u29_23
  generalize vs 24 = u29_24
  generalize vs 25 = u29_25
  generalize vs 26 = u29_26
  clear e4 e5 e6 e11 e12 e13 e14 e19 e20 e21 e22 e27 e28 e29 hC hn E29 hL vs L nb
  go_upto_region 11 with (fail)
  refine region_fr (C := [Fq.pair p.num (p.den : Int), Fq.ivl p.num (p.den : Int) p.num (p.den : Int), Fq.pair p.num (p.den : Int), Fq.pair p.num (p.den : Int), Fq.ivl p.num (p.den : Int) p.num (p.den : Int), Fq.is (.bool true), Fq.is (.bool true), Fq.ivl a.num (a.den : Int) b.num (b.den : Int), Fq.pair p.num (p.den : Int), Fq.is (.bool true), Fq.is (.bool true), Fq.is (.bool true), Fq.is (.bool true), Fq.is (.bool true), Fq.is (.bool true)]) (ks := [none, none, none, none, none, none, none, none, none, none, none]) (new := []) E rfl (by kernel_rfl) rfl rfl (fun hp => ⟨?_, ?_, ?_, ?_, ?_, ?_, ?_, ?_, ?_, ?_, ?_, ?_, ?_, ?_, ?_, trivial⟩) ?_
  · exact q_loadRat hp (free_of rfl) trivial (List.mem_iff_getElem?.2 ⟨4, rfl⟩) (.inl rfl) rfl (sq_out rfl rfl (fun _ _ => rfl)) (fun us w hl h => h)
  · exact q_call1 (F := (Fq.pair p.num (p.den : Int)).P) hp (free_of rfl) trivial (enq_Q_Exactly) (sq_in 0 rfl rfl (by simp) rfl (fun v w h => h)) (fun v w h => exQExactly h (rb_le Bp.out (by omega)))
  · exact q_loadRat hp (free_of rfl) trivial (List.mem_iff_getElem?.2 ⟨4, rfl⟩) (.inl rfl) rfl (sq_out rfl rfl (fun _ _ => rfl)) (fun us w hl h => h)
  · exact q_loadRat hp (free_of rfl) trivial (List.mem_iff_getElem?.2 ⟨4, rfl⟩) (.inl rfl) rfl (sq_out rfl rfl (fun _ _ => rfl)) (fun us w hl h => h)
  · exact q_buildIvl hp (free_of rfl) trivial (sq_in 2 rfl rfl (by simp) rfl (fun v w h => h)) (sq_in 3 rfl rfl (by simp) rfl (fun v w h => h)) (fun v w h => h)
  · exact q_call2 (F := (Fq.ivl p.num (p.den : Int) p.num (p.den : Int)).P) (G := (Fq.ivl p.num (p.den : Int) p.num (p.den : Int)).P) hp (free_of rfl) trivial (enq_S_SameI) (sq_in 1 rfl rfl (by simp) rfl (fun v w h => h)) (sq_in 4 rfl rfl (by simp) rfl (fun v w h => h)) (fun v v' w h h' => exSSameIB h h' (both_true rfl rfl))
  · exact q_move hp (free_of rfl) trivial (sq_in 5 rfl rfl (by simp) rfl (fun v w h => h))
  · exact q_loadIvl hp (free_of rfl) (gq_some rfl rfl (by simp) rfl (fun v w h => h)) (List.mem_iff_getElem?.2 ⟨6, rfl⟩) (.inl rfl) rfl (sq_out rfl rfl (fun _ _ => rfl)) (fun us w hl h => h)
  · exact q_loadRat hp (free_of rfl) (gq_some rfl rfl (by simp) rfl (fun v w h => h)) (List.mem_iff_getElem?.2 ⟨4, rfl⟩) (.inl rfl) rfl (sq_out rfl rfl (fun _ _ => rfl)) (fun us w hl h => h)
  · exact q_call2 (F := (Fq.ivl a.num (a.den : Int) b.num (b.den : Int)).P) (G := (Fq.pair p.num (p.den : Int)).P) hp (free_of rfl) (gq_some rfl rfl (by simp) rfl (fun v w h => h)) (enq_Q_Has) (sq_in 7 rfl rfl (by simp) rfl (fun v w h => h)) (sq_in 8 rfl rfl (by simp) rfl (fun v w h => h)) (fun v v' w h h' => exQHasB h h' (rb_le Ba.out (by omega)) (rb_le Bb.out (by omega)) (rb_le Bp.out (by omega)) (both_true IP.out.1 IP.out.2))
  · exact q_two (F := fun v _ => v = .bool true) (G := fun v _ => v = .bool true) hp (free_of rfl) trivial (sq_in 6 rfl rfl (by simp) rfl (fun v w h => h)) (sq_in 9 rfl rfl (by simp) rfl (fun v w h => h)) (fun ρ w hc h h' => ⟨_, by simp [execOp, go_sem, h, h'], rfl⟩)
  · exact q_move hp (free_of rfl) trivial (sq_in 10 rfl rfl (by simp) rfl (fun v w h => h))
  · exact q_move hp (free_of rfl) (gq_some rfl rfl (by simp) rfl (fun v w h => h)) (sq_out rfl rfl (fun _ _ => rfl))
  · exact q_two (F := fun v _ => v = .bool true) (G := fun v _ => v = .bool true) hp (free_of rfl) trivial (sq_in 11 rfl rfl (by simp) rfl (fun v w h => h)) (sq_in 12 rfl rfl (by simp) rfl (fun v w h => h)) (fun ρ w hc h h' => ⟨_, by simp [execOp, go_sem, h, h'], rfl⟩)
  · exact q_assign hp (free_of rfl) trivial (sq_in 13 rfl rfl (by simp) rfl (fun v w h => h))
  intro L vs w30 nb hL hC hn E30
  have e5 : vs 5 = .bool true := hC 5 (by simp)
  have e6 : vs 6 = .bool true := hC 6 (by simp)
  have e9 : vs 9 = .bool true := hC 9 (by simp)
  have e10 : vs 10 = .bool true := hC 10 (by simp)
  have e11 : vs 11 = .bool true := hC 11 (by simp)
  have e12 : vs 12 = .bool true := hC 12 (by simp)
  have e13 : vs 13 = .bool true := hC 13 (by simp)
  have e14 : vs 14 = .bool true := hC 14 (by simp)
  have E : Fr w [(b22_12, 8, Fq.ivl (a + c).num ((a + c).den : Int) (b + d).num ((b + d).den : Int)), (b22_13, 8, Fq.ivl (a - d).num ((a - d).den : Int) (b - c).num ((b - c).den : Int)), (b22_14, 8, Fq.ivl (leastQ (a * c) [a * d, b * c, b * d]).num ((leastQ (a * c) [a * d, b * c, b * d]).den : Int) (greatQ (a * c) [a * d, b * c, b * d]).num ((greatQ (a * c) [a * d, b * c, b * d]).den : Int)), (b22_15, 8, Fq.ivl (leastQ (a * q) [b * q]).num ((leastQ (a * q) [b * q]).den : Int) (greatQ (a * q) [b * q]).num ((greatQ (a * q) [b * q]).den : Int)), (b7_8, 4, Fq.pair p.num (p.den : Int)), (b7_9, 4, Fq.pair q.num (q.den : Int)), (b6_14, 8, Fq.ivl a.num (a.den : Int) b.num (b.den : Int)), (b6_15, 8, Fq.ivl c.num (c.den : Int) d.num (d.den : Int)), (b3, 2, Fq.is (.agg #[.int .u8 s, .int .u8 t])), (b2, 8, Fq.raws2 n3 a3 k3 c3 xs3 m3 r3 l3 q3 ys3 n4 a4 k4 c4 xs4 m4 r4 l4 q4 ys4), (b1, 8, Fq.raws2 n1 a1 k1 c1 xs1 m1 r1 l1 q1 ys1 n2 a2 k2 c2 xs2 m2 r2 l2 q2 ys2)] w30 := E30
  rw [lay_all hL]
  simp only [putAll, dstOf, List.length_cons, List.length_nil, Nat.zero_add, Nat.reduceAdd, List.getElem?_toArray, List.getElem?_cons_zero, List.getElem?_cons_succ, Option.bind_some, Act.put, List.setIfInBounds_toArray, List.set_cons_succ, List.set_cons_zero]
  rw [e5, e6, e9, e10, e11, e12, e13, e14]
  generalize vs 0 = u30_0
  generalize vs 1 = u30_1
  generalize vs 2 = u30_2
  generalize vs 3 = u30_3
  generalize vs 4 = u30_4
  generalize vs 7 = u30_7
  generalize vs 8 = u30_8
  clear e5 e6 e9 e10 e11 e12 e13 e14 hC hn E30 hL vs L nb
  clear B8 B9 B10 B11 B12 B13 B14 B15 B16 B17 B18 B19 B20 B21 B23 B24 B26 B27 B28 Bx1 Bx2 Bx3 Bx4 Ba Bb Bc Bd Bp Bq
  go_wp2
  refine bodyPost_ret (v := .bool true) ?_ rfl ⟨rfl, E.below⟩
  simp [results, Tryz.results4, go_sem]

end Go.Proofs.YtoimphnhmpmipaaGreat
