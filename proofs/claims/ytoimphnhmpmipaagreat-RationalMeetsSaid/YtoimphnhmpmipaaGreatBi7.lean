/- Vi. -/
import Derived.Test.YtoimphnhmpmipaaGreatBi6
/- Walk of the law on the meeting of intervals. -/
namespace Go.Proofs.YtoimphnhmpmipaaGreat
open Go Go.RowKit

theorem least1 (x y : Rat) : leastQ x [y] = if y < x then y else x := rfl
theorem great1 (x y : Rat) : greatQ x [y] = if x < y then y else x := rfl
theorem least1_le {x y z : Rat} : z ≤ leastQ x [y] ↔ z ≤ x ∧ z ≤ y := by
  constructor
  · intro h
    exact ⟨Rat.le_trans h (least_le [y] x).1, Rat.le_trans h ((least_le [y] x).2 y (by simp))⟩
  · rintro ⟨h1, h2⟩
    rw [least1]
    split
    · exact h2
    · exact h1
theorem great1_le {x y z : Rat} : greatQ x [y] ≤ z ↔ x ≤ z ∧ y ≤ z := by
  constructor
  · intro h
    exact ⟨Rat.le_trans (le_great [y] x).1 h, Rat.le_trans ((le_great [y] x).2 y (by simp)) h⟩
  · rintro ⟨h1, h2⟩
    rw [great1]
    split
    · exact h2
    · exact h1
theorem meet_iff {a b c d : Rat} (hab : a ≤ b) (hcd : c ≤ d) : greatQ a [c] ≤ leastQ b [d] ↔ c ≤ b ∧ a ≤ d := by
  rw [least1_le, great1_le, great1_le]
  exact ⟨fun h => ⟨h.1.2, h.2.1⟩, fun h => ⟨⟨hab, h.1⟩, ⟨h.2, hcd⟩⟩⟩
theorem has_meet {a b c d z : Rat} : (decide (greatQ a [c] ≤ z) && decide (z ≤ leastQ b [d])) = ((decide (a ≤ z) && decide (z ≤ b)) && (decide (c ≤ z) && decide (z ≤ d))) := by
  rw [Bool.eq_iff_iff]
  simp only [Bool.and_eq_true, decide_eq_true_eq, least1_le, great1_le]
  constructor
  · rintro ⟨⟨h1, h2⟩, h3, h4⟩
    exact ⟨⟨h1, h3⟩, h2, h4⟩
  · rintro ⟨⟨h1, h3⟩, h2, h4⟩
    exact ⟨⟨h1, h2⟩, h3, h4⟩
theorem both_no {a b c d z : Rat} (h : leastQ b [d] < greatQ a [c]) : ((decide (a ≤ z) && decide (z ≤ b)) && (decide (c ≤ z) && decide (z ≤ d))) = false := by
  rw [← has_meet, Bool.eq_false_iff]
  intro h2
  simp only [Bool.and_eq_true, decide_eq_true_eq] at h2
  exact Rat.not_le.2 h (Rat.le_trans h2.1 h2.2)
/-- One is inside the other exactly if the meeting is the first one. -/
theorem ends_same {a b c d : Rat} (hab : a ≤ b) : ((decide (c ≤ a) && decide (a ≤ d)) && (decide (c ≤ b) && decide (b ≤ d))) = (decide (greatQ a [c] = a) && decide (leastQ b [d] = b)) := by
  have e1 : greatQ a [c] = a ↔ c ≤ a := ⟨fun h => by rw [← h]; exact (le_great [c] a).2 c (by simp), fun h => by rw [great1, if_neg (Rat.not_lt.2 h)]⟩
  have e2 : leastQ b [d] = b ↔ b ≤ d := ⟨fun h => by rw [← h]; exact (least_le [d] b).2 d (by simp), fun h => by rw [least1, if_neg (Rat.not_lt.2 h)]⟩
  rw [Bool.eq_iff_iff]
  simp only [Bool.and_eq_true, decide_eq_true_eq, e1, e2]
  exact ⟨fun h => ⟨h.1.1, h.2.2⟩, fun h => ⟨⟨h.1, Rat.le_trans hab h.2⟩, Rat.le_trans h.1 hab, h.2⟩⟩
theorem ends_no {a b c d : Rat} (hab : a ≤ b) (h : leastQ b [d] < greatQ a [c]) : ((decide (c ≤ a) && decide (a ≤ d)) && (decide (c ≤ b) && decide (b ≤ d))) = false := by
  rw [Bool.eq_false_iff]
  intro h2
  simp only [Bool.and_eq_true, decide_eq_true_eq] at h2
  refine Rat.not_le.2 h ((great1_le).2 ⟨(least1_le).2 ⟨hab, h2.1.2⟩, (least1_le).2 ⟨h2.2.1, Rat.le_trans h2.2.1 h2.2.2⟩⟩)

set_option maxRecDepth 100000 in
set_option maxHeartbeats 4000000 in
theorem RationalMeets_any (w : World) (n1 : Bool) (a1 : Option Addr) (k1 c1 : Nat) (xs1 : List Int) (m1 : Bool) (r1 : Option Addr) (l1 q1 : Nat) (ys1 : List Int) (h1 : Sl w a1 k1 c1 xs1) (g1 : Sl w r1 l1 q1 ys1) (hk1 : k1 ≤ 9223372036854775807) (hl1 : l1 ≤ 9223372036854775807) (n2 : Bool) (a2 : Option Addr) (k2 c2 : Nat) (xs2 : List Int) (m2 : Bool) (r2 : Option Addr) (l2 q2 : Nat) (ys2 : List Int) (h2 : Sl w a2 k2 c2 xs2) (g2 : Sl w r2 l2 q2 ys2) (hk2 : k2 ≤ 9223372036854775807) (hl2 : l2 ≤ 9223372036854775807) (n3 : Bool) (a3 : Option Addr) (k3 c3 : Nat) (xs3 : List Int) (m3 : Bool) (r3 : Option Addr) (l3 q3 : Nat) (ys3 : List Int) (h3 : Sl w a3 k3 c3 xs3) (g3 : Sl w r3 l3 q3 ys3) (hk3 : k3 ≤ 9223372036854775807) (hl3 : l3 ≤ 9223372036854775807) (n4 : Bool) (a4 : Option Addr) (k4 c4 : Nat) (xs4 : List Int) (m4 : Bool) (r4 : Option Addr) (l4 q4 : Nat) (ys4 : List Int) (h4 : Sl w a4 k4 c4 xs4) (g4 : Sl w r4 l4 q4 ys4) (hk4 : k4 ≤ 9223372036854775807) (hl4 : l4 ≤ 9223372036854775807) (n5 : Bool) (a5 : Option Addr) (k5 c5 : Nat) (xs5 : List Int) (m5 : Bool) (r5 : Option Addr) (l5 q5 : Nat) (ys5 : List Int) (h5 : Sl w a5 k5 c5 xs5) (g5 : Sl w r5 l5 q5 ys5) (hk5 : k5 ≤ 9223372036854775807) (hl5 : l5 ≤ 9223372036854775807) :
    Calls Tryz.prog 5 #[.agg #[.bool n1, .slice a1 k1 c1, .bool m1, .slice r1 l1 q1, .bool n2, .slice a2 k2 c2, .bool m2, .slice r2 l2 q2], .agg #[.bool n3, .slice a3 k3 c3, .bool m3, .slice r3 l3 q3, .bool n4, .slice a4 k4 c4, .bool m4, .slice r4 l4 q4], .agg #[.bool n5, .slice a5 k5 c5, .bool m5, .slice r5 l5 q5]] w fun e w' => e = .returned (.bool true) ∧ Below w.heap.size w w' := by
  obtain ⟨x1, h1_⟩ : ∃ x, x = madeQ n1 xs1 ys1 m1 3 := ⟨_, rfl⟩
  have Bx1 : Hid (Rb x1 3) := by rw [h1_]; exact made_rb h1.digs g1.digs (by omega)
  have Hx1 := hidd h1_
  have K1 := hidd hk1
  have L1 := hidd hl1
  clear h1_ hk1 hl1
  obtain ⟨x2, h2_⟩ : ∃ x, x = madeQ n2 xs2 ys2 m2 3 := ⟨_, rfl⟩
  have Bx2 : Hid (Rb x2 3) := by rw [h2_]; exact made_rb h2.digs g2.digs (by omega)
  have Hx2 := hidd h2_
  have K2 := hidd hk2
  have L2 := hidd hl2
  clear h2_ hk2 hl2
  obtain ⟨x3, h3_⟩ : ∃ x, x = madeQ n3 xs3 ys3 m3 3 := ⟨_, rfl⟩
  have Bx3 : Hid (Rb x3 3) := by rw [h3_]; exact made_rb h3.digs g3.digs (by omega)
  have Hx3 := hidd h3_
  have K3 := hidd hk3
  have L3 := hidd hl3
  clear h3_ hk3 hl3
  obtain ⟨x4, h4_⟩ : ∃ x, x = madeQ n4 xs4 ys4 m4 3 := ⟨_, rfl⟩
  have Bx4 : Hid (Rb x4 3) := by rw [h4_]; exact made_rb h4.digs g4.digs (by omega)
  have Hx4 := hidd h4_
  have K4 := hidd hk4
  have L4 := hidd hl4
  clear h4_ hk4 hl4
  obtain ⟨x5, h5_⟩ : ∃ x, x = madeQ n5 xs5 ys5 m5 3 := ⟨_, rfl⟩
  have Bx5 : Hid (Rb x5 3) := by rw [h5_]; exact made_rb h5.digs g5.digs (by omega)
  have Hx5 := hidd h5_
  have K5 := hidd hk5
  have L5 := hidd hl5
  clear h5_ hk5 hl5
  obtain ⟨a, hl_⟩ : ∃ x, x = leastQ x1 [x2] := ⟨_, rfl⟩
  obtain ⟨b, hg_⟩ : ∃ x, x = greatQ x1 [x2] := ⟨_, rfl⟩
  have Ba : Hid (Rb a 3) := by rw [hl_]; exact rb_least Bx1.out (allR Bx2.out nilR)
  have Bb : Hid (Rb b 3) := by rw [hg_]; exact rb_great Bx1.out (allR Bx2.out nilR)
  have Oa : Hid (a ≤ b) := by show _ ≤ _; rw [hl_, hg_]; exact span_le _ _
  have Ha := hidd hl_
  have Hb := hidd hg_
  clear hl_ hg_
  obtain ⟨c, hl_⟩ : ∃ x, x = leastQ x3 [x4] := ⟨_, rfl⟩
  obtain ⟨d, hg_⟩ : ∃ x, x = greatQ x3 [x4] := ⟨_, rfl⟩
  have Bc : Hid (Rb c 3) := by rw [hl_]; exact rb_least Bx3.out (allR Bx4.out nilR)
  have Bd : Hid (Rb d 3) := by rw [hg_]; exact rb_great Bx3.out (allR Bx4.out nilR)
  have Oc : Hid (c ≤ d) := by show _ ≤ _; rw [hl_, hg_]; exact span_le _ _
  have Hc := hidd hl_
  have Hd := hidd hg_
  clear hl_ hg_
  obtain ⟨w1, b1, hw1, hb1, hs1, E⟩ := fr_start w (F := Fq.raws2 n1 a1 k1 c1 xs1 m1 r1 l1 q1 ys1 n2 a2 k2 c2 xs2 m2 r2 l2 q2 ys2) (us := [.bool n1, .slice a1 k1 c1, .bool m1, .slice r1 l1 q1, .bool n2, .slice a2 k2 c2, .bool m2, .slice r2 l2 q2]) 44 rfl (by simp) (tame_ivl _ _ _ _ _ _ _ _ _ _ _ _ _ _ _ _) (show (Fq.raws2 n1 a1 k1 c1 xs1 m1 r1 l1 q1 ys1 n2 a2 k2 c2 xs2 m2 r2 l2 q2 ys2).P _ w from ⟨rfl, h1, g1, h2, g2⟩)
  obtain ⟨w2, b2, hw2, hb2, hs2, E⟩ := fr_more E hs1 (F := Fq.raws2 n3 a3 k3 c3 xs3 m3 r3 l3 q3 ys3 n4 a4 k4 c4 xs4 m4 r4 l4 q4 ys4) (us := [.bool n3, .slice a3 k3 c3, .bool m3, .slice r3 l3 q3, .bool n4, .slice a4 k4 c4, .bool m4, .slice r4 l4 q4]) 44 rfl (by simp) (tame_ivl _ _ _ _ _ _ _ _ _ _ _ _ _ _ _ _) ((Fq.raws2 n3 a3 k3 c3 xs3 m3 r3 l3 q3 ys3 n4 a4 k4 c4 xs4 m4 r4 l4 q4 ys4).mono (show (Fq.raws2 n3 a3 k3 c3 xs3 m3 r3 l3 q3 ys3 n4 a4 k4 c4 xs4 m4 r4 l4 q4 ys4).P _ w from ⟨rfl, h3, g3, h4, g4⟩) E.below)
  obtain ⟨w3, b3, hw3, hb3, hs3, E⟩ := fr_more E hs2 (F := Fq.raw2 n5 a5 k5 c5 xs5 m5 r5 l5 q5 ys5) (us := [.bool n5, .slice a5 k5 c5, .bool m5, .slice r5 l5 q5]) 26 rfl (by simp) (tame_rat _ _ _ _ _ _ _ _) ((Fq.raw2 n5 a5 k5 c5 xs5 m5 r5 l5 q5 ys5).mono (show (Fq.raw2 n5 a5 k5 c5 xs5 m5 r5 l5 q5 ys5).P _ w from ⟨rfl, h5, g5⟩) E.below)
  go_enter Tryz.func5, Tryz.ntmps5
  go_upto_region 1 with (fail)
  rw [← hw1]
  rw [← hw2]
  rw [← hw3]
  rw [← hb3]
  rw [← hb2]
  rw [← hb1]
  clear hw1 hw2 hw3 hb1 hb2 hb3 hs3 hs1 hs2
  refine region_fr (C := [Fq.is (.bool true), Fq.is (.bool true)]) (ks := [none, none, none]) (new := []) E rfl (by kernel_rfl) rfl rfl (fun hp => ⟨?_, ?_, trivial⟩) ?_
  · exact q_call0 hp (free_of rfl) trivial (enq_K_examples) (fun w => exExamples w)
  · exact q_assign hp (free_of rfl) trivial (sq_in 0 rfl rfl (by simp) rfl (fun v w h => h))
  intro L vs w4 nb hL hC hn E4
  have e0 : vs 0 = .bool true := hC 0 (by simp)
  have e1 : vs 1 = .bool true := hC 1 (by simp)
  have E : Fr w [(b3, 4, Fq.raw2 n5 a5 k5 c5 xs5 m5 r5 l5 q5 ys5), (b2, 8, Fq.raws2 n3 a3 k3 c3 xs3 m3 r3 l3 q3 ys3 n4 a4 k4 c4 xs4 m4 r4 l4 q4 ys4), (b1, 8, Fq.raws2 n1 a1 k1 c1 xs1 m1 r1 l1 q1 ys1 n2 a2 k2 c2 xs2 m2 r2 l2 q2 ys2)] w4 := E4
  rw [lay_all hL]
  simp only [putAll, dstOf, List.length_cons, List.length_nil, Nat.zero_add, Nat.reduceAdd, List.getElem?_toArray, List.getElem?_cons_zero, List.getElem?_cons_succ, Option.bind_some, Act.put, List.setIfInBounds_toArray, List.set_cons_succ, List.set_cons_zero]
  rw [e0, e1]
  clear e0 e1 hC hn E4 hL vs L nb
  go_upto_region 2 with (fail)
  refine region_fr (C := [Fq.is (.bool true), Fq.is (.bool false)]) (ks := [none, none, none]) (new := []) E rfl (by kernel_rfl) rfl rfl (fun hp => ⟨?_, ?_, trivial⟩) ?_
  · exact q_move hp (free_of rfl) trivial (sq_out rfl rfl (fun _ _ => rfl))
  · exact q_one (F := fun v _ => v = .bool true) hp (free_of rfl) trivial (sq_in 0 rfl rfl (by simp) rfl (fun v w h => h)) (fun ρ w _ h => ⟨.bool false, by simp [execOp, go_sem, h], rfl⟩)
  intro L vs w5 nb hL hC hn E5
  have e0 : vs 0 = .bool true := hC 0 (by simp)
  have e1 : vs 1 = .bool false := hC 1 (by simp)
  have E : Fr w [(b3, 4, Fq.raw2 n5 a5 k5 c5 xs5 m5 r5 l5 q5 ys5), (b2, 8, Fq.raws2 n3 a3 k3 c3 xs3 m3 r3 l3 q3 ys3 n4 a4 k4 c4 xs4 m4 r4 l4 q4 ys4), (b1, 8, Fq.raws2 n1 a1 k1 c1 xs1 m1 r1 l1 q1 ys1 n2 a2 k2 c2 xs2 m2 r2 l2 q2 ys2)] w5 := E5
  rw [lay_all hL]
  simp only [putAll, dstOf, List.length_cons, List.length_nil, Nat.zero_add, Nat.reduceAdd, List.getElem?_toArray, List.getElem?_cons_zero, List.getElem?_cons_succ, Option.bind_some, Act.put, List.setIfInBounds_toArray, List.set_cons_succ, List.set_cons_zero]
  rw [e0, e1]
  clear e0 e1 hC hn E5 hL vs L nb
  go_upto_region 4 with (fail)
  refine region_fr (C := [Fq.is (.pointer (some ⟨b1, 0, none⟩)), Fq.raw2 n1 a1 k1 c1 xs1 m1 r1 l1 q1 ys1, Fq.pair x1.num (x1.den : Int), Fq.is (.pointer (some ⟨b1, 4, none⟩)), Fq.raw2 n2 a2 k2 c2 xs2 m2 r2 l2 q2 ys2, Fq.pair x2.num (x2.den : Int), Fq.ivl a.num (a.den : Int) b.num (b.den : Int), Fq.is (.pointer (some ⟨b2, 0, none⟩)), Fq.raw2 n3 a3 k3 c3 xs3 m3 r3 l3 q3 ys3, Fq.pair x3.num (x3.den : Int), Fq.is (.pointer (some ⟨b2, 4, none⟩)), Fq.raw2 n4 a4 k4 c4 xs4 m4 r4 l4 q4 ys4, Fq.pair x4.num (x4.den : Int), Fq.ivl c.num (c.den : Int) d.num (d.den : Int), Fq.raw2 n5 a5 k5 c5 xs5 m5 r5 l5 q5 ys5, Fq.pair x5.num (x5.den : Int), Fq.any, Fq.any, Fq.any, Fq.any, Fq.any, Fq.any]) (ks := [none, none, none]) (new := [⟨16, 19, 8, Fq.ivl 0 0 0 0, Fq.ivl a.num (a.den : Int) b.num (b.den : Int), none⟩, ⟨17, 20, 8, Fq.ivl 0 0 0 0, Fq.ivl c.num (c.den : Int) d.num (d.den : Int), none⟩, ⟨18, 21, 4, Fq.pair 0 0, Fq.pair x5.num (x5.den : Int), none⟩]) E rfl (by kernel_rfl) rfl rfl (fun hp => ⟨?_, ?_, ?_, ?_, ?_, ?_, ?_, ?_, ?_, ?_, ?_, ?_, ?_, ?_, ?_, ?_, ?_, ?_, ?_, ?_, ?_, ?_, trivial⟩) ?_
  · exact q_one (F := fun v _ => v = .pointer (some ⟨b1, 0, none⟩)) hp (free_of rfl) trivial (sq_out (s := 3) rfl rfl (fun _ _ => rfl)) (fun ρ w hc h => ⟨.pointer (some ⟨b1, 0, none⟩), by simp [execOp, go_sem, h, hc], rfl⟩)
  · exact q_loadRaw2At (off := 0) hp (free_of rfl) trivial (List.mem_iff_getElem?.2 ⟨2, rfl⟩) (.inl rfl) (Nat.le_of_ble_eq_true rfl) (sq_in 0 rfl rfl (by simp) rfl (fun v w h => h)) (fun us w hl h => ld_raws0 hl h)
  · exact q_call2 (F := (Fq.raw2 n1 a1 k1 c1 xs1 m1 r1 l1 q1 ys1).P) (G := (Fq.is (.int .i64 3)).P) hp (free_of rfl) trivial (enq_S_Made) (sq_in 1 rfl rfl (by simp) rfl (fun v w h => h)) (sq_const (fun _ => rfl)) (fun v v' w h h' => (by obtain ⟨rfl, s1, s2⟩ := h; subst h'; rw [Hx1.out]; exact exSMade (j := 3) s1 s2 K1.out L1.out (by omega)))
  · exact q_one (F := fun v _ => v = .pointer (some ⟨b1, 0, none⟩)) hp (free_of rfl) trivial (sq_out (s := 3) rfl rfl (fun _ _ => rfl)) (fun ρ w hc h => ⟨.pointer (some ⟨b1, 4, none⟩), by simp [execOp, go_sem, h, hc], rfl⟩)
  · exact q_loadRaw2At (off := 4) hp (free_of rfl) trivial (List.mem_iff_getElem?.2 ⟨2, rfl⟩) (.inl rfl) (Nat.le_of_ble_eq_true rfl) (sq_in 3 rfl rfl (by simp) rfl (fun v w h => h)) (fun us w hl h => ld_raws1 hl h)
  · exact q_call2 (F := (Fq.raw2 n2 a2 k2 c2 xs2 m2 r2 l2 q2 ys2).P) (G := (Fq.is (.int .i64 3)).P) hp (free_of rfl) trivial (enq_S_Made) (sq_in 4 rfl rfl (by simp) rfl (fun v w h => h)) (sq_const (fun _ => rfl)) (fun v v' w h h' => (by obtain ⟨rfl, s1, s2⟩ := h; subst h'; rw [Hx2.out]; exact exSMade (j := 3) s1 s2 K2.out L2.out (by omega)))
  · exact q_call2 (F := (Fq.pair x1.num (x1.den : Int)).P) (G := (Fq.pair x2.num (x2.den : Int)).P) hp (free_of rfl) trivial (enq_S_Span) (sq_in 2 rfl rfl (by simp) rfl (fun v w h => h)) (sq_in 5 rfl rfl (by simp) rfl (fun v w h => h)) (fun v v' w h h' => (by rw [Ha.out, Hb.out]; exact exSSpan h h' (rb_le Bx1.out (by omega)) (rb_le Bx2.out (by omega))))
  · exact q_one (F := fun v _ => v = .pointer (some ⟨b2, 0, none⟩)) hp (free_of rfl) trivial (sq_out (s := 4) rfl rfl (fun _ _ => rfl)) (fun ρ w hc h => ⟨.pointer (some ⟨b2, 0, none⟩), by simp [execOp, go_sem, h, hc], rfl⟩)
  · exact q_loadRaw2At (off := 0) hp (free_of rfl) trivial (List.mem_iff_getElem?.2 ⟨1, rfl⟩) (.inl rfl) (Nat.le_of_ble_eq_true rfl) (sq_in 7 rfl rfl (by simp) rfl (fun v w h => h)) (fun us w hl h => ld_raws0 hl h)
  · exact q_call2 (F := (Fq.raw2 n3 a3 k3 c3 xs3 m3 r3 l3 q3 ys3).P) (G := (Fq.is (.int .i64 3)).P) hp (free_of rfl) trivial (enq_S_Made) (sq_in 8 rfl rfl (by simp) rfl (fun v w h => h)) (sq_const (fun _ => rfl)) (fun v v' w h h' => (by obtain ⟨rfl, s1, s2⟩ := h; subst h'; rw [Hx3.out]; exact exSMade (j := 3) s1 s2 K3.out L3.out (by omega)))
  · exact q_one (F := fun v _ => v = .pointer (some ⟨b2, 0, none⟩)) hp (free_of rfl) trivial (sq_out (s := 4) rfl rfl (fun _ _ => rfl)) (fun ρ w hc h => ⟨.pointer (some ⟨b2, 4, none⟩), by simp [execOp, go_sem, h, hc], rfl⟩)
  · exact q_loadRaw2At (off := 4) hp (free_of rfl) trivial (List.mem_iff_getElem?.2 ⟨1, rfl⟩) (.inl rfl) (Nat.le_of_ble_eq_true rfl) (sq_in 10 rfl rfl (by simp) rfl (fun v w h => h)) (fun us w hl h => ld_raws1 hl h)
  · exact q_call2 (F := (Fq.raw2 n4 a4 k4 c4 xs4 m4 r4 l4 q4 ys4).P) (G := (Fq.is (.int .i64 3)).P) hp (free_of rfl) trivial (enq_S_Made) (sq_in 11 rfl rfl (by simp) rfl (fun v w h => h)) (sq_const (fun _ => rfl)) (fun v v' w h h' => (by obtain ⟨rfl, s1, s2⟩ := h; subst h'; rw [Hx4.out]; exact exSMade (j := 3) s1 s2 K4.out L4.out (by omega)))
  · exact q_call2 (F := (Fq.pair x3.num (x3.den : Int)).P) (G := (Fq.pair x4.num (x4.den : Int)).P) hp (free_of rfl) trivial (enq_S_Span) (sq_in 9 rfl rfl (by simp) rfl (fun v w h => h)) (sq_in 12 rfl rfl (by simp) rfl (fun v w h => h)) (fun v v' w h h' => (by rw [Hc.out, Hd.out]; exact exSSpan h h' (rb_le Bx3.out (by omega)) (rb_le Bx4.out (by omega))))
  · exact q_loadRaw2 hp (free_of rfl) trivial (List.mem_iff_getElem?.2 ⟨0, rfl⟩) (.inl rfl) rfl (sq_out rfl rfl (fun _ _ => rfl)) (fun us w hl h => h)
  · exact q_call2 (F := (Fq.raw2 n5 a5 k5 c5 xs5 m5 r5 l5 q5 ys5).P) (G := (Fq.is (.int .i64 3)).P) hp (free_of rfl) trivial (enq_S_Made) (sq_in 14 rfl rfl (by simp) rfl (fun v w h => h)) (sq_const (fun _ => rfl)) (fun v v' w h h' => (by obtain ⟨rfl, s1, s2⟩ := h; subst h'; rw [Hx5.out]; exact exSMade (j := 3) s1 s2 K5.out L5.out (by omega)))
  · exact q_allocIvl hp (List.mem_iff_getElem?.2 ⟨0, rfl⟩) rfl rfl rfl rfl (Nat.ne_of_beq_eq_false rfl) (fun _ _ => trivial) (old_ne rfl) (newk_ne rfl) (fun w => Ivl.zero w)
  · exact q_allocIvl hp (List.mem_iff_getElem?.2 ⟨1, rfl⟩) rfl rfl rfl rfl (Nat.ne_of_beq_eq_false rfl) (fun _ _ => trivial) (old_ne rfl) (newk_ne rfl) (fun w => Ivl.zero w)
  · exact q_allocRat hp (List.mem_iff_getElem?.2 ⟨2, rfl⟩) rfl rfl rfl rfl (Nat.ne_of_beq_eq_false rfl) (fun _ _ => trivial) (old_ne rfl) (newk_ne rfl) (fun w => Pair.zero w)
  · exact q_storeNewIvl hp (List.mem_iff_getElem?.2 ⟨0, rfl⟩) rfl rfl rfl (own_ptr rfl rfl (by simp) rfl) (sq_in 6 rfl rfl (by simp) rfl (fun v w h => h.parts)) (fun _ _ => trivial) (old_ne rfl) (newi_ne rfl)
  · exact q_storeNewIvl hp (List.mem_iff_getElem?.2 ⟨1, rfl⟩) rfl rfl rfl (own_ptr rfl rfl (by simp) rfl) (sq_in 13 rfl rfl (by simp) rfl (fun v w h => h.parts)) (fun _ _ => trivial) (old_ne rfl) (newi_ne rfl)
  · exact q_storeNewRat hp (List.mem_iff_getElem?.2 ⟨2, rfl⟩) rfl rfl rfl (own_ptr rfl rfl (by simp) rfl) (sq_in 15 rfl rfl (by simp) rfl (fun v w h => ratV_pair h)) (fun _ _ => trivial) (old_ne rfl) (newi_ne rfl)
  intro L vs w6 nb hL hC hn E6
  have e0 : vs 0 = .pointer (some ⟨b1, 0, none⟩) := hC 0 (by simp)
  have e3 : vs 3 = .pointer (some ⟨b1, 4, none⟩) := hC 3 (by simp)
  have e7 : vs 7 = .pointer (some ⟨b2, 0, none⟩) := hC 7 (by simp)
  have e10 : vs 10 = .pointer (some ⟨b2, 4, none⟩) := hC 10 (by simp)
  have e16 : vs 16 = .pointer (some ⟨nb 16, 0, none⟩) := hn _ (List.mem_iff_getElem?.2 ⟨0, rfl⟩)
  have e17 : vs 17 = .pointer (some ⟨nb 17, 0, none⟩) := hn _ (List.mem_iff_getElem?.2 ⟨1, rfl⟩)
  have e18 : vs 18 = .pointer (some ⟨nb 18, 0, none⟩) := hn _ (List.mem_iff_getElem?.2 ⟨2, rfl⟩)
  have E : Fr w [(nb 16, 8, Fq.ivl a.num (a.den : Int) b.num (b.den : Int)), (nb 17, 8, Fq.ivl c.num (c.den : Int) d.num (d.den : Int)), (nb 18, 4, Fq.pair x5.num (x5.den : Int)), (b3, 4, Fq.raw2 n5 a5 k5 c5 xs5 m5 r5 l5 q5 ys5), (b2, 8, Fq.raws2 n3 a3 k3 c3 xs3 m3 r3 l3 q3 ys3 n4 a4 k4 c4 xs4 m4 r4 l4 q4 ys4), (b1, 8, Fq.raws2 n1 a1 k1 c1 xs1 m1 r1 l1 q1 ys1 n2 a2 k2 c2 xs2 m2 r2 l2 q2 ys2)] w6 := E6
  rw [lay_all hL]
  simp only [putAll, dstOf, List.length_cons, List.length_nil, Nat.zero_add, Nat.reduceAdd, List.getElem?_toArray, List.getElem?_cons_zero, List.getElem?_cons_succ, Option.bind_some, Act.put, List.setIfInBounds_toArray, List.set_cons_succ, List.set_cons_zero]
  rw [e0, e3, e7, e10, e16, e17, e18]
  generalize nb 16 = b6_16 at E ⊢
  generalize nb 17 = b6_17 at E ⊢
  generalize nb 18 = b6_18 at E ⊢
  generalize vs 1 = u6_1
  generalize vs 2 = u6_2
  generalize vs 4 = u6_4
  generalize vs 5 = u6_5
  generalize vs 6 = u6_6
  generalize vs 8 = u6_8
  generalize vs 9 = u6_9
  generalize vs 11 = u6_11
  generalize vs 12 = u6_12
  generalize vs 13 = u6_13
  generalize vs 14 = u6_14
  generalize vs 15 = u6_15
  clear e0 e3 e7 e10 e16 e17 e18 hC hn E6 hL vs L nb
  by_cases hm : greatQ a [c] ≤ leastQ b [d]
  · have HM := hidd hm
    clear hm
    go_upto_region 5 with (fail)
    have B7 : Hid (Rb (greatQ a [c]) 3) := rb_great (rb_le Ba.out (by omega)) (allR (rb_le Bc.out (by omega)) nilR)
    have B8 : Hid (Rb (leastQ b [d]) 3) := rb_least (rb_le Bb.out (by omega)) (allR (rb_le Bd.out (by omega)) nilR)
    refine region_fr (C := [Fq.ivl a.num (a.den : Int) b.num (b.den : Int), Fq.ivl c.num (c.den : Int) d.num (d.den : Int), Fq.tup2 (Fq.ivl (greatQ a [c]).num ((greatQ a [c]).den : Int) (leastQ b [d]).num ((leastQ b [d]).den : Int)) (Fq.is (.bool true)), Fq.tup2 (Fq.ivl (greatQ a [c]).num ((greatQ a [c]).den : Int) (leastQ b [d]).num ((leastQ b [d]).den : Int)) (Fq.is (.bool true)), Fq.ivl (greatQ a [c]).num ((greatQ a [c]).den : Int) (leastQ b [d]).num ((leastQ b [d]).den : Int), Fq.is (.bool true), Fq.any, Fq.any, Fq.is (.bool true)]) (ks := [none, none, none, none, none, none]) (new := [⟨6, 7, 8, Fq.ivl 0 0 0 0, Fq.ivl (greatQ a [c]).num ((greatQ a [c]).den : Int) (leastQ b [d]).num ((leastQ b [d]).den : Int), none⟩]) E rfl (by kernel_rfl) rfl rfl (fun hp => ⟨?_, ?_, ?_, ?_, ?_, ?_, ?_, ?_, ?_, trivial⟩) ?_
    · exact q_loadIvl hp (free_of rfl) trivial (List.mem_iff_getElem?.2 ⟨0, rfl⟩) (.inl rfl) rfl (sq_out rfl rfl (fun _ _ => rfl)) (fun us w hl h => h)
    · exact q_loadIvl hp (free_of rfl) trivial (List.mem_iff_getElem?.2 ⟨1, rfl⟩) (.inl rfl) rfl (sq_out rfl rfl (fun _ _ => rfl)) (fun us w hl h => h)
    · exact q_call2 (F := (Fq.ivl a.num (a.den : Int) b.num (b.den : Int)).P) (G := (Fq.ivl c.num (c.den : Int) d.num (d.den : Int)).P) hp (free_of rfl) trivial (enq_Q_Meet) (sq_in 0 rfl rfl (by simp) rfl (fun v w h => h)) (sq_in 1 rfl rfl (by simp) rfl (fun v w h => h)) (fun v v' w h h' => exMeetY h h' (rb_le Ba.out (by omega)) (rb_le Bb.out (by omega)) (rb_le Bc.out (by omega)) (rb_le Bd.out (by omega)) HM.out)
    · exact q_move hp (free_of rfl) trivial (sq_in 2 rfl rfl (by simp) rfl (fun v w h => h))
    · exact q_extract2 hp (free_of rfl) trivial (sq_in 3 rfl rfl (by simp) rfl (fun v w h => h)) (fun v1 v2 w h1 h2 => ⟨_, rfl, h1⟩)
    · exact q_extract2 hp (free_of rfl) trivial (sq_in 3 rfl rfl (by simp) rfl (fun v w h => h)) (fun v1 v2 w h1 h2 => ⟨_, rfl, h2⟩)
    · exact q_allocIvl hp (List.mem_iff_getElem?.2 ⟨0, rfl⟩) rfl rfl rfl rfl (Nat.ne_of_beq_eq_false rfl) (fun _ _ => trivial) (old_ne rfl) (newk_ne rfl) (fun w => Ivl.zero w)
    · exact q_storeNewIvl hp (List.mem_iff_getElem?.2 ⟨0, rfl⟩) rfl rfl rfl (own_ptr rfl rfl (by simp) rfl) (sq_in 4 rfl rfl (by simp) rfl (fun v w h => h.parts)) (fun _ _ => trivial) (old_ne rfl) (newi_ne rfl)
    · exact q_assign hp (free_of rfl) trivial (sq_in 5 rfl rfl (by simp) rfl (fun v w h => h))
    intro L vs w9 nb hL hC hn E9
    have e5 : vs 5 = .bool true := hC 5 (by simp)
    have e8 : vs 8 = .bool true := hC 8 (by simp)
    have e6 : vs 6 = .pointer (some ⟨nb 6, 0, none⟩) := hn _ (List.mem_iff_getElem?.2 ⟨0, rfl⟩)
    have E : Fr w [(nb 6, 8, Fq.ivl (greatQ a [c]).num ((greatQ a [c]).den : Int) (leastQ b [d]).num ((leastQ b [d]).den : Int)), (b6_16, 8, Fq.ivl a.num (a.den : Int) b.num (b.den : Int)), (b6_17, 8, Fq.ivl c.num (c.den : Int) d.num (d.den : Int)), (b6_18, 4, Fq.pair x5.num (x5.den : Int)), (b3, 4, Fq.raw2 n5 a5 k5 c5 xs5 m5 r5 l5 q5 ys5), (b2, 8, Fq.raws2 n3 a3 k3 c3 xs3 m3 r3 l3 q3 ys3 n4 a4 k4 c4 xs4 m4 r4 l4 q4 ys4), (b1, 8, Fq.raws2 n1 a1 k1 c1 xs1 m1 r1 l1 q1 ys1 n2 a2 k2 c2 xs2 m2 r2 l2 q2 ys2)] w9 := E9
    rw [lay_all hL]
    simp only [putAll, dstOf, List.length_cons, List.length_nil, Nat.zero_add, Nat.reduceAdd, List.getElem?_toArray, List.getElem?_cons_zero, List.getElem?_cons_succ, Option.bind_some, Act.put, List.setIfInBounds_toArray, List.set_cons_succ, List.set_cons_zero]
    rw [e5, e8, e6]
    generalize nb 6 = b9_6 at E ⊢
    generalize vs 0 = u9_0
    generalize vs 1 = u9_1
    generalize vs 2 = u9_2
    generalize vs 3 = u9_3
    generalize vs 4 = u9_4
    clear e5 e8 e6 hC hn E9 hL vs L nb
    go_upto_region 6 with (fail)
    go_cut [13] from 16 (fun s W => s = .bool ((decide (a ≤ x5) && decide (x5 ≤ b)) && (decide (c ≤ x5) && decide (x5 ≤ d))) ∧ Fr w [(b9_6, 8, Fq.ivl (greatQ a [c]).num ((greatQ a [c]).den : Int) (leastQ b [d]).num ((leastQ b [d]).den : Int)), (b6_16, 8, Fq.ivl a.num (a.den : Int) b.num (b.den : Int)), (b6_17, 8, Fq.ivl c.num (c.den : Int) d.num (d.den : Int)), (b6_18, 4, Fq.pair x5.num (x5.den : Int)), (b3, 4, Fq.raw2 n5 a5 k5 c5 xs5 m5 r5 l5 q5 ys5), (b2, 8, Fq.raws2 n3 a3 k3 c3 xs3 m3 r3 l3 q3 ys3 n4 a4 k4 c4 xs4 m4 r4 l4 q4 ys4), (b1, 8, Fq.raws2 n1 a1 k1 c1 xs1 m1 r1 l1 q1 ys1 n2 a2 k2 c2 xs2 m2 r2 l2 q2 ys2)] W)
    case first =>
      by_cases hv : (decide (a ≤ x5) && decide (x5 ≤ b)) = true
      · have V1 := hidd hv
        clear hv
        refine region_fr (C := [Fq.ivl a.num (a.den : Int) b.num (b.den : Int), Fq.pair x5.num (x5.den : Int), Fq.is (.bool true), Fq.is (.bool true), Fq.ivl c.num (c.den : Int) d.num (d.den : Int), Fq.pair x5.num (x5.den : Int), Fq.is (.bool (decide (c ≤ x5) && decide (x5 ≤ d))), Fq.is (.bool (decide (c ≤ x5) && decide (x5 ≤ d))), Fq.is (.bool (decide (c ≤ x5) && decide (x5 ≤ d)))]) (ks := [none, none, none, none, none, none, none]) (new := []) E rfl (by kernel_rfl) rfl rfl (fun hp => ⟨?_, ?_, ?_, ?_, ?_, ?_, ?_, ?_, ?_, trivial⟩) ?_
        · exact q_loadIvl hp (free_of rfl) trivial (List.mem_iff_getElem?.2 ⟨1, rfl⟩) (.inl rfl) rfl (sq_out rfl rfl (fun _ _ => rfl)) (fun us w hl h => h)
        · exact q_loadRat hp (free_of rfl) trivial (List.mem_iff_getElem?.2 ⟨3, rfl⟩) (.inl rfl) rfl (sq_out rfl rfl (fun _ _ => rfl)) (fun us w hl h => h)
        · exact q_call2 (F := (Fq.ivl a.num (a.den : Int) b.num (b.den : Int)).P) (G := (Fq.pair x5.num (x5.den : Int)).P) hp (free_of rfl) trivial (enq_Q_Has) (sq_in 0 rfl rfl (by simp) rfl (fun v w h => h)) (sq_in 1 rfl rfl (by simp) rfl (fun v w h => h)) (fun v v' w h h' => exQHasB h h' (rb_le Ba.out (by omega)) (rb_le Bb.out (by omega)) (rb_le Bx5.out (by omega)) V1.out)
        · exact q_move hp (free_of rfl) trivial (sq_in 2 rfl rfl (by simp) rfl (fun v w h => h))
        · exact q_loadIvl hp (free_of rfl) (gq_some rfl rfl (by simp) rfl (fun v w h => h)) (List.mem_iff_getElem?.2 ⟨2, rfl⟩) (.inl rfl) rfl (sq_out rfl rfl (fun _ _ => rfl)) (fun us w hl h => h)
        · exact q_loadRat hp (free_of rfl) (gq_some rfl rfl (by simp) rfl (fun v w h => h)) (List.mem_iff_getElem?.2 ⟨3, rfl⟩) (.inl rfl) rfl (sq_out rfl rfl (fun _ _ => rfl)) (fun us w hl h => h)
        · exact q_call2 (F := (Fq.ivl c.num (c.den : Int) d.num (d.den : Int)).P) (G := (Fq.pair x5.num (x5.den : Int)).P) hp (free_of rfl) (gq_some rfl rfl (by simp) rfl (fun v w h => h)) (enq_Q_Has) (sq_in 4 rfl rfl (by simp) rfl (fun v w h => h)) (sq_in 5 rfl rfl (by simp) rfl (fun v w h => h)) (fun v v' w h h' => exQHasB h h' (rb_le Bc.out (by omega)) (rb_le Bd.out (by omega)) (rb_le Bx5.out (by omega)) rfl)
        · exact q_two (F := fun v _ => v = .bool true) (G := fun v _ => v = .bool (decide (c ≤ x5) && decide (x5 ≤ d))) hp (free_of rfl) trivial (sq_in 3 rfl rfl (by simp) rfl (fun v w h => h)) (sq_in 6 rfl rfl (by simp) rfl (fun v w h => h)) (fun ρ w hc h h' => ⟨_, by simp [execOp, go_sem, h, h'], rfl⟩)
        · exact q_assign hp (free_of rfl) trivial (sq_in 7 rfl rfl (by simp) rfl (fun v w h => h))
        intro L vs w10 nb hL hC hn E10
        have e2 : vs 2 = .bool true := hC 2 (by simp)
        have e3 : vs 3 = .bool true := hC 3 (by simp)
        have e6 : vs 6 = .bool (decide (c ≤ x5) && decide (x5 ≤ d)) := hC 6 (by simp)
        have e7 : vs 7 = .bool (decide (c ≤ x5) && decide (x5 ≤ d)) := hC 7 (by simp)
        have e8 : vs 8 = .bool (decide (c ≤ x5) && decide (x5 ≤ d)) := hC 8 (by simp)
        have E : Fr w [(b9_6, 8, Fq.ivl (greatQ a [c]).num ((greatQ a [c]).den : Int) (leastQ b [d]).num ((leastQ b [d]).den : Int)), (b6_16, 8, Fq.ivl a.num (a.den : Int) b.num (b.den : Int)), (b6_17, 8, Fq.ivl c.num (c.den : Int) d.num (d.den : Int)), (b6_18, 4, Fq.pair x5.num (x5.den : Int)), (b3, 4, Fq.raw2 n5 a5 k5 c5 xs5 m5 r5 l5 q5 ys5), (b2, 8, Fq.raws2 n3 a3 k3 c3 xs3 m3 r3 l3 q3 ys3 n4 a4 k4 c4 xs4 m4 r4 l4 q4 ys4), (b1, 8, Fq.raws2 n1 a1 k1 c1 xs1 m1 r1 l1 q1 ys1 n2 a2 k2 c2 xs2 m2 r2 l2 q2 ys2)] w10 := E10
        rw [lay_all hL]
        simp only [putAll, dstOf, List.length_cons, List.length_nil, Nat.zero_add, Nat.reduceAdd, List.getElem?_toArray, List.getElem?_cons_zero, List.getElem?_cons_succ, Option.bind_some, Act.put, List.setIfInBounds_toArray, List.set_cons_succ, List.set_cons_zero]
        rw [e2, e3, e6, e7, e8]
        generalize vs 0 = u10_0
        generalize vs 1 = u10_1
        generalize vs 4 = u10_4
        generalize vs 5 = u10_5
        clear e2 e3 e6 e7 e8 hC hn E10 hL vs L nb
        go_wp2_with (fail)
        go_meet
        case rel => exact ⟨by rw [V1.out]; rfl, E⟩
      · have V1 : Hid ((decide (a ≤ x5) && decide (x5 ≤ b)) = false) := Bool.eq_false_iff.2 hv
        clear hv
        refine region_fr (C := [Fq.ivl a.num (a.den : Int) b.num (b.den : Int), Fq.pair x5.num (x5.den : Int), Fq.is (.bool false), Fq.is (.bool false), Fq.is (undef), Fq.is (undef), Fq.is (undef), Fq.is (.bool false), Fq.is (.bool false)]) (ks := [none, none, none, none, none, none, none]) (new := []) E rfl (by kernel_rfl) rfl rfl (fun hp => ⟨?_, ?_, ?_, ?_, ?_, ?_, ?_, ?_, ?_, trivial⟩) ?_
        · exact q_loadIvl hp (free_of rfl) trivial (List.mem_iff_getElem?.2 ⟨1, rfl⟩) (.inl rfl) rfl (sq_out rfl rfl (fun _ _ => rfl)) (fun us w hl h => h)
        · exact q_loadRat hp (free_of rfl) trivial (List.mem_iff_getElem?.2 ⟨3, rfl⟩) (.inl rfl) rfl (sq_out rfl rfl (fun _ _ => rfl)) (fun us w hl h => h)
        · exact q_call2 (F := (Fq.ivl a.num (a.den : Int) b.num (b.den : Int)).P) (G := (Fq.pair x5.num (x5.den : Int)).P) hp (free_of rfl) trivial (enq_Q_Has) (sq_in 0 rfl rfl (by simp) rfl (fun v w h => h)) (sq_in 1 rfl rfl (by simp) rfl (fun v w h => h)) (fun v v' w h h' => exQHasB h h' (rb_le Ba.out (by omega)) (rb_le Bb.out (by omega)) (rb_le Bx5.out (by omega)) V1.out)
        · exact q_move hp (free_of rfl) trivial (sq_in 2 rfl rfl (by simp) rfl (fun v w h => h))
        · exact q_skip hp (free_of rfl) rfl (gq_some rfl rfl (by simp) rfl (fun v w h => h)) (fun _ => rfl)
        · exact q_skip hp (free_of rfl) rfl (gq_some rfl rfl (by simp) rfl (fun v w h => h)) (fun _ => rfl)
        · exact q_skip hp (free_of rfl) rfl (gq_some rfl rfl (by simp) rfl (fun v w h => h)) (fun _ => rfl)
        · exact q_two (F := fun v _ => v = .bool false) (G := fun v _ => v = .bool false) hp (free_of rfl) trivial (sq_in 3 rfl rfl (by simp) rfl (fun v w h => h)) (sq_const (fun _ => rfl)) (fun ρ w hc h h' => ⟨_, by simp [execOp, go_sem, h, h'], rfl⟩)
        · exact q_assign hp (free_of rfl) trivial (sq_in 7 rfl rfl (by simp) rfl (fun v w h => h))
        intro L vs w11 nb hL hC hn E11
        have e2 : vs 2 = .bool false := hC 2 (by simp)
        have e3 : vs 3 = .bool false := hC 3 (by simp)
        have e4 : vs 4 = undef := hC 4 (by simp)
        have e5 : vs 5 = undef := hC 5 (by simp)
        have e6 : vs 6 = undef := hC 6 (by simp)
        have e7 : vs 7 = .bool false := hC 7 (by simp)
        have e8 : vs 8 = .bool false := hC 8 (by simp)
        have E : Fr w [(b9_6, 8, Fq.ivl (greatQ a [c]).num ((greatQ a [c]).den : Int) (leastQ b [d]).num ((leastQ b [d]).den : Int)), (b6_16, 8, Fq.ivl a.num (a.den : Int) b.num (b.den : Int)), (b6_17, 8, Fq.ivl c.num (c.den : Int) d.num (d.den : Int)), (b6_18, 4, Fq.pair x5.num (x5.den : Int)), (b3, 4, Fq.raw2 n5 a5 k5 c5 xs5 m5 r5 l5 q5 ys5), (b2, 8, Fq.raws2 n3 a3 k3 c3 xs3 m3 r3 l3 q3 ys3 n4 a4 k4 c4 xs4 m4 r4 l4 q4 ys4), (b1, 8, Fq.raws2 n1 a1 k1 c1 xs1 m1 r1 l1 q1 ys1 n2 a2 k2 c2 xs2 m2 r2 l2 q2 ys2)] w11 := E11
        rw [lay_all hL]
        simp only [putAll, dstOf, List.length_cons, List.length_nil, Nat.zero_add, Nat.reduceAdd, List.getElem?_toArray, List.getElem?_cons_zero, List.getElem?_cons_succ, Option.bind_some, Act.put, List.setIfInBounds_toArray, List.set_cons_succ, List.set_cons_zero]
        rw [e2, e3, e4, e5, e6, e7, e8]
        generalize vs 0 = u11_0
        generalize vs 1 = u11_1
        clear e2 e3 e4 e5 e6 e7 e8 hC hn E11 hL vs L nb
        go_wp2_with (fail)
        go_meet
        case rel => exact ⟨by rw [V1.out]; rfl, E⟩
    case rest =>
      clear E
      obtain ⟨rfl, E⟩ := hcut
      go_upto_region 7 with (fail)
      go_cut [71] from 16 (fun s W => s = .bool false ∧ Fr w [(b9_6, 8, Fq.ivl (greatQ a [c]).num ((greatQ a [c]).den : Int) (leastQ b [d]).num ((leastQ b [d]).den : Int)), (b6_16, 8, Fq.ivl a.num (a.den : Int) b.num (b.den : Int)), (b6_17, 8, Fq.ivl c.num (c.den : Int) d.num (d.den : Int)), (b6_18, 4, Fq.pair x5.num (x5.den : Int)), (b3, 4, Fq.raw2 n5 a5 k5 c5 xs5 m5 r5 l5 q5 ys5), (b2, 8, Fq.raws2 n3 a3 k3 c3 xs3 m3 r3 l3 q3 ys3 n4 a4 k4 c4 xs4 m4 r4 l4 q4 ys4), (b1, 8, Fq.raws2 n1 a1 k1 c1 xs1 m1 r1 l1 q1 ys1 n2 a2 k2 c2 xs2 m2 r2 l2 q2 ys2)] W)
      case first =>
        by_cases h1 : a ≤ x5
        · by_cases h2 : x5 ≤ b
          · have V1 : Hid ((decide (a ≤ x5) && decide (x5 ≤ b)) = true) := by show _ = _; simp [h1, h2]
            have T1 := hidd (cmpQ_leN.2 h1)
            have T2 := hidd (cmpQ_leN.2 h2)
            clear h1 h2
            by_cases hv : ((decide (a ≤ x5) && decide (x5 ≤ b)) && (decide (c ≤ x5) && decide (x5 ≤ d))) = true
            · have V2 : Hid (((decide (a ≤ x5) && decide (x5 ≤ b)) && (decide (c ≤ x5) && decide (x5 ≤ d))) = true) := hv
              clear hv
              refine region_fr (C := [Fq.ivl a.num (a.den : Int) b.num (b.den : Int), Fq.pair x5.num (x5.den : Int), Fq.is (.bool true), Fq.is (.pointer (some ⟨b6_16, 0, none⟩)), Fq.pair a.num (a.den : Int), Fq.pair x5.num (x5.den : Int), Fq.is (.int .i64 (cmpQ a x5)), Fq.is (.bool true), Fq.is (.bool true), Fq.pair x5.num (x5.den : Int), Fq.is (.pointer (some ⟨b6_16, 4, none⟩)), Fq.pair b.num (b.den : Int), Fq.is (.int .i64 (cmpQ x5 b)), Fq.is (.bool true), Fq.is (.bool true), Fq.is (.bool false), Fq.is (.bool false), Fq.is (.bool true), Fq.is (.bool true), Fq.is (.bool true), Fq.is (.bool false), Fq.is (.bool false), Fq.is (.bool false)]) (ks := [none, none, none, none, none, none, none]) (new := []) E rfl (by kernel_rfl) rfl rfl (fun hp => ⟨?_, ?_, ?_, ?_, ?_, ?_, ?_, ?_, ?_, ?_, ?_, ?_, ?_, ?_, ?_, ?_, ?_, ?_, ?_, ?_, ?_, ?_, ?_, trivial⟩) ?_
              · exact q_loadIvl hp (free_of rfl) trivial (List.mem_iff_getElem?.2 ⟨1, rfl⟩) (.inl rfl) rfl (sq_out rfl rfl (fun _ _ => rfl)) (fun us w hl h => h)
              · exact q_loadRat hp (free_of rfl) trivial (List.mem_iff_getElem?.2 ⟨3, rfl⟩) (.inl rfl) rfl (sq_out rfl rfl (fun _ _ => rfl)) (fun us w hl h => h)
              · exact q_call2 (F := (Fq.ivl a.num (a.den : Int) b.num (b.den : Int)).P) (G := (Fq.pair x5.num (x5.den : Int)).P) hp (free_of rfl) trivial (enq_Q_Has) (sq_in 0 rfl rfl (by simp) rfl (fun v w h => h)) (sq_in 1 rfl rfl (by simp) rfl (fun v w h => h)) (fun v v' w h h' => exQHasB h h' (rb_le Ba.out (by omega)) (rb_le Bb.out (by omega)) (rb_le Bx5.out (by omega)) V1.out)
              · exact q_addr (b := b6_16) (off := 0) (off' := 0) hp (free_of rfl) trivial (sq_out rfl rfl (fun _ _ => rfl)) (fun ρ w h => by simp [execOp, go_sem, h]) (fun _ => rfl)
              · exact q_loadRatAt (off := 0) hp (free_of rfl) trivial (List.mem_iff_getElem?.2 ⟨1, rfl⟩) (.inl rfl) (Nat.le_of_ble_eq_true rfl) (sq_in 3 rfl rfl (by simp) rfl (fun v w h => h)) (fun us w hl h => ld_ivl0 hl h)
              · exact q_loadRat hp (free_of rfl) trivial (List.mem_iff_getElem?.2 ⟨3, rfl⟩) (.inl rfl) rfl (sq_out rfl rfl (fun _ _ => rfl)) (fun us w hl h => h)
              · exact q_call2 (F := (Fq.pair a.num (a.den : Int)).P) (G := (Fq.pair x5.num (x5.den : Int)).P) hp (free_of rfl) trivial (enq_S_Cmp) (sq_in 4 rfl rfl (by simp) rfl (fun v w h => h)) (sq_in 5 rfl rfl (by simp) rfl (fun v w h => h)) (fun v v' w h h' => exSCmpQ h h' (rb_le Ba.out (by omega)) (rb_le Bx5.out (by omega)))
              · exact q_one (F := fun v _ => v = .int .i64 (cmpQ a x5)) hp (free_of rfl) trivial (sq_in 6 rfl rfl (by simp) rfl (fun v w h => h)) (fun ρ w hc h => ⟨.bool true, by simp [execOp, go_sem, h, hc, T1.out], rfl⟩)
              · exact q_move hp (free_of rfl) trivial (sq_in 7 rfl rfl (by simp) rfl (fun v w h => h))
              · exact q_loadRat hp (free_of rfl) (gq_some rfl rfl (by simp) rfl (fun v w h => h)) (List.mem_iff_getElem?.2 ⟨3, rfl⟩) (.inl rfl) rfl (sq_out rfl rfl (fun _ _ => rfl)) (fun us w hl h => h)
              · exact q_addr (b := b6_16) (off := 0) (off' := 4) hp (free_of rfl) (gq_some rfl rfl (by simp) rfl (fun v w h => h)) (sq_out rfl rfl (fun _ _ => rfl)) (fun ρ w h => by simp [execOp, go_sem, h]) (fun _ => rfl)
              · exact q_loadRatAt (off := 4) hp (free_of rfl) (gq_some rfl rfl (by simp) rfl (fun v w h => h)) (List.mem_iff_getElem?.2 ⟨1, rfl⟩) (.inl rfl) (Nat.le_of_ble_eq_true rfl) (sq_in 10 rfl rfl (by simp) rfl (fun v w h => h)) (fun us w hl h => ld_ivl1 hl h)
              · exact q_call2 (F := (Fq.pair x5.num (x5.den : Int)).P) (G := (Fq.pair b.num (b.den : Int)).P) hp (free_of rfl) (gq_some rfl rfl (by simp) rfl (fun v w h => h)) (enq_S_Cmp) (sq_in 9 rfl rfl (by simp) rfl (fun v w h => h)) (sq_in 11 rfl rfl (by simp) rfl (fun v w h => h)) (fun v v' w h h' => exSCmpQ h h' (rb_le Bx5.out (by omega)) (rb_le Bb.out (by omega)))
              · exact q_one (F := fun v _ => v = .int .i64 (cmpQ x5 b)) hp (free_of rfl) (gq_some rfl rfl (by simp) rfl (fun v w h => h)) (sq_in 12 rfl rfl (by simp) rfl (fun v w h => h)) (fun ρ w hc h => ⟨.bool true, by simp [execOp, go_sem, h, hc, T2.out], rfl⟩)
              · exact q_two (F := fun v _ => v = .bool true) (G := fun v _ => v = .bool true) hp (free_of rfl) trivial (sq_in 8 rfl rfl (by simp) rfl (fun v w h => h)) (sq_in 13 rfl rfl (by simp) rfl (fun v w h => h)) (fun ρ w hc h h' => ⟨_, by simp [execOp, go_sem, h, h'], rfl⟩)
              · exact q_two (F := fun v _ => v = .bool true) (G := fun v _ => v = .bool true) hp (free_of rfl) trivial (sq_in 2 rfl rfl (by simp) rfl (fun v w h => h)) (sq_in 14 rfl rfl (by simp) rfl (fun v w h => h)) (fun ρ w hc h h' => ⟨.bool false, by simp [execOp, go_sem, h, h'], rfl⟩)
              · exact q_move hp (free_of rfl) trivial (sq_in 15 rfl rfl (by simp) rfl (fun v w h => h))
              · exact q_move hp (free_of rfl) (gq_some rfl rfl (by simp) rfl (fun v w h => h)) (sq_out rfl rfl (fun _ _ => congrArg Value.bool V2.out))
              · exact q_move hp (free_of rfl) (gq_some rfl rfl (by simp) rfl (fun v w h => h)) (sq_in 17 rfl rfl (by simp) rfl (fun v w h => h))
              · exact q_move hp (free_of rfl) (gq_some rfl rfl (by simp) rfl (fun v w h => h)) (sq_out rfl rfl (fun _ _ => rfl))
              · exact q_one (F := fun v _ => v = .bool true) hp (free_of rfl) (gq_some rfl rfl (by simp) rfl (fun v w h => h)) (sq_in 19 rfl rfl (by simp) rfl (fun v w h => h)) (fun ρ w _ h => ⟨.bool false, by simp [execOp, go_sem, h], rfl⟩)
              · exact q_two (F := fun v _ => v = .bool true) (G := fun v _ => v = .bool false) hp (free_of rfl) (gq_some rfl rfl (by simp) rfl (fun v w h => h)) (sq_in 18 rfl rfl (by simp) rfl (fun v w h => h)) (sq_in 20 rfl rfl (by simp) rfl (fun v w h => h)) (fun ρ w hc h h' => ⟨_, by simp [execOp, go_sem, h, h'], rfl⟩)
              · exact q_two (F := fun v _ => v = .bool false) (G := fun v _ => v = .bool false) hp (free_of rfl) trivial (sq_in 16 rfl rfl (by simp) rfl (fun v w h => h)) (sq_in 21 rfl rfl (by simp) rfl (fun v w h => h)) (fun ρ w hc h h' => ⟨_, by simp [execOp, go_sem, h, h'], rfl⟩)
              intro L vs w12 nb hL hC hn E12
              have e2 : vs 2 = .bool true := hC 2 (by simp)
              have e3 : vs 3 = .pointer (some ⟨b6_16, 0, none⟩) := hC 3 (by simp)
              have e6 : vs 6 = .int .i64 (cmpQ a x5) := hC 6 (by simp)
              have e7 : vs 7 = .bool true := hC 7 (by simp)
              have e8 : vs 8 = .bool true := hC 8 (by simp)
              have e10 : vs 10 = .pointer (some ⟨b6_16, 4, none⟩) := hC 10 (by simp)
              have e12 : vs 12 = .int .i64 (cmpQ x5 b) := hC 12 (by simp)
              have e13 : vs 13 = .bool true := hC 13 (by simp)
              have e14 : vs 14 = .bool true := hC 14 (by simp)
              have e15 : vs 15 = .bool false := hC 15 (by simp)
              have e16 : vs 16 = .bool false := hC 16 (by simp)
              have e17 : vs 17 = .bool true := hC 17 (by simp)
              have e18 : vs 18 = .bool true := hC 18 (by simp)
              have e19 : vs 19 = .bool true := hC 19 (by simp)
              have e20 : vs 20 = .bool false := hC 20 (by simp)
              have e21 : vs 21 = .bool false := hC 21 (by simp)
              have e22 : vs 22 = .bool false := hC 22 (by simp)
              have E : Fr w [(b9_6, 8, Fq.ivl (greatQ a [c]).num ((greatQ a [c]).den : Int) (leastQ b [d]).num ((leastQ b [d]).den : Int)), (b6_16, 8, Fq.ivl a.num (a.den : Int) b.num (b.den : Int)), (b6_17, 8, Fq.ivl c.num (c.den : Int) d.num (d.den : Int)), (b6_18, 4, Fq.pair x5.num (x5.den : Int)), (b3, 4, Fq.raw2 n5 a5 k5 c5 xs5 m5 r5 l5 q5 ys5), (b2, 8, Fq.raws2 n3 a3 k3 c3 xs3 m3 r3 l3 q3 ys3 n4 a4 k4 c4 xs4 m4 r4 l4 q4 ys4), (b1, 8, Fq.raws2 n1 a1 k1 c1 xs1 m1 r1 l1 q1 ys1 n2 a2 k2 c2 xs2 m2 r2 l2 q2 ys2)] w12 := E12
              rw [lay_all hL]
              simp only [putAll, dstOf, List.length_cons, List.length_nil, Nat.zero_add, Nat.reduceAdd, List.getElem?_toArray, List.getElem?_cons_zero, List.getElem?_cons_succ, Option.bind_some, Act.put, List.setIfInBounds_toArray, List.set_cons_succ, List.set_cons_zero]
              rw [e2, e3, e6, e7, e8, e10, e12, e13, e14, e15, e16, e17, e18, e19, e20, e21, e22]
              generalize vs 0 = u12_0
              generalize vs 1 = u12_1
              generalize vs 4 = u12_4
              generalize vs 5 = u12_5
              generalize vs 9 = u12_9
              generalize vs 11 = u12_11
              clear e2 e3 e6 e7 e8 e10 e12 e13 e14 e15 e16 e17 e18 e19 e20 e21 e22 hC hn E12 hL vs L nb
              go_wp2_with (fail)
              go_meet
              case rel => exact ⟨rfl, E⟩
            · have V2 : Hid (((decide (a ≤ x5) && decide (x5 ≤ b)) && (decide (c ≤ x5) && decide (x5 ≤ d))) = false) := Bool.eq_false_iff.2 hv
              clear hv
              refine region_fr (C := [Fq.ivl a.num (a.den : Int) b.num (b.den : Int), Fq.pair x5.num (x5.den : Int), Fq.is (.bool true), Fq.is (.pointer (some ⟨b6_16, 0, none⟩)), Fq.pair a.num (a.den : Int), Fq.pair x5.num (x5.den : Int), Fq.is (.int .i64 (cmpQ a x5)), Fq.is (.bool true), Fq.is (.bool true), Fq.pair x5.num (x5.den : Int), Fq.is (.pointer (some ⟨b6_16, 4, none⟩)), Fq.pair b.num (b.den : Int), Fq.is (.int .i64 (cmpQ x5 b)), Fq.is (.bool true), Fq.is (.bool true), Fq.is (.bool false), Fq.is (.bool false), Fq.is (.bool false), Fq.is (.bool false), Fq.is (undef), Fq.is (undef), Fq.is (.bool false), Fq.is (.bool false)]) (ks := [none, none, none, none, none, none, none]) (new := []) E rfl (by kernel_rfl) rfl rfl (fun hp => ⟨?_, ?_, ?_, ?_, ?_, ?_, ?_, ?_, ?_, ?_, ?_, ?_, ?_, ?_, ?_, ?_, ?_, ?_, ?_, ?_, ?_, ?_, ?_, trivial⟩) ?_
              · exact q_loadIvl hp (free_of rfl) trivial (List.mem_iff_getElem?.2 ⟨1, rfl⟩) (.inl rfl) rfl (sq_out rfl rfl (fun _ _ => rfl)) (fun us w hl h => h)
              · exact q_loadRat hp (free_of rfl) trivial (List.mem_iff_getElem?.2 ⟨3, rfl⟩) (.inl rfl) rfl (sq_out rfl rfl (fun _ _ => rfl)) (fun us w hl h => h)
              · exact q_call2 (F := (Fq.ivl a.num (a.den : Int) b.num (b.den : Int)).P) (G := (Fq.pair x5.num (x5.den : Int)).P) hp (free_of rfl) trivial (enq_Q_Has) (sq_in 0 rfl rfl (by simp) rfl (fun v w h => h)) (sq_in 1 rfl rfl (by simp) rfl (fun v w h => h)) (fun v v' w h h' => exQHasB h h' (rb_le Ba.out (by omega)) (rb_le Bb.out (by omega)) (rb_le Bx5.out (by omega)) V1.out)
              · exact q_addr (b := b6_16) (off := 0) (off' := 0) hp (free_of rfl) trivial (sq_out rfl rfl (fun _ _ => rfl)) (fun ρ w h => by simp [execOp, go_sem, h]) (fun _ => rfl)
              · exact q_loadRatAt (off := 0) hp (free_of rfl) trivial (List.mem_iff_getElem?.2 ⟨1, rfl⟩) (.inl rfl) (Nat.le_of_ble_eq_true rfl) (sq_in 3 rfl rfl (by simp) rfl (fun v w h => h)) (fun us w hl h => ld_ivl0 hl h)
              · exact q_loadRat hp (free_of rfl) trivial (List.mem_iff_getElem?.2 ⟨3, rfl⟩) (.inl rfl) rfl (sq_out rfl rfl (fun _ _ => rfl)) (fun us w hl h => h)
              · exact q_call2 (F := (Fq.pair a.num (a.den : Int)).P) (G := (Fq.pair x5.num (x5.den : Int)).P) hp (free_of rfl) trivial (enq_S_Cmp) (sq_in 4 rfl rfl (by simp) rfl (fun v w h => h)) (sq_in 5 rfl rfl (by simp) rfl (fun v w h => h)) (fun v v' w h h' => exSCmpQ h h' (rb_le Ba.out (by omega)) (rb_le Bx5.out (by omega)))
              · exact q_one (F := fun v _ => v = .int .i64 (cmpQ a x5)) hp (free_of rfl) trivial (sq_in 6 rfl rfl (by simp) rfl (fun v w h => h)) (fun ρ w hc h => ⟨.bool true, by simp [execOp, go_sem, h, hc, T1.out], rfl⟩)
              · exact q_move hp (free_of rfl) trivial (sq_in 7 rfl rfl (by simp) rfl (fun v w h => h))
              · exact q_loadRat hp (free_of rfl) (gq_some rfl rfl (by simp) rfl (fun v w h => h)) (List.mem_iff_getElem?.2 ⟨3, rfl⟩) (.inl rfl) rfl (sq_out rfl rfl (fun _ _ => rfl)) (fun us w hl h => h)
              · exact q_addr (b := b6_16) (off := 0) (off' := 4) hp (free_of rfl) (gq_some rfl rfl (by simp) rfl (fun v w h => h)) (sq_out rfl rfl (fun _ _ => rfl)) (fun ρ w h => by simp [execOp, go_sem, h]) (fun _ => rfl)
              · exact q_loadRatAt (off := 4) hp (free_of rfl) (gq_some rfl rfl (by simp) rfl (fun v w h => h)) (List.mem_iff_getElem?.2 ⟨1, rfl⟩) (.inl rfl) (Nat.le_of_ble_eq_true rfl) (sq_in 10 rfl rfl (by simp) rfl (fun v w h => h)) (fun us w hl h => ld_ivl1 hl h)
              · exact q_call2 (F := (Fq.pair x5.num (x5.den : Int)).P) (G := (Fq.pair b.num (b.den : Int)).P) hp (free_of rfl) (gq_some rfl rfl (by simp) rfl (fun v w h => h)) (enq_S_Cmp) (sq_in 9 rfl rfl (by simp) rfl (fun v w h => h)) (sq_in 11 rfl rfl (by simp) rfl (fun v w h => h)) (fun v v' w h h' => exSCmpQ h h' (rb_le Bx5.out (by omega)) (rb_le Bb.out (by omega)))
              · exact q_one (F := fun v _ => v = .int .i64 (cmpQ x5 b)) hp (free_of rfl) (gq_some rfl rfl (by simp) rfl (fun v w h => h)) (sq_in 12 rfl rfl (by simp) rfl (fun v w h => h)) (fun ρ w hc h => ⟨.bool true, by simp [execOp, go_sem, h, hc, T2.out], rfl⟩)
              · exact q_two (F := fun v _ => v = .bool true) (G := fun v _ => v = .bool true) hp (free_of rfl) trivial (sq_in 8 rfl rfl (by simp) rfl (fun v w h => h)) (sq_in 13 rfl rfl (by simp) rfl (fun v w h => h)) (fun ρ w hc h h' => ⟨_, by simp [execOp, go_sem, h, h'], rfl⟩)
              · exact q_two (F := fun v _ => v = .bool true) (G := fun v _ => v = .bool true) hp (free_of rfl) trivial (sq_in 2 rfl rfl (by simp) rfl (fun v w h => h)) (sq_in 14 rfl rfl (by simp) rfl (fun v w h => h)) (fun ρ w hc h h' => ⟨.bool false, by simp [execOp, go_sem, h, h'], rfl⟩)
              · exact q_move hp (free_of rfl) trivial (sq_in 15 rfl rfl (by simp) rfl (fun v w h => h))
              · exact q_move hp (free_of rfl) (gq_some rfl rfl (by simp) rfl (fun v w h => h)) (sq_out rfl rfl (fun _ _ => congrArg Value.bool V2.out))
              · exact q_move hp (free_of rfl) (gq_some rfl rfl (by simp) rfl (fun v w h => h)) (sq_in 17 rfl rfl (by simp) rfl (fun v w h => h))
              · exact q_skip hp (free_of rfl) rfl (gq_some rfl rfl (by simp) rfl (fun v w h => h)) (fun _ => rfl)
              · exact q_skip hp (free_of rfl) rfl (gq_some rfl rfl (by simp) rfl (fun v w h => h)) (fun _ => rfl)
              · exact q_two (F := fun v _ => v = .bool false) (G := fun v _ => v = .bool false) hp (free_of rfl) (gq_some rfl rfl (by simp) rfl (fun v w h => h)) (sq_in 18 rfl rfl (by simp) rfl (fun v w h => h)) (sq_const (fun _ => rfl)) (fun ρ w hc h h' => ⟨_, by simp [execOp, go_sem, h, h'], rfl⟩)
              · exact q_two (F := fun v _ => v = .bool false) (G := fun v _ => v = .bool false) hp (free_of rfl) trivial (sq_in 16 rfl rfl (by simp) rfl (fun v w h => h)) (sq_in 21 rfl rfl (by simp) rfl (fun v w h => h)) (fun ρ w hc h h' => ⟨_, by simp [execOp, go_sem, h, h'], rfl⟩)
              intro L vs w13 nb hL hC hn E13
              have e2 : vs 2 = .bool true := hC 2 (by simp)
              have e3 : vs 3 = .pointer (some ⟨b6_16, 0, none⟩) := hC 3 (by simp)
              have e6 : vs 6 = .int .i64 (cmpQ a x5) := hC 6 (by simp)
              have e7 : vs 7 = .bool true := hC 7 (by simp)
              have e8 : vs 8 = .bool true := hC 8 (by simp)
              have e10 : vs 10 = .pointer (some ⟨b6_16, 4, none⟩) := hC 10 (by simp)
              have e12 : vs 12 = .int .i64 (cmpQ x5 b) := hC 12 (by simp)
              have e13 : vs 13 = .bool true := hC 13 (by simp)
              have e14 : vs 14 = .bool true := hC 14 (by simp)
              have e15 : vs 15 = .bool false := hC 15 (by simp)
              have e16 : vs 16 = .bool false := hC 16 (by simp)
              have e17 : vs 17 = .bool false := hC 17 (by simp)
              have e18 : vs 18 = .bool false := hC 18 (by simp)
              have e19 : vs 19 = undef := hC 19 (by simp)
              have e20 : vs 20 = undef := hC 20 (by simp)
              have e21 : vs 21 = .bool false := hC 21 (by simp)
              have e22 : vs 22 = .bool false := hC 22 (by simp)
              have E : Fr w [(b9_6, 8, Fq.ivl (greatQ a [c]).num ((greatQ a [c]).den : Int) (leastQ b [d]).num ((leastQ b [d]).den : Int)), (b6_16, 8, Fq.ivl a.num (a.den : Int) b.num (b.den : Int)), (b6_17, 8, Fq.ivl c.num (c.den : Int) d.num (d.den : Int)), (b6_18, 4, Fq.pair x5.num (x5.den : Int)), (b3, 4, Fq.raw2 n5 a5 k5 c5 xs5 m5 r5 l5 q5 ys5), (b2, 8, Fq.raws2 n3 a3 k3 c3 xs3 m3 r3 l3 q3 ys3 n4 a4 k4 c4 xs4 m4 r4 l4 q4 ys4), (b1, 8, Fq.raws2 n1 a1 k1 c1 xs1 m1 r1 l1 q1 ys1 n2 a2 k2 c2 xs2 m2 r2 l2 q2 ys2)] w13 := E13
              rw [lay_all hL]
              simp only [putAll, dstOf, List.length_cons, List.length_nil, Nat.zero_add, Nat.reduceAdd, List.getElem?_toArray, List.getElem?_cons_zero, List.getElem?_cons_succ, Option.bind_some, Act.put, List.setIfInBounds_toArray, List.set_cons_succ, List.set_cons_zero]
              rw [e2, e3, e6, e7, e8, e10, e12, e13, e14, e15, e16, e17, e18, e19, e20, e21, e22]
              generalize vs 0 = u13_0
              generalize vs 1 = u13_1
              generalize vs 4 = u13_4
              generalize vs 5 = u13_5
              generalize vs 9 = u13_9
              generalize vs 11 = u13_11
              clear e2 e3 e6 e7 e8 e10 e12 e13 e14 e15 e16 e17 e18 e19 e20 e21 e22 hC hn E13 hL vs L nb
              go_wp2_with (fail)
              go_meet
              case rel => exact ⟨rfl, E⟩
          · have V1 : Hid ((decide (a ≤ x5) && decide (x5 ≤ b)) = false) := by show _ = _; simp [h1, h2]
            have T1 := hidd (cmpQ_leN.2 h1)
            have T2 := hidd (mt cmpQ_leN.1 h2)
            clear h1 h2
            have V2 : Hid (((decide (a ≤ x5) && decide (x5 ≤ b)) && (decide (c ≤ x5) && decide (x5 ≤ d))) = false) := by show _ = _; rw [V1.out]; rfl
            refine region_fr (C := [Fq.ivl a.num (a.den : Int) b.num (b.den : Int), Fq.pair x5.num (x5.den : Int), Fq.is (.bool false), Fq.is (.pointer (some ⟨b6_16, 0, none⟩)), Fq.pair a.num (a.den : Int), Fq.pair x5.num (x5.den : Int), Fq.is (.int .i64 (cmpQ a x5)), Fq.is (.bool true), Fq.is (.bool true), Fq.pair x5.num (x5.den : Int), Fq.is (.pointer (some ⟨b6_16, 4, none⟩)), Fq.pair b.num (b.den : Int), Fq.is (.int .i64 (cmpQ x5 b)), Fq.is (.bool false), Fq.is (.bool false), Fq.is (.bool false), Fq.is (.bool false), Fq.is (.bool false), Fq.is (.bool false), Fq.is (undef), Fq.is (undef), Fq.is (.bool false), Fq.is (.bool false)]) (ks := [none, none, none, none, none, none, none]) (new := []) E rfl (by kernel_rfl) rfl rfl (fun hp => ⟨?_, ?_, ?_, ?_, ?_, ?_, ?_, ?_, ?_, ?_, ?_, ?_, ?_, ?_, ?_, ?_, ?_, ?_, ?_, ?_, ?_, ?_, ?_, trivial⟩) ?_
            · exact q_loadIvl hp (free_of rfl) trivial (List.mem_iff_getElem?.2 ⟨1, rfl⟩) (.inl rfl) rfl (sq_out rfl rfl (fun _ _ => rfl)) (fun us w hl h => h)
            · exact q_loadRat hp (free_of rfl) trivial (List.mem_iff_getElem?.2 ⟨3, rfl⟩) (.inl rfl) rfl (sq_out rfl rfl (fun _ _ => rfl)) (fun us w hl h => h)
            · exact q_call2 (F := (Fq.ivl a.num (a.den : Int) b.num (b.den : Int)).P) (G := (Fq.pair x5.num (x5.den : Int)).P) hp (free_of rfl) trivial (enq_Q_Has) (sq_in 0 rfl rfl (by simp) rfl (fun v w h => h)) (sq_in 1 rfl rfl (by simp) rfl (fun v w h => h)) (fun v v' w h h' => exQHasB h h' (rb_le Ba.out (by omega)) (rb_le Bb.out (by omega)) (rb_le Bx5.out (by omega)) V1.out)
            · exact q_addr (b := b6_16) (off := 0) (off' := 0) hp (free_of rfl) trivial (sq_out rfl rfl (fun _ _ => rfl)) (fun ρ w h => by simp [execOp, go_sem, h]) (fun _ => rfl)
            · exact q_loadRatAt (off := 0) hp (free_of rfl) trivial (List.mem_iff_getElem?.2 ⟨1, rfl⟩) (.inl rfl) (Nat.le_of_ble_eq_true rfl) (sq_in 3 rfl rfl (by simp) rfl (fun v w h => h)) (fun us w hl h => ld_ivl0 hl h)
            · exact q_loadRat hp (free_of rfl) trivial (List.mem_iff_getElem?.2 ⟨3, rfl⟩) (.inl rfl) rfl (sq_out rfl rfl (fun _ _ => rfl)) (fun us w hl h => h)
            · exact q_call2 (F := (Fq.pair a.num (a.den : Int)).P) (G := (Fq.pair x5.num (x5.den : Int)).P) hp (free_of rfl) trivial (enq_S_Cmp) (sq_in 4 rfl rfl (by simp) rfl (fun v w h => h)) (sq_in 5 rfl rfl (by simp) rfl (fun v w h => h)) (fun v v' w h h' => exSCmpQ h h' (rb_le Ba.out (by omega)) (rb_le Bx5.out (by omega)))
            · exact q_one (F := fun v _ => v = .int .i64 (cmpQ a x5)) hp (free_of rfl) trivial (sq_in 6 rfl rfl (by simp) rfl (fun v w h => h)) (fun ρ w hc h => ⟨.bool true, by simp [execOp, go_sem, h, hc, T1.out], rfl⟩)
            · exact q_move hp (free_of rfl) trivial (sq_in 7 rfl rfl (by simp) rfl (fun v w h => h))
            · exact q_loadRat hp (free_of rfl) (gq_some rfl rfl (by simp) rfl (fun v w h => h)) (List.mem_iff_getElem?.2 ⟨3, rfl⟩) (.inl rfl) rfl (sq_out rfl rfl (fun _ _ => rfl)) (fun us w hl h => h)
            · exact q_addr (b := b6_16) (off := 0) (off' := 4) hp (free_of rfl) (gq_some rfl rfl (by simp) rfl (fun v w h => h)) (sq_out rfl rfl (fun _ _ => rfl)) (fun ρ w h => by simp [execOp, go_sem, h]) (fun _ => rfl)
            · exact q_loadRatAt (off := 4) hp (free_of rfl) (gq_some rfl rfl (by simp) rfl (fun v w h => h)) (List.mem_iff_getElem?.2 ⟨1, rfl⟩) (.inl rfl) (Nat.le_of_ble_eq_true rfl) (sq_in 10 rfl rfl (by simp) rfl (fun v w h => h)) (fun us w hl h => ld_ivl1 hl h)
            · exact q_call2 (F := (Fq.pair x5.num (x5.den : Int)).P) (G := (Fq.pair b.num (b.den : Int)).P) hp (free_of rfl) (gq_some rfl rfl (by simp) rfl (fun v w h => h)) (enq_S_Cmp) (sq_in 9 rfl rfl (by simp) rfl (fun v w h => h)) (sq_in 11 rfl rfl (by simp) rfl (fun v w h => h)) (fun v v' w h h' => exSCmpQ h h' (rb_le Bx5.out (by omega)) (rb_le Bb.out (by omega)))
            · exact q_one (F := fun v _ => v = .int .i64 (cmpQ x5 b)) hp (free_of rfl) (gq_some rfl rfl (by simp) rfl (fun v w h => h)) (sq_in 12 rfl rfl (by simp) rfl (fun v w h => h)) (fun ρ w hc h => ⟨.bool false, by simp [execOp, go_sem, h, hc, T2.out], rfl⟩)
            · exact q_two (F := fun v _ => v = .bool true) (G := fun v _ => v = .bool false) hp (free_of rfl) trivial (sq_in 8 rfl rfl (by simp) rfl (fun v w h => h)) (sq_in 13 rfl rfl (by simp) rfl (fun v w h => h)) (fun ρ w hc h h' => ⟨_, by simp [execOp, go_sem, h, h'], rfl⟩)
            · exact q_two (F := fun v _ => v = .bool false) (G := fun v _ => v = .bool false) hp (free_of rfl) trivial (sq_in 2 rfl rfl (by simp) rfl (fun v w h => h)) (sq_in 14 rfl rfl (by simp) rfl (fun v w h => h)) (fun ρ w hc h h' => ⟨.bool false, by simp [execOp, go_sem, h, h'], rfl⟩)
            · exact q_move hp (free_of rfl) trivial (sq_in 15 rfl rfl (by simp) rfl (fun v w h => h))
            · exact q_move hp (free_of rfl) (gq_some rfl rfl (by simp) rfl (fun v w h => h)) (sq_out rfl rfl (fun _ _ => congrArg Value.bool V2.out))
            · exact q_move hp (free_of rfl) (gq_some rfl rfl (by simp) rfl (fun v w h => h)) (sq_in 17 rfl rfl (by simp) rfl (fun v w h => h))
            · exact q_skip hp (free_of rfl) rfl (gq_some rfl rfl (by simp) rfl (fun v w h => h)) (fun _ => rfl)
            · exact q_skip hp (free_of rfl) rfl (gq_some rfl rfl (by simp) rfl (fun v w h => h)) (fun _ => rfl)
            · exact q_two (F := fun v _ => v = .bool false) (G := fun v _ => v = .bool false) hp (free_of rfl) (gq_some rfl rfl (by simp) rfl (fun v w h => h)) (sq_in 18 rfl rfl (by simp) rfl (fun v w h => h)) (sq_const (fun _ => rfl)) (fun ρ w hc h h' => ⟨_, by simp [execOp, go_sem, h, h'], rfl⟩)
            · exact q_two (F := fun v _ => v = .bool false) (G := fun v _ => v = .bool false) hp (free_of rfl) trivial (sq_in 16 rfl rfl (by simp) rfl (fun v w h => h)) (sq_in 21 rfl rfl (by simp) rfl (fun v w h => h)) (fun ρ w hc h h' => ⟨_, by simp [execOp, go_sem, h, h'], rfl⟩)
            intro L vs w14 nb hL hC hn E14
            have e2 : vs 2 = .bool false := hC 2 (by simp)
            have e3 : vs 3 = .pointer (some ⟨b6_16, 0, none⟩) := hC 3 (by simp)
            have e6 : vs 6 = .int .i64 (cmpQ a x5) := hC 6 (by simp)
            have e7 : vs 7 = .bool true := hC 7 (by simp)
            have e8 : vs 8 = .bool true := hC 8 (by simp)
            have e10 : vs 10 = .pointer (some ⟨b6_16, 4, none⟩) := hC 10 (by simp)
            have e12 : vs 12 = .int .i64 (cmpQ x5 b) := hC 12 (by simp)
            have e13 : vs 13 = .bool false := hC 13 (by simp)
            have e14 : vs 14 = .bool false := hC 14 (by simp)
            have e15 : vs 15 = .bool false := hC 15 (by simp)
            have e16 : vs 16 = .bool false := hC 16 (by simp)
            have e17 : vs 17 = .bool false := hC 17 (by simp)
            have e18 : vs 18 = .bool false := hC 18 (by simp)
            have e19 : vs 19 = undef := hC 19 (by simp)
            have e20 : vs 20 = undef := hC 20 (by simp)
            have e21 : vs 21 = .bool false := hC 21 (by simp)
            have e22 : vs 22 = .bool false := hC 22 (by simp)
            have E : Fr w [(b9_6, 8, Fq.ivl (greatQ a [c]).num ((greatQ a [c]).den : Int) (leastQ b [d]).num ((leastQ b [d]).den : Int)), (b6_16, 8, Fq.ivl a.num (a.den : Int) b.num (b.den : Int)), (b6_17, 8, Fq.ivl c.num (c.den : Int) d.num (d.den : Int)), (b6_18, 4, Fq.pair x5.num (x5.den : Int)), (b3, 4, Fq.raw2 n5 a5 k5 c5 xs5 m5 r5 l5 q5 ys5), (b2, 8, Fq.raws2 n3 a3 k3 c3 xs3 m3 r3 l3 q3 ys3 n4 a4 k4 c4 xs4 m4 r4 l4 q4 ys4), (b1, 8, Fq.raws2 n1 a1 k1 c1 xs1 m1 r1 l1 q1 ys1 n2 a2 k2 c2 xs2 m2 r2 l2 q2 ys2)] w14 := E14
            rw [lay_all hL]
            simp only [putAll, dstOf, List.length_cons, List.length_nil, Nat.zero_add, Nat.reduceAdd, List.getElem?_toArray, List.getElem?_cons_zero, List.getElem?_cons_succ, Option.bind_some, Act.put, List.setIfInBounds_toArray, List.set_cons_succ, List.set_cons_zero]
            rw [e2, e3, e6, e7, e8, e10, e12, e13, e14, e15, e16, e17, e18, e19, e20, e21, e22]
            generalize vs 0 = u14_0
            generalize vs 1 = u14_1
            generalize vs 4 = u14_4
            generalize vs 5 = u14_5
            generalize vs 9 = u14_9
            generalize vs 11 = u14_11
            clear e2 e3 e6 e7 e8 e10 e12 e13 e14 e15 e16 e17 e18 e19 e20 e21 e22 hC hn E14 hL vs L nb
            go_wp2_with (fail)
            go_meet
            case rel => exact ⟨rfl, E⟩
        · have V1 : Hid ((decide (a ≤ x5) && decide (x5 ≤ b)) = false) := by show _ = _; simp [h1]
          have T1 := hidd (mt cmpQ_leN.1 h1)
          clear h1
          have V2 : Hid (((decide (a ≤ x5) && decide (x5 ≤ b)) && (decide (c ≤ x5) && decide (x5 ≤ d))) = false) := by show _ = _; rw [V1.out]; rfl
          refine region_fr (C := [Fq.ivl a.num (a.den : Int) b.num (b.den : Int), Fq.pair x5.num (x5.den : Int), Fq.is (.bool false), Fq.is (.pointer (some ⟨b6_16, 0, none⟩)), Fq.pair a.num (a.den : Int), Fq.pair x5.num (x5.den : Int), Fq.is (.int .i64 (cmpQ a x5)), Fq.is (.bool false), Fq.is (.bool false), Fq.is (undef), Fq.is (undef), Fq.is (undef), Fq.is (undef), Fq.is (undef), Fq.is (.bool false), Fq.is (.bool false), Fq.is (.bool false), Fq.is (.bool false), Fq.is (.bool false), Fq.is (undef), Fq.is (undef), Fq.is (.bool false), Fq.is (.bool false)]) (ks := [none, none, none, none, none, none, none]) (new := []) E rfl (by kernel_rfl) rfl rfl (fun hp => ⟨?_, ?_, ?_, ?_, ?_, ?_, ?_, ?_, ?_, ?_, ?_, ?_, ?_, ?_, ?_, ?_, ?_, ?_, ?_, ?_, ?_, ?_, ?_, trivial⟩) ?_
          · exact q_loadIvl hp (free_of rfl) trivial (List.mem_iff_getElem?.2 ⟨1, rfl⟩) (.inl rfl) rfl (sq_out rfl rfl (fun _ _ => rfl)) (fun us w hl h => h)
          · exact q_loadRat hp (free_of rfl) trivial (List.mem_iff_getElem?.2 ⟨3, rfl⟩) (.inl rfl) rfl (sq_out rfl rfl (fun _ _ => rfl)) (fun us w hl h => h)
          · exact q_call2 (F := (Fq.ivl a.num (a.den : Int) b.num (b.den : Int)).P) (G := (Fq.pair x5.num (x5.den : Int)).P) hp (free_of rfl) trivial (enq_Q_Has) (sq_in 0 rfl rfl (by simp) rfl (fun v w h => h)) (sq_in 1 rfl rfl (by simp) rfl (fun v w h => h)) (fun v v' w h h' => exQHasB h h' (rb_le Ba.out (by omega)) (rb_le Bb.out (by omega)) (rb_le Bx5.out (by omega)) V1.out)
          · exact q_addr (b := b6_16) (off := 0) (off' := 0) hp (free_of rfl) trivial (sq_out rfl rfl (fun _ _ => rfl)) (fun ρ w h => by simp [execOp, go_sem, h]) (fun _ => rfl)
          · exact q_loadRatAt (off := 0) hp (free_of rfl) trivial (List.mem_iff_getElem?.2 ⟨1, rfl⟩) (.inl rfl) (Nat.le_of_ble_eq_true rfl) (sq_in 3 rfl rfl (by simp) rfl (fun v w h => h)) (fun us w hl h => ld_ivl0 hl h)
          · exact q_loadRat hp (free_of rfl) trivial (List.mem_iff_getElem?.2 ⟨3, rfl⟩) (.inl rfl) rfl (sq_out rfl rfl (fun _ _ => rfl)) (fun us w hl h => h)
          · exact q_call2 (F := (Fq.pair a.num (a.den : Int)).P) (G := (Fq.pair x5.num (x5.den : Int)).P) hp (free_of rfl) trivial (enq_S_Cmp) (sq_in 4 rfl rfl (by simp) rfl (fun v w h => h)) (sq_in 5 rfl rfl (by simp) rfl (fun v w h => h)) (fun v v' w h h' => exSCmpQ h h' (rb_le Ba.out (by omega)) (rb_le Bx5.out (by omega)))
          · exact q_one (F := fun v _ => v = .int .i64 (cmpQ a x5)) hp (free_of rfl) trivial (sq_in 6 rfl rfl (by simp) rfl (fun v w h => h)) (fun ρ w hc h => ⟨.bool false, by simp [execOp, go_sem, h, hc, T1.out], rfl⟩)
          · exact q_move hp (free_of rfl) trivial (sq_in 7 rfl rfl (by simp) rfl (fun v w h => h))
          · exact q_skip hp (free_of rfl) rfl (gq_some rfl rfl (by simp) rfl (fun v w h => h)) (fun _ => rfl)
          · exact q_skip hp (free_of rfl) rfl (gq_some rfl rfl (by simp) rfl (fun v w h => h)) (fun _ => rfl)
          · exact q_skip hp (free_of rfl) rfl (gq_some rfl rfl (by simp) rfl (fun v w h => h)) (fun _ => rfl)
          · exact q_skip hp (free_of rfl) rfl (gq_some rfl rfl (by simp) rfl (fun v w h => h)) (fun _ => rfl)
          · exact q_skip hp (free_of rfl) rfl (gq_some rfl rfl (by simp) rfl (fun v w h => h)) (fun _ => rfl)
          · exact q_two (F := fun v _ => v = .bool false) (G := fun v _ => v = .bool false) hp (free_of rfl) trivial (sq_in 8 rfl rfl (by simp) rfl (fun v w h => h)) (sq_const (fun _ => rfl)) (fun ρ w hc h h' => ⟨_, by simp [execOp, go_sem, h, h'], rfl⟩)
          · exact q_two (F := fun v _ => v = .bool false) (G := fun v _ => v = .bool false) hp (free_of rfl) trivial (sq_in 2 rfl rfl (by simp) rfl (fun v w h => h)) (sq_in 14 rfl rfl (by simp) rfl (fun v w h => h)) (fun ρ w hc h h' => ⟨.bool false, by simp [execOp, go_sem, h, h'], rfl⟩)
          · exact q_move hp (free_of rfl) trivial (sq_in 15 rfl rfl (by simp) rfl (fun v w h => h))
          · exact q_move hp (free_of rfl) (gq_some rfl rfl (by simp) rfl (fun v w h => h)) (sq_out rfl rfl (fun _ _ => congrArg Value.bool V2.out))
          · exact q_move hp (free_of rfl) (gq_some rfl rfl (by simp) rfl (fun v w h => h)) (sq_in 17 rfl rfl (by simp) rfl (fun v w h => h))
          · exact q_skip hp (free_of rfl) rfl (gq_some rfl rfl (by simp) rfl (fun v w h => h)) (fun _ => rfl)
          · exact q_skip hp (free_of rfl) rfl (gq_some rfl rfl (by simp) rfl (fun v w h => h)) (fun _ => rfl)
          · exact q_two (F := fun v _ => v = .bool false) (G := fun v _ => v = .bool false) hp (free_of rfl) (gq_some rfl rfl (by simp) rfl (fun v w h => h)) (sq_in 18 rfl rfl (by simp) rfl (fun v w h => h)) (sq_const (fun _ => rfl)) (fun ρ w hc h h' => ⟨_, by simp [execOp, go_sem, h, h'], rfl⟩)
          · exact q_two (F := fun v _ => v = .bool false) (G := fun v _ => v = .bool false) hp (free_of rfl) trivial (sq_in 16 rfl rfl (by simp) rfl (fun v w h => h)) (sq_in 21 rfl rfl (by simp) rfl (fun v w h => h)) (fun ρ w hc h h' => ⟨_, by simp [execOp, go_sem, h, h'], rfl⟩)
          intro L vs w15 nb hL hC hn E15
          have e2 : vs 2 = .bool false := hC 2 (by simp)
          have e3 : vs 3 = .pointer (some ⟨b6_16, 0, none⟩) := hC 3 (by simp)
          have e6 : vs 6 = .int .i64 (cmpQ a x5) := hC 6 (by simp)
          have e7 : vs 7 = .bool false := hC 7 (by simp)
          have e8 : vs 8 = .bool false := hC 8 (by simp)
          have e9 : vs 9 = undef := hC 9 (by simp)
          have e10 : vs 10 = undef := hC 10 (by simp)
          have e11 : vs 11 = undef := hC 11 (by simp)
          have e12 : vs 12 = undef := hC 12 (by simp)
          have e13 : vs 13 = undef := hC 13 (by simp)
          have e14 : vs 14 = .bool false := hC 14 (by simp)
          have e15 : vs 15 = .bool false := hC 15 (by simp)
          have e16 : vs 16 = .bool false := hC 16 (by simp)
          have e17 : vs 17 = .bool false := hC 17 (by simp)
          have e18 : vs 18 = .bool false := hC 18 (by simp)
          have e19 : vs 19 = undef := hC 19 (by simp)
          have e20 : vs 20 = undef := hC 20 (by simp)
          have e21 : vs 21 = .bool false := hC 21 (by simp)
          have e22 : vs 22 = .bool false := hC 22 (by simp)
          have E : Fr w [(b9_6, 8, Fq.ivl (greatQ a [c]).num ((greatQ a [c]).den : Int) (leastQ b [d]).num ((leastQ b [d]).den : Int)), (b6_16, 8, Fq.ivl a.num (a.den : Int) b.num (b.den : Int)), (b6_17, 8, Fq.ivl c.num (c.den : Int) d.num (d.den : Int)), (b6_18, 4, Fq.pair x5.num (x5.den : Int)), (b3, 4, Fq.raw2 n5 a5 k5 c5 xs5 m5 r5 l5 q5 ys5), (b2, 8, Fq.raws2 n3 a3 k3 c3 xs3 m3 r3 l3 q3 ys3 n4 a4 k4 c4 xs4 m4 r4 l4 q4 ys4), (b1, 8, Fq.raws2 n1 a1 k1 c1 xs1 m1 r1 l1 q1 ys1 n2 a2 k2 c2 xs2 m2 r2 l2 q2 ys2)] w15 := E15
          rw [lay_all hL]
          simp only [putAll, dstOf, List.length_cons, List.length_nil, Nat.zero_add, Nat.reduceAdd, List.getElem?_toArray, List.getElem?_cons_zero, List.getElem?_cons_succ, Option.bind_some, Act.put, List.setIfInBounds_toArray, List.set_cons_succ, List.set_cons_zero]
          rw [e2, e3, e6, e7, e8, e9, e10, e11, e12, e13, e14, e15, e16, e17, e18, e19, e20, e21, e22]
          generalize vs 0 = u15_0
          generalize vs 1 = u15_1
          generalize vs 4 = u15_4
          generalize vs 5 = u15_5
          clear e2 e3 e6 e7 e8 e9 e10 e11 e12 e13 e14 e15 e16 e17 e18 e19 e20 e21 e22 hC hn E15 hL vs L nb
          go_wp2_with (fail)
          go_meet
          case rel => exact ⟨rfl, E⟩
      case rest =>
        clear E
        obtain ⟨rfl, E⟩ := hcut
        go_upto_region 9 with (fail)
        go_cut [14] from 16 (fun s W => s = .bool false ∧ Fr w [(b9_6, 8, Fq.ivl (greatQ a [c]).num ((greatQ a [c]).den : Int) (leastQ b [d]).num ((leastQ b [d]).den : Int)), (b6_16, 8, Fq.ivl a.num (a.den : Int) b.num (b.den : Int)), (b6_17, 8, Fq.ivl c.num (c.den : Int) d.num (d.den : Int)), (b6_18, 4, Fq.pair x5.num (x5.den : Int)), (b3, 4, Fq.raw2 n5 a5 k5 c5 xs5 m5 r5 l5 q5 ys5), (b2, 8, Fq.raws2 n3 a3 k3 c3 xs3 m3 r3 l3 q3 ys3 n4 a4 k4 c4 xs4 m4 r4 l4 q4 ys4), (b1, 8, Fq.raws2 n1 a1 k1 c1 xs1 m1 r1 l1 q1 ys1 n2 a2 k2 c2 xs2 m2 r2 l2 q2 ys2)] W)
        case first =>
          have T1 : Hid (¬ cmpQ b c < 0) := mt cmpQ_lt.1 (Rat.not_lt.2 ((meet_iff Oa.out Oc.out).1 HM.out).1)
          have T2 : Hid (¬ cmpQ d a < 0) := mt cmpQ_lt.1 (Rat.not_lt.2 ((meet_iff Oa.out Oc.out).1 HM.out).2)
          refine region_fr (C := [Fq.is (.pointer (some ⟨b6_16, 4, none⟩)), Fq.pair b.num (b.den : Int), Fq.is (.pointer (some ⟨b6_17, 0, none⟩)), Fq.pair c.num (c.den : Int), Fq.is (.int .i64 (cmpQ b c)), Fq.is (.bool false), Fq.is (.bool false), Fq.is (.pointer (some ⟨b6_17, 4, none⟩)), Fq.pair d.num (d.den : Int), Fq.is (.pointer (some ⟨b6_16, 0, none⟩)), Fq.pair a.num (a.den : Int), Fq.is (.int .i64 (cmpQ d a)), Fq.is (.bool false), Fq.is (.bool false), Fq.is (.bool false)]) (ks := [none, none, none, none, none, none, none]) (new := []) E rfl (by kernel_rfl) rfl rfl (fun hp => ⟨?_, ?_, ?_, ?_, ?_, ?_, ?_, ?_, ?_, ?_, ?_, ?_, ?_, ?_, ?_, trivial⟩) ?_
          · exact q_addr (b := b6_16) (off := 0) (off' := 4) hp (free_of rfl) trivial (sq_out rfl rfl (fun _ _ => rfl)) (fun ρ w h => by simp [execOp, go_sem, h]) (fun _ => rfl)
          · exact q_loadRatAt (off := 4) hp (free_of rfl) trivial (List.mem_iff_getElem?.2 ⟨1, rfl⟩) (.inl rfl) (Nat.le_of_ble_eq_true rfl) (sq_in 0 rfl rfl (by simp) rfl (fun v w h => h)) (fun us w hl h => ld_ivl1 hl h)
          · exact q_addr (b := b6_17) (off := 0) (off' := 0) hp (free_of rfl) trivial (sq_out rfl rfl (fun _ _ => rfl)) (fun ρ w h => by simp [execOp, go_sem, h]) (fun _ => rfl)
          · exact q_loadRatAt (off := 0) hp (free_of rfl) trivial (List.mem_iff_getElem?.2 ⟨2, rfl⟩) (.inl rfl) (Nat.le_of_ble_eq_true rfl) (sq_in 2 rfl rfl (by simp) rfl (fun v w h => h)) (fun us w hl h => ld_ivl0 hl h)
          · exact q_call2 (F := (Fq.pair b.num (b.den : Int)).P) (G := (Fq.pair c.num (c.den : Int)).P) hp (free_of rfl) trivial (enq_S_Cmp) (sq_in 1 rfl rfl (by simp) rfl (fun v w h => h)) (sq_in 3 rfl rfl (by simp) rfl (fun v w h => h)) (fun v v' w h h' => exSCmpQ h h' (rb_le Bb.out (by omega)) (rb_le Bc.out (by omega)))
          · exact q_one (F := fun v _ => v = .int .i64 (cmpQ b c)) hp (free_of rfl) trivial (sq_in 4 rfl rfl (by simp) rfl (fun v w h => h)) (fun ρ w hc h => ⟨.bool false, by simp [execOp, go_sem, h, hc, T1.out], rfl⟩)
          · exact q_move hp (free_of rfl) trivial (sq_in 5 rfl rfl (by simp) rfl (fun v w h => h))
          · exact q_addr (b := b6_17) (off := 0) (off' := 4) hp (free_of rfl) (gq_some rfl rfl (by simp) rfl (fun v w h => h)) (sq_out rfl rfl (fun _ _ => rfl)) (fun ρ w h => by simp [execOp, go_sem, h]) (fun _ => rfl)
          · exact q_loadRatAt (off := 4) hp (free_of rfl) (gq_some rfl rfl (by simp) rfl (fun v w h => h)) (List.mem_iff_getElem?.2 ⟨2, rfl⟩) (.inl rfl) (Nat.le_of_ble_eq_true rfl) (sq_in 7 rfl rfl (by simp) rfl (fun v w h => h)) (fun us w hl h => ld_ivl1 hl h)
          · exact q_addr (b := b6_16) (off := 0) (off' := 0) hp (free_of rfl) (gq_some rfl rfl (by simp) rfl (fun v w h => h)) (sq_out rfl rfl (fun _ _ => rfl)) (fun ρ w h => by simp [execOp, go_sem, h]) (fun _ => rfl)
          · exact q_loadRatAt (off := 0) hp (free_of rfl) (gq_some rfl rfl (by simp) rfl (fun v w h => h)) (List.mem_iff_getElem?.2 ⟨1, rfl⟩) (.inl rfl) (Nat.le_of_ble_eq_true rfl) (sq_in 9 rfl rfl (by simp) rfl (fun v w h => h)) (fun us w hl h => ld_ivl0 hl h)
          · exact q_call2 (F := (Fq.pair d.num (d.den : Int)).P) (G := (Fq.pair a.num (a.den : Int)).P) hp (free_of rfl) (gq_some rfl rfl (by simp) rfl (fun v w h => h)) (enq_S_Cmp) (sq_in 8 rfl rfl (by simp) rfl (fun v w h => h)) (sq_in 10 rfl rfl (by simp) rfl (fun v w h => h)) (fun v v' w h h' => exSCmpQ h h' (rb_le Bd.out (by omega)) (rb_le Ba.out (by omega)))
          · exact q_one (F := fun v _ => v = .int .i64 (cmpQ d a)) hp (free_of rfl) (gq_some rfl rfl (by simp) rfl (fun v w h => h)) (sq_in 11 rfl rfl (by simp) rfl (fun v w h => h)) (fun ρ w hc h => ⟨.bool false, by simp [execOp, go_sem, h, hc, T2.out], rfl⟩)
          · exact q_two (F := fun v _ => v = .bool false) (G := fun v _ => v = .bool false) hp (free_of rfl) trivial (sq_in 6 rfl rfl (by simp) rfl (fun v w h => h)) (sq_in 12 rfl rfl (by simp) rfl (fun v w h => h)) (fun ρ w hc h h' => ⟨_, by simp [execOp, go_sem, h, h'], rfl⟩)
          · exact q_assign hp (free_of rfl) trivial (sq_in 13 rfl rfl (by simp) rfl (fun v w h => h))
          intro L vs w16 nb hL hC hn E16
          have e0 : vs 0 = .pointer (some ⟨b6_16, 4, none⟩) := hC 0 (by simp)
          have e2 : vs 2 = .pointer (some ⟨b6_17, 0, none⟩) := hC 2 (by simp)
          have e4 : vs 4 = .int .i64 (cmpQ b c) := hC 4 (by simp)
          have e5 : vs 5 = .bool false := hC 5 (by simp)
          have e6 : vs 6 = .bool false := hC 6 (by simp)
          have e7 : vs 7 = .pointer (some ⟨b6_17, 4, none⟩) := hC 7 (by simp)
          have e9 : vs 9 = .pointer (some ⟨b6_16, 0, none⟩) := hC 9 (by simp)
          have e11 : vs 11 = .int .i64 (cmpQ d a) := hC 11 (by simp)
          have e12 : vs 12 = .bool false := hC 12 (by simp)
          have e13 : vs 13 = .bool false := hC 13 (by simp)
          have e14 : vs 14 = .bool false := hC 14 (by simp)
          have E : Fr w [(b9_6, 8, Fq.ivl (greatQ a [c]).num ((greatQ a [c]).den : Int) (leastQ b [d]).num ((leastQ b [d]).den : Int)), (b6_16, 8, Fq.ivl a.num (a.den : Int) b.num (b.den : Int)), (b6_17, 8, Fq.ivl c.num (c.den : Int) d.num (d.den : Int)), (b6_18, 4, Fq.pair x5.num (x5.den : Int)), (b3, 4, Fq.raw2 n5 a5 k5 c5 xs5 m5 r5 l5 q5 ys5), (b2, 8, Fq.raws2 n3 a3 k3 c3 xs3 m3 r3 l3 q3 ys3 n4 a4 k4 c4 xs4 m4 r4 l4 q4 ys4), (b1, 8, Fq.raws2 n1 a1 k1 c1 xs1 m1 r1 l1 q1 ys1 n2 a2 k2 c2 xs2 m2 r2 l2 q2 ys2)] w16 := E16
          rw [lay_all hL]
          simp only [putAll, dstOf, List.length_cons, List.length_nil, Nat.zero_add, Nat.reduceAdd, List.getElem?_toArray, List.getElem?_cons_zero, List.getElem?_cons_succ, Option.bind_some, Act.put, List.setIfInBounds_toArray, List.set_cons_succ, List.set_cons_zero]
          rw [e0, e2, e4, e5, e6, e7, e9, e11, e12, e13, e14]
          generalize vs 1 = u16_1
          generalize vs 3 = u16_3
          generalize vs 8 = u16_8
          generalize vs 10 = u16_10
          clear e0 e2 e4 e5 e6 e7 e9 e11 e12 e13 e14 hC hn E16 hL vs L nb
          go_wp2_with (fail)
          go_meet
          case rel => exact ⟨rfl, E⟩
        case rest =>
          clear E
          obtain ⟨rfl, E⟩ := hcut
          go_upto_region 10 with (fail)
          go_cut [118] from 16 (fun s W => s = .bool false ∧ Fr w [(b9_6, 8, Fq.ivl (greatQ a [c]).num ((greatQ a [c]).den : Int) (leastQ b [d]).num ((leastQ b [d]).den : Int)), (b6_16, 8, Fq.ivl a.num (a.den : Int) b.num (b.den : Int)), (b6_17, 8, Fq.ivl c.num (c.den : Int) d.num (d.den : Int)), (b6_18, 4, Fq.pair x5.num (x5.den : Int)), (b3, 4, Fq.raw2 n5 a5 k5 c5 xs5 m5 r5 l5 q5 ys5), (b2, 8, Fq.raws2 n3 a3 k3 c3 xs3 m3 r3 l3 q3 ys3 n4 a4 k4 c4 xs4 m4 r4 l4 q4 ys4), (b1, 8, Fq.raws2 n1 a1 k1 c1 xs1 m1 r1 l1 q1 ys1 n2 a2 k2 c2 xs2 m2 r2 l2 q2 ys2)] W)
          case first =>
            refine region_fr (C := [Fq.is (.bool true), Fq.is (.bool false), Fq.is (.bool false), Fq.is (.bool false), Fq.is (.bool true), Fq.is (.bool true), Fq.ivl (greatQ a [c]).num ((greatQ a [c]).den : Int) (leastQ b [d]).num ((leastQ b [d]).den : Int), Fq.pair x5.num (x5.den : Int), Fq.is (.bool ((decide (a ≤ x5) && decide (x5 ≤ b)) && (decide (c ≤ x5) && decide (x5 ≤ d)))), Fq.is (.bool ((decide (a ≤ x5) && decide (x5 ≤ b)) && (decide (c ≤ x5) && decide (x5 ≤ d)))), Fq.is (.bool false), Fq.is (.bool false), Fq.is (.bool false), Fq.is (.bool false), Fq.is (.bool true), Fq.is (.bool false), Fq.is (.bool false), Fq.is (undef), Fq.is (undef), Fq.is (undef), Fq.is (undef), Fq.is (undef), Fq.is (undef), Fq.is (undef), Fq.is (undef), Fq.is (undef), Fq.is (undef), Fq.is (undef), Fq.is (undef), Fq.is (undef), Fq.is (undef), Fq.is (.bool false), Fq.is (.bool false)]) (ks := [none, none, none, none, none, none, none]) (new := []) E rfl (by kernel_rfl) rfl rfl (fun hp => ⟨?_, ?_, ?_, ?_, ?_, ?_, ?_, ?_, ?_, ?_, ?_, ?_, ?_, ?_, ?_, ?_, ?_, ?_, ?_, ?_, ?_, ?_, ?_, ?_, ?_, ?_, ?_, ?_, ?_, ?_, ?_, ?_, ?_, trivial⟩) ?_
            · exact q_move hp (free_of rfl) trivial (sq_out rfl rfl (fun _ _ => rfl))
            · exact q_move hp (free_of rfl) trivial (sq_out rfl rfl (fun _ _ => rfl))
            · exact q_two (F := fun v _ => v = .bool true) (G := fun v _ => v = .bool false) hp (free_of rfl) trivial (sq_in 0 rfl rfl (by simp) rfl (fun v w h => h)) (sq_in 1 rfl rfl (by simp) rfl (fun v w h => h)) (fun ρ w hc h h' => ⟨.bool false, by simp [execOp, go_sem, h, h'], rfl⟩)
            · exact q_move hp (free_of rfl) trivial (sq_in 2 rfl rfl (by simp) rfl (fun v w h => h))
            · exact q_move hp (free_of rfl) (gq_some rfl rfl (by simp) rfl (fun v w h => h)) (sq_out rfl rfl (fun _ _ => rfl))
            · exact q_move hp (free_of rfl) (gq_some rfl rfl (by simp) rfl (fun v w h => h)) (sq_in 4 rfl rfl (by simp) rfl (fun v w h => h))
            · exact q_loadIvl hp (free_of rfl) (gq_some rfl rfl (by simp) rfl (fun v w h => h)) (List.mem_iff_getElem?.2 ⟨0, rfl⟩) (.inl rfl) rfl (sq_out rfl rfl (fun _ _ => rfl)) (fun us w hl h => h)
            · exact q_loadRat hp (free_of rfl) (gq_some rfl rfl (by simp) rfl (fun v w h => h)) (List.mem_iff_getElem?.2 ⟨3, rfl⟩) (.inl rfl) rfl (sq_out rfl rfl (fun _ _ => rfl)) (fun us w hl h => h)
            · exact q_call2 (F := (Fq.ivl (greatQ a [c]).num ((greatQ a [c]).den : Int) (leastQ b [d]).num ((leastQ b [d]).den : Int)).P) (G := (Fq.pair x5.num (x5.den : Int)).P) hp (free_of rfl) (gq_some rfl rfl (by simp) rfl (fun v w h => h)) (enq_Q_Has) (sq_in 6 rfl rfl (by simp) rfl (fun v w h => h)) (sq_in 7 rfl rfl (by simp) rfl (fun v w h => h)) (fun v v' w h h' => exQHasB h h' (rb_le B7.out (by omega)) (rb_le B8.out (by omega)) (rb_le Bx5.out (by omega)) has_meet)
            · exact q_move hp (free_of rfl) (gq_some rfl rfl (by simp) rfl (fun v w h => h)) (sq_out rfl rfl (fun _ _ => rfl))
            · exact q_two (F := fun v _ => v = .bool ((decide (a ≤ x5) && decide (x5 ≤ b)) && (decide (c ≤ x5) && decide (x5 ≤ d)))) (G := fun v _ => v = .bool ((decide (a ≤ x5) && decide (x5 ≤ b)) && (decide (c ≤ x5) && decide (x5 ≤ d)))) hp (free_of rfl) (gq_some rfl rfl (by simp) rfl (fun v w h => h)) (sq_in 8 rfl rfl (by simp) rfl (fun v w h => h)) (sq_in 9 rfl rfl (by simp) rfl (fun v w h => h)) (fun ρ w hc h h' => ⟨.bool false, by simp [execOp, go_sem, h, h'], rfl⟩)
            · exact q_two (F := fun v _ => v = .bool true) (G := fun v _ => v = .bool false) hp (free_of rfl) (gq_some rfl rfl (by simp) rfl (fun v w h => h)) (sq_in 5 rfl rfl (by simp) rfl (fun v w h => h)) (sq_in 10 rfl rfl (by simp) rfl (fun v w h => h)) (fun ρ w hc h h' => ⟨_, by simp [execOp, go_sem, h, h'], rfl⟩)
            · exact q_two (F := fun v _ => v = .bool false) (G := fun v _ => v = .bool false) hp (free_of rfl) trivial (sq_in 3 rfl rfl (by simp) rfl (fun v w h => h)) (sq_in 11 rfl rfl (by simp) rfl (fun v w h => h)) (fun ρ w hc h h' => ⟨_, by simp [execOp, go_sem, h, h'], rfl⟩)
            · exact q_move hp (free_of rfl) trivial (sq_in 12 rfl rfl (by simp) rfl (fun v w h => h))
            · exact q_move hp (free_of rfl) (gq_some rfl rfl (by simp) rfl (fun v w h => h)) (sq_out rfl rfl (fun _ _ => rfl))
            · exact q_one (F := fun v _ => v = .bool true) hp (free_of rfl) (gq_some rfl rfl (by simp) rfl (fun v w h => h)) (sq_in 14 rfl rfl (by simp) rfl (fun v w h => h)) (fun ρ w _ h => ⟨.bool false, by simp [execOp, go_sem, h], rfl⟩)
            · exact q_move hp (free_of rfl) (gq_some rfl rfl (by simp) rfl (fun v w h => h)) (sq_in 15 rfl rfl (by simp) rfl (fun v w h => h))
            · exact q_skip hp (free_of rfl) rfl (gq_some rfl rfl (by simp) rfl (fun v w h => h)) (fun _ => rfl)
            · exact q_skip hp (free_of rfl) rfl (gq_some rfl rfl (by simp) rfl (fun v w h => h)) (fun _ => rfl)
            · exact q_skip hp (free_of rfl) rfl (gq_some rfl rfl (by simp) rfl (fun v w h => h)) (fun _ => rfl)
            · exact q_skip hp (free_of rfl) rfl (gq_some rfl rfl (by simp) rfl (fun v w h => h)) (fun _ => rfl)
            · exact q_skip hp (free_of rfl) rfl (gq_some rfl rfl (by simp) rfl (fun v w h => h)) (fun _ => rfl)
            · exact q_skip hp (free_of rfl) rfl (gq_some rfl rfl (by simp) rfl (fun v w h => h)) (fun _ => rfl)
            · exact q_skip hp (free_of rfl) rfl (gq_some rfl rfl (by simp) rfl (fun v w h => h)) (fun _ => rfl)
            · exact q_skipU hp (free_of rfl) rfl rfl rfl (by simp) rfl (fun v w h => h) (fun _ => rfl)
            · exact q_skipU hp (free_of rfl) rfl rfl rfl (by simp) rfl (fun v w h => h) (fun _ => rfl)
            · exact q_skipU hp (free_of rfl) rfl rfl rfl (by simp) rfl (fun v w h => h) (fun _ => rfl)
            · exact q_skipU hp (free_of rfl) rfl rfl rfl (by simp) rfl (fun v w h => h) (fun _ => rfl)
            · exact q_skipU hp (free_of rfl) rfl rfl rfl (by simp) rfl (fun v w h => h) (fun _ => rfl)
            · exact q_skipU hp (free_of rfl) rfl rfl rfl (by simp) rfl (fun v w h => h) (fun _ => rfl)
            · exact q_skip hp (free_of rfl) rfl (gq_some rfl rfl (by simp) rfl (fun v w h => h)) (fun _ => rfl)
            · exact q_two (F := fun v _ => v = .bool false) (G := fun v _ => v = .bool false) hp (free_of rfl) (gq_some rfl rfl (by simp) rfl (fun v w h => h)) (sq_in 16 rfl rfl (by simp) rfl (fun v w h => h)) (sq_const (fun _ => rfl)) (fun ρ w hc h h' => ⟨_, by simp [execOp, go_sem, h, h'], rfl⟩)
            · exact q_two (F := fun v _ => v = .bool false) (G := fun v _ => v = .bool false) hp (free_of rfl) trivial (sq_in 13 rfl rfl (by simp) rfl (fun v w h => h)) (sq_in 31 rfl rfl (by simp) rfl (fun v w h => h)) (fun ρ w hc h h' => ⟨_, by simp [execOp, go_sem, h, h'], rfl⟩)
            intro L vs w17 nb hL hC hn E17
            have e0 : vs 0 = .bool true := hC 0 (by simp)
            have e1 : vs 1 = .bool false := hC 1 (by simp)
            have e2 : vs 2 = .bool false := hC 2 (by simp)
            have e3 : vs 3 = .bool false := hC 3 (by simp)
            have e4 : vs 4 = .bool true := hC 4 (by simp)
            have e5 : vs 5 = .bool true := hC 5 (by simp)
            have e8 : vs 8 = .bool ((decide (a ≤ x5) && decide (x5 ≤ b)) && (decide (c ≤ x5) && decide (x5 ≤ d))) := hC 8 (by simp)
            have e9 : vs 9 = .bool ((decide (a ≤ x5) && decide (x5 ≤ b)) && (decide (c ≤ x5) && decide (x5 ≤ d))) := hC 9 (by simp)
            have e10 : vs 10 = .bool false := hC 10 (by simp)
            have e11 : vs 11 = .bool false := hC 11 (by simp)
            have e12 : vs 12 = .bool false := hC 12 (by simp)
            have e13 : vs 13 = .bool false := hC 13 (by simp)
            have e14 : vs 14 = .bool true := hC 14 (by simp)
            have e15 : vs 15 = .bool false := hC 15 (by simp)
            have e16 : vs 16 = .bool false := hC 16 (by simp)
            have e17 : vs 17 = undef := hC 17 (by simp)
            have e18 : vs 18 = undef := hC 18 (by simp)
            have e19 : vs 19 = undef := hC 19 (by simp)
            have e20 : vs 20 = undef := hC 20 (by simp)
            have e21 : vs 21 = undef := hC 21 (by simp)
            have e22 : vs 22 = undef := hC 22 (by simp)
            have e23 : vs 23 = undef := hC 23 (by simp)
            have e24 : vs 24 = undef := hC 24 (by simp)
            have e25 : vs 25 = undef := hC 25 (by simp)
            have e26 : vs 26 = undef := hC 26 (by simp)
            have e27 : vs 27 = undef := hC 27 (by simp)
            have e28 : vs 28 = undef := hC 28 (by simp)
            have e29 : vs 29 = undef := hC 29 (by simp)
            have e30 : vs 30 = undef := hC 30 (by simp)
            have e31 : vs 31 = .bool false := hC 31 (by simp)
            have e32 : vs 32 = .bool false := hC 32 (by simp)
            have E : Fr w [(b9_6, 8, Fq.ivl (greatQ a [c]).num ((greatQ a [c]).den : Int) (leastQ b [d]).num ((leastQ b [d]).den : Int)), (b6_16, 8, Fq.ivl a.num (a.den : Int) b.num (b.den : Int)), (b6_17, 8, Fq.ivl c.num (c.den : Int) d.num (d.den : Int)), (b6_18, 4, Fq.pair x5.num (x5.den : Int)), (b3, 4, Fq.raw2 n5 a5 k5 c5 xs5 m5 r5 l5 q5 ys5), (b2, 8, Fq.raws2 n3 a3 k3 c3 xs3 m3 r3 l3 q3 ys3 n4 a4 k4 c4 xs4 m4 r4 l4 q4 ys4), (b1, 8, Fq.raws2 n1 a1 k1 c1 xs1 m1 r1 l1 q1 ys1 n2 a2 k2 c2 xs2 m2 r2 l2 q2 ys2)] w17 := E17
            rw [lay_all hL]
            simp only [putAll, dstOf, List.length_cons, List.length_nil, Nat.zero_add, Nat.reduceAdd, List.getElem?_toArray, List.getElem?_cons_zero, List.getElem?_cons_succ, Option.bind_some, Act.put, List.setIfInBounds_toArray, List.set_cons_succ, List.set_cons_zero]
            rw [e0, e1, e2, e3, e4, e5, e8, e9, e10, e11, e12, e13, e14, e15, e16, e17, e18, e19, e20, e21, e22, e23, e24, e25, e26, e27, e28, e29, e30, e31, e32]
            generalize vs 6 = u17_6
            generalize vs 7 = u17_7
            clear e0 e1 e2 e3 e4 e5 e8 e9 e10 e11 e12 e13 e14 e15 e16 e17 e18 e19 e20 e21 e22 e23 e24 e25 e26 e27 e28 e29 e30 e31 e32 hC hn E17 hL vs L nb
            go_wp2_with (fail)
            go_meet
            case rel => exact ⟨rfl, E⟩
          case rest =>
            clear E
            obtain ⟨rfl, E⟩ := hcut
            go_upto_region 12 with (fail)
            go_cut [15] from 16 (fun s W => s = .bool ((decide (c ≤ a) && decide (a ≤ d)) && (decide (c ≤ b) && decide (b ≤ d))) ∧ Fr w [(b9_6, 8, Fq.ivl (greatQ a [c]).num ((greatQ a [c]).den : Int) (leastQ b [d]).num ((leastQ b [d]).den : Int)), (b6_16, 8, Fq.ivl a.num (a.den : Int) b.num (b.den : Int)), (b6_17, 8, Fq.ivl c.num (c.den : Int) d.num (d.den : Int)), (b6_18, 4, Fq.pair x5.num (x5.den : Int)), (b3, 4, Fq.raw2 n5 a5 k5 c5 xs5 m5 r5 l5 q5 ys5), (b2, 8, Fq.raws2 n3 a3 k3 c3 xs3 m3 r3 l3 q3 ys3 n4 a4 k4 c4 xs4 m4 r4 l4 q4 ys4), (b1, 8, Fq.raws2 n1 a1 k1 c1 xs1 m1 r1 l1 q1 ys1 n2 a2 k2 c2 xs2 m2 r2 l2 q2 ys2)] W)
            case first =>
              by_cases hv : (decide (c ≤ a) && decide (a ≤ d)) = true
              · have V1 := hidd hv
                clear hv
                refine region_fr (C := [Fq.ivl c.num (c.den : Int) d.num (d.den : Int), Fq.is (.pointer (some ⟨b6_16, 0, none⟩)), Fq.pair a.num (a.den : Int), Fq.is (.bool true), Fq.is (.bool true), Fq.ivl c.num (c.den : Int) d.num (d.den : Int), Fq.is (.pointer (some ⟨b6_16, 4, none⟩)), Fq.pair b.num (b.den : Int), Fq.is (.bool (decide (c ≤ b) && decide (b ≤ d))), Fq.is (.bool (decide (c ≤ b) && decide (b ≤ d))), Fq.is (.bool (decide (c ≤ b) && decide (b ≤ d)))]) (ks := [none, none, none, none, none, none, none]) (new := []) E rfl (by kernel_rfl) rfl rfl (fun hp => ⟨?_, ?_, ?_, ?_, ?_, ?_, ?_, ?_, ?_, ?_, ?_, trivial⟩) ?_
                · exact q_loadIvl hp (free_of rfl) trivial (List.mem_iff_getElem?.2 ⟨2, rfl⟩) (.inl rfl) rfl (sq_out rfl rfl (fun _ _ => rfl)) (fun us w hl h => h)
                · exact q_addr (b := b6_16) (off := 0) (off' := 0) hp (free_of rfl) trivial (sq_out rfl rfl (fun _ _ => rfl)) (fun ρ w h => by simp [execOp, go_sem, h]) (fun _ => rfl)
                · exact q_loadRatAt (off := 0) hp (free_of rfl) trivial (List.mem_iff_getElem?.2 ⟨1, rfl⟩) (.inl rfl) (Nat.le_of_ble_eq_true rfl) (sq_in 1 rfl rfl (by simp) rfl (fun v w h => h)) (fun us w hl h => ld_ivl0 hl h)
                · exact q_call2 (F := (Fq.ivl c.num (c.den : Int) d.num (d.den : Int)).P) (G := (Fq.pair a.num (a.den : Int)).P) hp (free_of rfl) trivial (enq_Q_Has) (sq_in 0 rfl rfl (by simp) rfl (fun v w h => h)) (sq_in 2 rfl rfl (by simp) rfl (fun v w h => h)) (fun v v' w h h' => exQHasB h h' (rb_le Bc.out (by omega)) (rb_le Bd.out (by omega)) (rb_le Ba.out (by omega)) V1.out)
                · exact q_move hp (free_of rfl) trivial (sq_in 3 rfl rfl (by simp) rfl (fun v w h => h))
                · exact q_loadIvl hp (free_of rfl) (gq_some rfl rfl (by simp) rfl (fun v w h => h)) (List.mem_iff_getElem?.2 ⟨2, rfl⟩) (.inl rfl) rfl (sq_out rfl rfl (fun _ _ => rfl)) (fun us w hl h => h)
                · exact q_addr (b := b6_16) (off := 0) (off' := 4) hp (free_of rfl) (gq_some rfl rfl (by simp) rfl (fun v w h => h)) (sq_out rfl rfl (fun _ _ => rfl)) (fun ρ w h => by simp [execOp, go_sem, h]) (fun _ => rfl)
                · exact q_loadRatAt (off := 4) hp (free_of rfl) (gq_some rfl rfl (by simp) rfl (fun v w h => h)) (List.mem_iff_getElem?.2 ⟨1, rfl⟩) (.inl rfl) (Nat.le_of_ble_eq_true rfl) (sq_in 6 rfl rfl (by simp) rfl (fun v w h => h)) (fun us w hl h => ld_ivl1 hl h)
                · exact q_call2 (F := (Fq.ivl c.num (c.den : Int) d.num (d.den : Int)).P) (G := (Fq.pair b.num (b.den : Int)).P) hp (free_of rfl) (gq_some rfl rfl (by simp) rfl (fun v w h => h)) (enq_Q_Has) (sq_in 5 rfl rfl (by simp) rfl (fun v w h => h)) (sq_in 7 rfl rfl (by simp) rfl (fun v w h => h)) (fun v v' w h h' => exQHasB h h' (rb_le Bc.out (by omega)) (rb_le Bd.out (by omega)) (rb_le Bb.out (by omega)) rfl)
                · exact q_two (F := fun v _ => v = .bool true) (G := fun v _ => v = .bool (decide (c ≤ b) && decide (b ≤ d))) hp (free_of rfl) trivial (sq_in 4 rfl rfl (by simp) rfl (fun v w h => h)) (sq_in 8 rfl rfl (by simp) rfl (fun v w h => h)) (fun ρ w hc h h' => ⟨_, by simp [execOp, go_sem, h, h'], rfl⟩)
                · exact q_assign hp (free_of rfl) trivial (sq_in 9 rfl rfl (by simp) rfl (fun v w h => h))
                intro L vs w18 nb hL hC hn E18
                have e1 : vs 1 = .pointer (some ⟨b6_16, 0, none⟩) := hC 1 (by simp)
                have e3 : vs 3 = .bool true := hC 3 (by simp)
                have e4 : vs 4 = .bool true := hC 4 (by simp)
                have e6 : vs 6 = .pointer (some ⟨b6_16, 4, none⟩) := hC 6 (by simp)
                have e8 : vs 8 = .bool (decide (c ≤ b) && decide (b ≤ d)) := hC 8 (by simp)
                have e9 : vs 9 = .bool (decide (c ≤ b) && decide (b ≤ d)) := hC 9 (by simp)
                have e10 : vs 10 = .bool (decide (c ≤ b) && decide (b ≤ d)) := hC 10 (by simp)
                have E : Fr w [(b9_6, 8, Fq.ivl (greatQ a [c]).num ((greatQ a [c]).den : Int) (leastQ b [d]).num ((leastQ b [d]).den : Int)), (b6_16, 8, Fq.ivl a.num (a.den : Int) b.num (b.den : Int)), (b6_17, 8, Fq.ivl c.num (c.den : Int) d.num (d.den : Int)), (b6_18, 4, Fq.pair x5.num (x5.den : Int)), (b3, 4, Fq.raw2 n5 a5 k5 c5 xs5 m5 r5 l5 q5 ys5), (b2, 8, Fq.raws2 n3 a3 k3 c3 xs3 m3 r3 l3 q3 ys3 n4 a4 k4 c4 xs4 m4 r4 l4 q4 ys4), (b1, 8, Fq.raws2 n1 a1 k1 c1 xs1 m1 r1 l1 q1 ys1 n2 a2 k2 c2 xs2 m2 r2 l2 q2 ys2)] w18 := E18
                rw [lay_all hL]
                simp only [putAll, dstOf, List.length_cons, List.length_nil, Nat.zero_add, Nat.reduceAdd, List.getElem?_toArray, List.getElem?_cons_zero, List.getElem?_cons_succ, Option.bind_some, Act.put, List.setIfInBounds_toArray, List.set_cons_succ, List.set_cons_zero]
                rw [e1, e3, e4, e6, e8, e9, e10]
                generalize vs 0 = u18_0
                generalize vs 2 = u18_2
                generalize vs 5 = u18_5
                generalize vs 7 = u18_7
                clear e1 e3 e4 e6 e8 e9 e10 hC hn E18 hL vs L nb
                go_wp2_with (fail)
                go_meet
                case rel => exact ⟨by rw [V1.out]; rfl, E⟩
              · have V1 : Hid ((decide (c ≤ a) && decide (a ≤ d)) = false) := Bool.eq_false_iff.2 hv
                clear hv
                refine region_fr (C := [Fq.ivl c.num (c.den : Int) d.num (d.den : Int), Fq.is (.pointer (some ⟨b6_16, 0, none⟩)), Fq.pair a.num (a.den : Int), Fq.is (.bool false), Fq.is (.bool false), Fq.is (undef), Fq.is (undef), Fq.is (undef), Fq.is (undef), Fq.is (.bool false), Fq.is (.bool false)]) (ks := [none, none, none, none, none, none, none]) (new := []) E rfl (by kernel_rfl) rfl rfl (fun hp => ⟨?_, ?_, ?_, ?_, ?_, ?_, ?_, ?_, ?_, ?_, ?_, trivial⟩) ?_
                · exact q_loadIvl hp (free_of rfl) trivial (List.mem_iff_getElem?.2 ⟨2, rfl⟩) (.inl rfl) rfl (sq_out rfl rfl (fun _ _ => rfl)) (fun us w hl h => h)
                · exact q_addr (b := b6_16) (off := 0) (off' := 0) hp (free_of rfl) trivial (sq_out rfl rfl (fun _ _ => rfl)) (fun ρ w h => by simp [execOp, go_sem, h]) (fun _ => rfl)
                · exact q_loadRatAt (off := 0) hp (free_of rfl) trivial (List.mem_iff_getElem?.2 ⟨1, rfl⟩) (.inl rfl) (Nat.le_of_ble_eq_true rfl) (sq_in 1 rfl rfl (by simp) rfl (fun v w h => h)) (fun us w hl h => ld_ivl0 hl h)
                · exact q_call2 (F := (Fq.ivl c.num (c.den : Int) d.num (d.den : Int)).P) (G := (Fq.pair a.num (a.den : Int)).P) hp (free_of rfl) trivial (enq_Q_Has) (sq_in 0 rfl rfl (by simp) rfl (fun v w h => h)) (sq_in 2 rfl rfl (by simp) rfl (fun v w h => h)) (fun v v' w h h' => exQHasB h h' (rb_le Bc.out (by omega)) (rb_le Bd.out (by omega)) (rb_le Ba.out (by omega)) V1.out)
                · exact q_move hp (free_of rfl) trivial (sq_in 3 rfl rfl (by simp) rfl (fun v w h => h))
                · exact q_skip hp (free_of rfl) rfl (gq_some rfl rfl (by simp) rfl (fun v w h => h)) (fun _ => rfl)
                · exact q_skip hp (free_of rfl) rfl (gq_some rfl rfl (by simp) rfl (fun v w h => h)) (fun _ => rfl)
                · exact q_skip hp (free_of rfl) rfl (gq_some rfl rfl (by simp) rfl (fun v w h => h)) (fun _ => rfl)
                · exact q_skip hp (free_of rfl) rfl (gq_some rfl rfl (by simp) rfl (fun v w h => h)) (fun _ => rfl)
                · exact q_two (F := fun v _ => v = .bool false) (G := fun v _ => v = .bool false) hp (free_of rfl) trivial (sq_in 4 rfl rfl (by simp) rfl (fun v w h => h)) (sq_const (fun _ => rfl)) (fun ρ w hc h h' => ⟨_, by simp [execOp, go_sem, h, h'], rfl⟩)
                · exact q_assign hp (free_of rfl) trivial (sq_in 9 rfl rfl (by simp) rfl (fun v w h => h))
                intro L vs w19 nb hL hC hn E19
                have e1 : vs 1 = .pointer (some ⟨b6_16, 0, none⟩) := hC 1 (by simp)
                have e3 : vs 3 = .bool false := hC 3 (by simp)
                have e4 : vs 4 = .bool false := hC 4 (by simp)
                have e5 : vs 5 = undef := hC 5 (by simp)
                have e6 : vs 6 = undef := hC 6 (by simp)
                have e7 : vs 7 = undef := hC 7 (by simp)
                have e8 : vs 8 = undef := hC 8 (by simp)
                have e9 : vs 9 = .bool false := hC 9 (by simp)
                have e10 : vs 10 = .bool false := hC 10 (by simp)
                have E : Fr w [(b9_6, 8, Fq.ivl (greatQ a [c]).num ((greatQ a [c]).den : Int) (leastQ b [d]).num ((leastQ b [d]).den : Int)), (b6_16, 8, Fq.ivl a.num (a.den : Int) b.num (b.den : Int)), (b6_17, 8, Fq.ivl c.num (c.den : Int) d.num (d.den : Int)), (b6_18, 4, Fq.pair x5.num (x5.den : Int)), (b3, 4, Fq.raw2 n5 a5 k5 c5 xs5 m5 r5 l5 q5 ys5), (b2, 8, Fq.raws2 n3 a3 k3 c3 xs3 m3 r3 l3 q3 ys3 n4 a4 k4 c4 xs4 m4 r4 l4 q4 ys4), (b1, 8, Fq.raws2 n1 a1 k1 c1 xs1 m1 r1 l1 q1 ys1 n2 a2 k2 c2 xs2 m2 r2 l2 q2 ys2)] w19 := E19
                rw [lay_all hL]
                simp only [putAll, dstOf, List.length_cons, List.length_nil, Nat.zero_add, Nat.reduceAdd, List.getElem?_toArray, List.getElem?_cons_zero, List.getElem?_cons_succ, Option.bind_some, Act.put, List.setIfInBounds_toArray, List.set_cons_succ, List.set_cons_zero]
                rw [e1, e3, e4, e5, e6, e7, e8, e9, e10]
                generalize vs 0 = u19_0
                generalize vs 2 = u19_2
                clear e1 e3 e4 e5 e6 e7 e8 e9 e10 hC hn E19 hL vs L nb
                go_wp2_with (fail)
                go_meet
                case rel => exact ⟨by rw [V1.out]; rfl, E⟩
            case rest =>
              clear E
              obtain ⟨rfl, E⟩ := hcut
              by_cases hv : ((decide (c ≤ a) && decide (a ≤ d)) && (decide (c ≤ b) && decide (b ≤ d))) = true
              · have V1 : Hid (((decide (c ≤ a) && decide (a ≤ d)) && (decide (c ≤ b) && decide (b ≤ d))) = true) := hv
                clear hv
                rw [V1.out]
                go_upto_region 13 with (fail)
                refine region_fr (C := [Fq.ivl a.num (a.den : Int) b.num (b.den : Int), Fq.ivl c.num (c.den : Int) d.num (d.den : Int), Fq.is (.bool true), Fq.is (.bool true), Fq.is (.bool true), Fq.is (.bool true), Fq.is (.bool true), Fq.is (.bool true), Fq.is (.bool true), Fq.ivl (greatQ a [c]).num ((greatQ a [c]).den : Int) (leastQ b [d]).num ((leastQ b [d]).den : Int), Fq.ivl a.num (a.den : Int) b.num (b.den : Int), Fq.is (.bool true), Fq.is (.bool true), Fq.is (.bool true), Fq.is (.bool true), Fq.is (.bool true), Fq.is (.bool true), Fq.is (.bool true), Fq.is (.bool true)]) (ks := [none, none, none, none, none, none, none]) (new := []) E rfl (by kernel_rfl) rfl rfl (fun hp => ⟨?_, ?_, ?_, ?_, ?_, ?_, ?_, ?_, ?_, ?_, ?_, ?_, ?_, ?_, ?_, ?_, ?_, ?_, ?_, trivial⟩) ?_
                · exact q_loadIvl hp (free_of rfl) trivial (List.mem_iff_getElem?.2 ⟨1, rfl⟩) (.inl rfl) rfl (sq_out rfl rfl (fun _ _ => rfl)) (fun us w hl h => h)
                · exact q_loadIvl hp (free_of rfl) trivial (List.mem_iff_getElem?.2 ⟨2, rfl⟩) (.inl rfl) rfl (sq_out rfl rfl (fun _ _ => rfl)) (fun us w hl h => h)
                · exact q_call2 (F := (Fq.ivl a.num (a.den : Int) b.num (b.den : Int)).P) (G := (Fq.ivl c.num (c.den : Int) d.num (d.den : Int)).P) hp (free_of rfl) trivial (enq_Q_Inside) (sq_in 0 rfl rfl (by simp) rfl (fun v w h => h)) (sq_in 1 rfl rfl (by simp) rfl (fun v w h => h)) (fun v v' w h h' => (by rw [← (V1.out : ((decide (c ≤ a) && decide (a ≤ d)) && (decide (c ≤ b) && decide (b ≤ d))) = true)]; exact exInside h h' (rb_le Ba.out (by omega)) (rb_le Bb.out (by omega)) (rb_le Bc.out (by omega)) (rb_le Bd.out (by omega))))
                · exact q_move hp (free_of rfl) trivial (sq_out rfl rfl (fun _ _ => rfl))
                · exact q_two (F := fun v _ => v = .bool true) (G := fun v _ => v = .bool true) hp (free_of rfl) trivial (sq_in 2 rfl rfl (by simp) rfl (fun v w h => h)) (sq_in 3 rfl rfl (by simp) rfl (fun v w h => h)) (fun ρ w hc h h' => ⟨.bool true, by simp [execOp, go_sem, h, h'], rfl⟩)
                · exact q_move hp (free_of rfl) trivial (sq_in 4 rfl rfl (by simp) rfl (fun v w h => h))
                · exact q_move hp (free_of rfl) (gq_some rfl rfl (by simp) rfl (fun v w h => h)) (sq_out rfl rfl (fun _ _ => rfl))
                · exact q_move hp (free_of rfl) (gq_some rfl rfl (by simp) rfl (fun v w h => h)) (sq_out rfl rfl (fun _ _ => rfl))
                · exact q_move hp (free_of rfl) (gq_some rfl rfl (by simp) rfl (fun v w h => h)) (sq_in 7 rfl rfl (by simp) rfl (fun v w h => h))
                · exact q_loadIvl hp (free_of rfl) (gq_some rfl rfl (by simp) rfl (fun v w h => h)) (List.mem_iff_getElem?.2 ⟨0, rfl⟩) (.inl rfl) rfl (sq_out rfl rfl (fun _ _ => rfl)) (fun us w hl h => h)
                · exact q_loadIvl hp (free_of rfl) (gq_some rfl rfl (by simp) rfl (fun v w h => h)) (List.mem_iff_getElem?.2 ⟨1, rfl⟩) (.inl rfl) rfl (sq_out rfl rfl (fun _ _ => rfl)) (fun us w hl h => h)
                · exact q_call2 (F := (Fq.ivl (greatQ a [c]).num ((greatQ a [c]).den : Int) (leastQ b [d]).num ((leastQ b [d]).den : Int)).P) (G := (Fq.ivl a.num (a.den : Int) b.num (b.den : Int)).P) hp (free_of rfl) (gq_some rfl rfl (by simp) rfl (fun v w h => h)) (enq_S_SameI) (sq_in 9 rfl rfl (by simp) rfl (fun v w h => h)) (sq_in 10 rfl rfl (by simp) rfl (fun v w h => h)) (fun v v' w h h' => exSSameIB h h' (by rw [← ends_same Oa.out]; exact V1.out))
                · exact q_two (F := fun v _ => v = .bool true) (G := fun v _ => v = .bool true) hp (free_of rfl) (gq_some rfl rfl (by simp) rfl (fun v w h => h)) (sq_in 8 rfl rfl (by simp) rfl (fun v w h => h)) (sq_in 11 rfl rfl (by simp) rfl (fun v w h => h)) (fun ρ w hc h h' => ⟨_, by simp [execOp, go_sem, h, h'], rfl⟩)
                · exact q_two (F := fun v _ => v = .bool true) (G := fun v _ => v = .bool true) hp (free_of rfl) (gq_some rfl rfl (by simp) rfl (fun v w h => h)) (sq_in 6 rfl rfl (by simp) rfl (fun v w h => h)) (sq_in 12 rfl rfl (by simp) rfl (fun v w h => h)) (fun ρ w hc h h' => ⟨.bool true, by simp [execOp, go_sem, h, h'], rfl⟩)
                · exact q_two (F := fun v _ => v = .bool true) (G := fun v _ => v = .bool true) hp (free_of rfl) trivial (sq_in 5 rfl rfl (by simp) rfl (fun v w h => h)) (sq_in 13 rfl rfl (by simp) rfl (fun v w h => h)) (fun ρ w hc h h' => ⟨_, by simp [execOp, go_sem, h, h'], rfl⟩)
                · exact q_move hp (free_of rfl) trivial (sq_in 14 rfl rfl (by simp) rfl (fun v w h => h))
                · exact q_move hp (free_of rfl) (gq_some rfl rfl (by simp) rfl (fun v w h => h)) (sq_out rfl rfl (fun _ _ => rfl))
                · exact q_two (F := fun v _ => v = .bool true) (G := fun v _ => v = .bool true) hp (free_of rfl) trivial (sq_in 15 rfl rfl (by simp) rfl (fun v w h => h)) (sq_in 16 rfl rfl (by simp) rfl (fun v w h => h)) (fun ρ w hc h h' => ⟨_, by simp [execOp, go_sem, h, h'], rfl⟩)
                · exact q_assign hp (free_of rfl) trivial (sq_in 17 rfl rfl (by simp) rfl (fun v w h => h))
                intro L vs w20 nb hL hC hn E20
                have e2 : vs 2 = .bool true := hC 2 (by simp)
                have e3 : vs 3 = .bool true := hC 3 (by simp)
                have e4 : vs 4 = .bool true := hC 4 (by simp)
                have e5 : vs 5 = .bool true := hC 5 (by simp)
                have e6 : vs 6 = .bool true := hC 6 (by simp)
                have e7 : vs 7 = .bool true := hC 7 (by simp)
                have e8 : vs 8 = .bool true := hC 8 (by simp)
                have e11 : vs 11 = .bool true := hC 11 (by simp)
                have e12 : vs 12 = .bool true := hC 12 (by simp)
                have e13 : vs 13 = .bool true := hC 13 (by simp)
                have e14 : vs 14 = .bool true := hC 14 (by simp)
                have e15 : vs 15 = .bool true := hC 15 (by simp)
                have e16 : vs 16 = .bool true := hC 16 (by simp)
                have e17 : vs 17 = .bool true := hC 17 (by simp)
                have e18 : vs 18 = .bool true := hC 18 (by simp)
                have E : Fr w [(b9_6, 8, Fq.ivl (greatQ a [c]).num ((greatQ a [c]).den : Int) (leastQ b [d]).num ((leastQ b [d]).den : Int)), (b6_16, 8, Fq.ivl a.num (a.den : Int) b.num (b.den : Int)), (b6_17, 8, Fq.ivl c.num (c.den : Int) d.num (d.den : Int)), (b6_18, 4, Fq.pair x5.num (x5.den : Int)), (b3, 4, Fq.raw2 n5 a5 k5 c5 xs5 m5 r5 l5 q5 ys5), (b2, 8, Fq.raws2 n3 a3 k3 c3 xs3 m3 r3 l3 q3 ys3 n4 a4 k4 c4 xs4 m4 r4 l4 q4 ys4), (b1, 8, Fq.raws2 n1 a1 k1 c1 xs1 m1 r1 l1 q1 ys1 n2 a2 k2 c2 xs2 m2 r2 l2 q2 ys2)] w20 := E20
                rw [lay_all hL]
                simp only [putAll, dstOf, List.length_cons, List.length_nil, Nat.zero_add, Nat.reduceAdd, List.getElem?_toArray, List.getElem?_cons_zero, List.getElem?_cons_succ, Option.bind_some, Act.put, List.setIfInBounds_toArray, List.set_cons_succ, List.set_cons_zero]
                rw [e2, e3, e4, e5, e6, e7, e8, e11, e12, e13, e14, e15, e16, e17, e18]
                generalize vs 0 = u20_0
                generalize vs 1 = u20_1
                generalize vs 9 = u20_9
                generalize vs 10 = u20_10
                clear e2 e3 e4 e5 e6 e7 e8 e11 e12 e13 e14 e15 e16 e17 e18 hC hn E20 hL vs L nb
                clear HM V1
                clear B7 B8 Bx1 Bx2 Bx3 Bx4 Bx5 Ba Bb Bc Bd
                go_wp2
                refine bodyPost_ret (v := .bool true) ?_ rfl ⟨rfl, E.below⟩
                simp [results, Tryz.results5, go_sem]
              · have V1 : Hid (((decide (c ≤ a) && decide (a ≤ d)) && (decide (c ≤ b) && decide (b ≤ d))) = false) := Bool.eq_false_iff.2 hv
                clear hv
                rw [V1.out]
                go_upto_region 13 with (fail)
                refine region_fr (C := [Fq.ivl a.num (a.den : Int) b.num (b.den : Int), Fq.ivl c.num (c.den : Int) d.num (d.den : Int), Fq.is (.bool false), Fq.is (.bool false), Fq.is (.bool true), Fq.is (.bool true), Fq.is (.bool false), Fq.is (.bool true), Fq.is (.bool true), Fq.ivl (greatQ a [c]).num ((greatQ a [c]).den : Int) (leastQ b [d]).num ((leastQ b [d]).den : Int), Fq.ivl a.num (a.den : Int) b.num (b.den : Int), Fq.is (.bool false), Fq.is (.bool false), Fq.is (.bool true), Fq.is (.bool true), Fq.is (.bool true), Fq.is (.bool true), Fq.is (.bool true), Fq.is (.bool true)]) (ks := [none, none, none, none, none, none, none]) (new := []) E rfl (by kernel_rfl) rfl rfl (fun hp => ⟨?_, ?_, ?_, ?_, ?_, ?_, ?_, ?_, ?_, ?_, ?_, ?_, ?_, ?_, ?_, ?_, ?_, ?_, ?_, trivial⟩) ?_
                · exact q_loadIvl hp (free_of rfl) trivial (List.mem_iff_getElem?.2 ⟨1, rfl⟩) (.inl rfl) rfl (sq_out rfl rfl (fun _ _ => rfl)) (fun us w hl h => h)
                · exact q_loadIvl hp (free_of rfl) trivial (List.mem_iff_getElem?.2 ⟨2, rfl⟩) (.inl rfl) rfl (sq_out rfl rfl (fun _ _ => rfl)) (fun us w hl h => h)
                · exact q_call2 (F := (Fq.ivl a.num (a.den : Int) b.num (b.den : Int)).P) (G := (Fq.ivl c.num (c.den : Int) d.num (d.den : Int)).P) hp (free_of rfl) trivial (enq_Q_Inside) (sq_in 0 rfl rfl (by simp) rfl (fun v w h => h)) (sq_in 1 rfl rfl (by simp) rfl (fun v w h => h)) (fun v v' w h h' => (by rw [← (V1.out : ((decide (c ≤ a) && decide (a ≤ d)) && (decide (c ≤ b) && decide (b ≤ d))) = false)]; exact exInside h h' (rb_le Ba.out (by omega)) (rb_le Bb.out (by omega)) (rb_le Bc.out (by omega)) (rb_le Bd.out (by omega))))
                · exact q_move hp (free_of rfl) trivial (sq_out rfl rfl (fun _ _ => rfl))
                · exact q_two (F := fun v _ => v = .bool false) (G := fun v _ => v = .bool false) hp (free_of rfl) trivial (sq_in 2 rfl rfl (by simp) rfl (fun v w h => h)) (sq_in 3 rfl rfl (by simp) rfl (fun v w h => h)) (fun ρ w hc h h' => ⟨.bool true, by simp [execOp, go_sem, h, h'], rfl⟩)
                · exact q_move hp (free_of rfl) trivial (sq_in 4 rfl rfl (by simp) rfl (fun v w h => h))
                · exact q_move hp (free_of rfl) (gq_some rfl rfl (by simp) rfl (fun v w h => h)) (sq_out rfl rfl (fun _ _ => rfl))
                · exact q_move hp (free_of rfl) (gq_some rfl rfl (by simp) rfl (fun v w h => h)) (sq_out rfl rfl (fun _ _ => rfl))
                · exact q_move hp (free_of rfl) (gq_some rfl rfl (by simp) rfl (fun v w h => h)) (sq_in 7 rfl rfl (by simp) rfl (fun v w h => h))
                · exact q_loadIvl hp (free_of rfl) (gq_some rfl rfl (by simp) rfl (fun v w h => h)) (List.mem_iff_getElem?.2 ⟨0, rfl⟩) (.inl rfl) rfl (sq_out rfl rfl (fun _ _ => rfl)) (fun us w hl h => h)
                · exact q_loadIvl hp (free_of rfl) (gq_some rfl rfl (by simp) rfl (fun v w h => h)) (List.mem_iff_getElem?.2 ⟨1, rfl⟩) (.inl rfl) rfl (sq_out rfl rfl (fun _ _ => rfl)) (fun us w hl h => h)
                · exact q_call2 (F := (Fq.ivl (greatQ a [c]).num ((greatQ a [c]).den : Int) (leastQ b [d]).num ((leastQ b [d]).den : Int)).P) (G := (Fq.ivl a.num (a.den : Int) b.num (b.den : Int)).P) hp (free_of rfl) (gq_some rfl rfl (by simp) rfl (fun v w h => h)) (enq_S_SameI) (sq_in 9 rfl rfl (by simp) rfl (fun v w h => h)) (sq_in 10 rfl rfl (by simp) rfl (fun v w h => h)) (fun v v' w h h' => exSSameIB h h' (by rw [← ends_same Oa.out]; exact V1.out))
                · exact q_two (F := fun v _ => v = .bool true) (G := fun v _ => v = .bool false) hp (free_of rfl) (gq_some rfl rfl (by simp) rfl (fun v w h => h)) (sq_in 8 rfl rfl (by simp) rfl (fun v w h => h)) (sq_in 11 rfl rfl (by simp) rfl (fun v w h => h)) (fun ρ w hc h h' => ⟨_, by simp [execOp, go_sem, h, h'], rfl⟩)
                · exact q_two (F := fun v _ => v = .bool false) (G := fun v _ => v = .bool false) hp (free_of rfl) (gq_some rfl rfl (by simp) rfl (fun v w h => h)) (sq_in 6 rfl rfl (by simp) rfl (fun v w h => h)) (sq_in 12 rfl rfl (by simp) rfl (fun v w h => h)) (fun ρ w hc h h' => ⟨.bool true, by simp [execOp, go_sem, h, h'], rfl⟩)
                · exact q_two (F := fun v _ => v = .bool true) (G := fun v _ => v = .bool true) hp (free_of rfl) trivial (sq_in 5 rfl rfl (by simp) rfl (fun v w h => h)) (sq_in 13 rfl rfl (by simp) rfl (fun v w h => h)) (fun ρ w hc h h' => ⟨_, by simp [execOp, go_sem, h, h'], rfl⟩)
                · exact q_move hp (free_of rfl) trivial (sq_in 14 rfl rfl (by simp) rfl (fun v w h => h))
                · exact q_move hp (free_of rfl) (gq_some rfl rfl (by simp) rfl (fun v w h => h)) (sq_out rfl rfl (fun _ _ => rfl))
                · exact q_two (F := fun v _ => v = .bool true) (G := fun v _ => v = .bool true) hp (free_of rfl) trivial (sq_in 15 rfl rfl (by simp) rfl (fun v w h => h)) (sq_in 16 rfl rfl (by simp) rfl (fun v w h => h)) (fun ρ w hc h h' => ⟨_, by simp [execOp, go_sem, h, h'], rfl⟩)
                · exact q_assign hp (free_of rfl) trivial (sq_in 17 rfl rfl (by simp) rfl (fun v w h => h))
                intro L vs w21 nb hL hC hn E21
                have e2 : vs 2 = .bool false := hC 2 (by simp)
                have e3 : vs 3 = .bool false := hC 3 (by simp)
                have e4 : vs 4 = .bool true := hC 4 (by simp)
                have e5 : vs 5 = .bool true := hC 5 (by simp)
                have e6 : vs 6 = .bool false := hC 6 (by simp)
                have e7 : vs 7 = .bool true := hC 7 (by simp)
                have e8 : vs 8 = .bool true := hC 8 (by simp)
                have e11 : vs 11 = .bool false := hC 11 (by simp)
                have e12 : vs 12 = .bool false := hC 12 (by simp)
                have e13 : vs 13 = .bool true := hC 13 (by simp)
                have e14 : vs 14 = .bool true := hC 14 (by simp)
                have e15 : vs 15 = .bool true := hC 15 (by simp)
                have e16 : vs 16 = .bool true := hC 16 (by simp)
                have e17 : vs 17 = .bool true := hC 17 (by simp)
                have e18 : vs 18 = .bool true := hC 18 (by simp)
                have E : Fr w [(b9_6, 8, Fq.ivl (greatQ a [c]).num ((greatQ a [c]).den : Int) (leastQ b [d]).num ((leastQ b [d]).den : Int)), (b6_16, 8, Fq.ivl a.num (a.den : Int) b.num (b.den : Int)), (b6_17, 8, Fq.ivl c.num (c.den : Int) d.num (d.den : Int)), (b6_18, 4, Fq.pair x5.num (x5.den : Int)), (b3, 4, Fq.raw2 n5 a5 k5 c5 xs5 m5 r5 l5 q5 ys5), (b2, 8, Fq.raws2 n3 a3 k3 c3 xs3 m3 r3 l3 q3 ys3 n4 a4 k4 c4 xs4 m4 r4 l4 q4 ys4), (b1, 8, Fq.raws2 n1 a1 k1 c1 xs1 m1 r1 l1 q1 ys1 n2 a2 k2 c2 xs2 m2 r2 l2 q2 ys2)] w21 := E21
                rw [lay_all hL]
                simp only [putAll, dstOf, List.length_cons, List.length_nil, Nat.zero_add, Nat.reduceAdd, List.getElem?_toArray, List.getElem?_cons_zero, List.getElem?_cons_succ, Option.bind_some, Act.put, List.setIfInBounds_toArray, List.set_cons_succ, List.set_cons_zero]
                rw [e2, e3, e4, e5, e6, e7, e8, e11, e12, e13, e14, e15, e16, e17, e18]
                generalize vs 0 = u21_0
                generalize vs 1 = u21_1
                generalize vs 9 = u21_9
                generalize vs 10 = u21_10
                clear e2 e3 e4 e5 e6 e7 e8 e11 e12 e13 e14 e15 e16 e17 e18 hC hn E21 hL vs L nb
                clear HM V1
                clear B7 B8 Bx1 Bx2 Bx3 Bx4 Bx5 Ba Bb Bc Bd
                go_wp2
                refine bodyPost_ret (v := .bool true) ?_ rfl ⟨rfl, E.below⟩
                simp [results, Tryz.results5, go_sem]
  · replace hm := Rat.not_le.1 hm
    have HM := hidd hm
    clear hm
    go_upto_region 5 with (fail)
    refine region_fr (C := [Fq.ivl a.num (a.den : Int) b.num (b.den : Int), Fq.ivl c.num (c.den : Int) d.num (d.den : Int), Fq.tup2 (Fq.ivl 0 0 0 0) (Fq.is (.bool false)), Fq.tup2 (Fq.ivl 0 0 0 0) (Fq.is (.bool false)), Fq.ivl 0 0 0 0, Fq.is (.bool false), Fq.any, Fq.any, Fq.is (.bool false)]) (ks := [none, none, none, none, none, none]) (new := [⟨6, 7, 8, Fq.ivl 0 0 0 0, Fq.ivl 0 0 0 0, none⟩]) E rfl (by kernel_rfl) rfl rfl (fun hp => ⟨?_, ?_, ?_, ?_, ?_, ?_, ?_, ?_, ?_, trivial⟩) ?_
    · exact q_loadIvl hp (free_of rfl) trivial (List.mem_iff_getElem?.2 ⟨0, rfl⟩) (.inl rfl) rfl (sq_out rfl rfl (fun _ _ => rfl)) (fun us w hl h => h)
    · exact q_loadIvl hp (free_of rfl) trivial (List.mem_iff_getElem?.2 ⟨1, rfl⟩) (.inl rfl) rfl (sq_out rfl rfl (fun _ _ => rfl)) (fun us w hl h => h)
    · exact q_call2 (F := (Fq.ivl a.num (a.den : Int) b.num (b.den : Int)).P) (G := (Fq.ivl c.num (c.den : Int) d.num (d.den : Int)).P) hp (free_of rfl) trivial (enq_Q_Meet) (sq_in 0 rfl rfl (by simp) rfl (fun v w h => h)) (sq_in 1 rfl rfl (by simp) rfl (fun v w h => h)) (fun v v' w h h' => exMeetN h h' (rb_le Ba.out (by omega)) (rb_le Bb.out (by omega)) (rb_le Bc.out (by omega)) (rb_le Bd.out (by omega)) HM.out)
    · exact q_move hp (free_of rfl) trivial (sq_in 2 rfl rfl (by simp) rfl (fun v w h => h))
    · exact q_extract2 hp (free_of rfl) trivial (sq_in 3 rfl rfl (by simp) rfl (fun v w h => h)) (fun v1 v2 w h1 h2 => ⟨_, rfl, h1⟩)
    · exact q_extract2 hp (free_of rfl) trivial (sq_in 3 rfl rfl (by simp) rfl (fun v w h => h)) (fun v1 v2 w h1 h2 => ⟨_, rfl, h2⟩)
    · exact q_allocIvl hp (List.mem_iff_getElem?.2 ⟨0, rfl⟩) rfl rfl rfl rfl (Nat.ne_of_beq_eq_false rfl) (fun _ _ => trivial) (old_ne rfl) (newk_ne rfl) (fun w => Ivl.zero w)
    · exact q_storeNewIvl hp (List.mem_iff_getElem?.2 ⟨0, rfl⟩) rfl rfl rfl (own_ptr rfl rfl (by simp) rfl) (sq_in 4 rfl rfl (by simp) rfl (fun v w h => h.parts)) (fun _ _ => trivial) (old_ne rfl) (newi_ne rfl)
    · exact q_assign hp (free_of rfl) trivial (sq_in 5 rfl rfl (by simp) rfl (fun v w h => h))
    intro L vs w22 nb hL hC hn E22
    have e5 : vs 5 = .bool false := hC 5 (by simp)
    have e8 : vs 8 = .bool false := hC 8 (by simp)
    have e6 : vs 6 = .pointer (some ⟨nb 6, 0, none⟩) := hn _ (List.mem_iff_getElem?.2 ⟨0, rfl⟩)
    have E : Fr w [(nb 6, 8, Fq.ivl 0 0 0 0), (b6_16, 8, Fq.ivl a.num (a.den : Int) b.num (b.den : Int)), (b6_17, 8, Fq.ivl c.num (c.den : Int) d.num (d.den : Int)), (b6_18, 4, Fq.pair x5.num (x5.den : Int)), (b3, 4, Fq.raw2 n5 a5 k5 c5 xs5 m5 r5 l5 q5 ys5), (b2, 8, Fq.raws2 n3 a3 k3 c3 xs3 m3 r3 l3 q3 ys3 n4 a4 k4 c4 xs4 m4 r4 l4 q4 ys4), (b1, 8, Fq.raws2 n1 a1 k1 c1 xs1 m1 r1 l1 q1 ys1 n2 a2 k2 c2 xs2 m2 r2 l2 q2 ys2)] w22 := E22
    rw [lay_all hL]
    simp only [putAll, dstOf, List.length_cons, List.length_nil, Nat.zero_add, Nat.reduceAdd, List.getElem?_toArray, List.getElem?_cons_zero, List.getElem?_cons_succ, Option.bind_some, Act.put, List.setIfInBounds_toArray, List.set_cons_succ, List.set_cons_zero]
    rw [e5, e8, e6]
    generalize nb 6 = b22_6 at E ⊢
    generalize vs 0 = u22_0
    generalize vs 1 = u22_1
    generalize vs 2 = u22_2
    generalize vs 3 = u22_3
    generalize vs 4 = u22_4
    clear e5 e8 e6 hC hn E22 hL vs L nb
    go_upto_region 6 with (fail)
    go_cut [13] from 16 (fun s W => s = .bool ((decide (a ≤ x5) && decide (x5 ≤ b)) && (decide (c ≤ x5) && decide (x5 ≤ d))) ∧ Fr w [(b22_6, 8, Fq.ivl 0 0 0 0), (b6_16, 8, Fq.ivl a.num (a.den : Int) b.num (b.den : Int)), (b6_17, 8, Fq.ivl c.num (c.den : Int) d.num (d.den : Int)), (b6_18, 4, Fq.pair x5.num (x5.den : Int)), (b3, 4, Fq.raw2 n5 a5 k5 c5 xs5 m5 r5 l5 q5 ys5), (b2, 8, Fq.raws2 n3 a3 k3 c3 xs3 m3 r3 l3 q3 ys3 n4 a4 k4 c4 xs4 m4 r4 l4 q4 ys4), (b1, 8, Fq.raws2 n1 a1 k1 c1 xs1 m1 r1 l1 q1 ys1 n2 a2 k2 c2 xs2 m2 r2 l2 q2 ys2)] W)
    case first =>
      by_cases hv : (decide (a ≤ x5) && decide (x5 ≤ b)) = true
      · have V1 := hidd hv
        clear hv
        refine region_fr (C := [Fq.ivl a.num (a.den : Int) b.num (b.den : Int), Fq.pair x5.num (x5.den : Int), Fq.is (.bool true), Fq.is (.bool true), Fq.ivl c.num (c.den : Int) d.num (d.den : Int), Fq.pair x5.num (x5.den : Int), Fq.is (.bool (decide (c ≤ x5) && decide (x5 ≤ d))), Fq.is (.bool (decide (c ≤ x5) && decide (x5 ≤ d))), Fq.is (.bool (decide (c ≤ x5) && decide (x5 ≤ d)))]) (ks := [none, none, none, none, none, none, none]) (new := []) E rfl (by kernel_rfl) rfl rfl (fun hp => ⟨?_, ?_, ?_, ?_, ?_, ?_, ?_, ?_, ?_, trivial⟩) ?_
        · exact q_loadIvl hp (free_of rfl) trivial (List.mem_iff_getElem?.2 ⟨1, rfl⟩) (.inl rfl) rfl (sq_out rfl rfl (fun _ _ => rfl)) (fun us w hl h => h)
        · exact q_loadRat hp (free_of rfl) trivial (List.mem_iff_getElem?.2 ⟨3, rfl⟩) (.inl rfl) rfl (sq_out rfl rfl (fun _ _ => rfl)) (fun us w hl h => h)
        · exact q_call2 (F := (Fq.ivl a.num (a.den : Int) b.num (b.den : Int)).P) (G := (Fq.pair x5.num (x5.den : Int)).P) hp (free_of rfl) trivial (enq_Q_Has) (sq_in 0 rfl rfl (by simp) rfl (fun v w h => h)) (sq_in 1 rfl rfl (by simp) rfl (fun v w h => h)) (fun v v' w h h' => exQHasB h h' (rb_le Ba.out (by omega)) (rb_le Bb.out (by omega)) (rb_le Bx5.out (by omega)) V1.out)
        · exact q_move hp (free_of rfl) trivial (sq_in 2 rfl rfl (by simp) rfl (fun v w h => h))
        · exact q_loadIvl hp (free_of rfl) (gq_some rfl rfl (by simp) rfl (fun v w h => h)) (List.mem_iff_getElem?.2 ⟨2, rfl⟩) (.inl rfl) rfl (sq_out rfl rfl (fun _ _ => rfl)) (fun us w hl h => h)
        · exact q_loadRat hp (free_of rfl) (gq_some rfl rfl (by simp) rfl (fun v w h => h)) (List.mem_iff_getElem?.2 ⟨3, rfl⟩) (.inl rfl) rfl (sq_out rfl rfl (fun _ _ => rfl)) (fun us w hl h => h)
        · exact q_call2 (F := (Fq.ivl c.num (c.den : Int) d.num (d.den : Int)).P) (G := (Fq.pair x5.num (x5.den : Int)).P) hp (free_of rfl) (gq_some rfl rfl (by simp) rfl (fun v w h => h)) (enq_Q_Has) (sq_in 4 rfl rfl (by simp) rfl (fun v w h => h)) (sq_in 5 rfl rfl (by simp) rfl (fun v w h => h)) (fun v v' w h h' => exQHasB h h' (rb_le Bc.out (by omega)) (rb_le Bd.out (by omega)) (rb_le Bx5.out (by omega)) rfl)
        · exact q_two (F := fun v _ => v = .bool true) (G := fun v _ => v = .bool (decide (c ≤ x5) && decide (x5 ≤ d))) hp (free_of rfl) trivial (sq_in 3 rfl rfl (by simp) rfl (fun v w h => h)) (sq_in 6 rfl rfl (by simp) rfl (fun v w h => h)) (fun ρ w hc h h' => ⟨_, by simp [execOp, go_sem, h, h'], rfl⟩)
        · exact q_assign hp (free_of rfl) trivial (sq_in 7 rfl rfl (by simp) rfl (fun v w h => h))
        intro L vs w23 nb hL hC hn E23
        have e2 : vs 2 = .bool true := hC 2 (by simp)
        have e3 : vs 3 = .bool true := hC 3 (by simp)
        have e6 : vs 6 = .bool (decide (c ≤ x5) && decide (x5 ≤ d)) := hC 6 (by simp)
        have e7 : vs 7 = .bool (decide (c ≤ x5) && decide (x5 ≤ d)) := hC 7 (by simp)
        have e8 : vs 8 = .bool (decide (c ≤ x5) && decide (x5 ≤ d)) := hC 8 (by simp)
        have E : Fr w [(b22_6, 8, Fq.ivl 0 0 0 0), (b6_16, 8, Fq.ivl a.num (a.den : Int) b.num (b.den : Int)), (b6_17, 8, Fq.ivl c.num (c.den : Int) d.num (d.den : Int)), (b6_18, 4, Fq.pair x5.num (x5.den : Int)), (b3, 4, Fq.raw2 n5 a5 k5 c5 xs5 m5 r5 l5 q5 ys5), (b2, 8, Fq.raws2 n3 a3 k3 c3 xs3 m3 r3 l3 q3 ys3 n4 a4 k4 c4 xs4 m4 r4 l4 q4 ys4), (b1, 8, Fq.raws2 n1 a1 k1 c1 xs1 m1 r1 l1 q1 ys1 n2 a2 k2 c2 xs2 m2 r2 l2 q2 ys2)] w23 := E23
        rw [lay_all hL]
        simp only [putAll, dstOf, List.length_cons, List.length_nil, Nat.zero_add, Nat.reduceAdd, List.getElem?_toArray, List.getElem?_cons_zero, List.getElem?_cons_succ, Option.bind_some, Act.put, List.setIfInBounds_toArray, List.set_cons_succ, List.set_cons_zero]
        rw [e2, e3, e6, e7, e8]
        generalize vs 0 = u23_0
        generalize vs 1 = u23_1
        generalize vs 4 = u23_4
        generalize vs 5 = u23_5
        clear e2 e3 e6 e7 e8 hC hn E23 hL vs L nb
        go_wp2_with (fail)
        go_meet
        case rel => exact ⟨by rw [V1.out]; rfl, E⟩
      · have V1 : Hid ((decide (a ≤ x5) && decide (x5 ≤ b)) = false) := Bool.eq_false_iff.2 hv
        clear hv
        refine region_fr (C := [Fq.ivl a.num (a.den : Int) b.num (b.den : Int), Fq.pair x5.num (x5.den : Int), Fq.is (.bool false), Fq.is (.bool false), Fq.is (undef), Fq.is (undef), Fq.is (undef), Fq.is (.bool false), Fq.is (.bool false)]) (ks := [none, none, none, none, none, none, none]) (new := []) E rfl (by kernel_rfl) rfl rfl (fun hp => ⟨?_, ?_, ?_, ?_, ?_, ?_, ?_, ?_, ?_, trivial⟩) ?_
        · exact q_loadIvl hp (free_of rfl) trivial (List.mem_iff_getElem?.2 ⟨1, rfl⟩) (.inl rfl) rfl (sq_out rfl rfl (fun _ _ => rfl)) (fun us w hl h => h)
        · exact q_loadRat hp (free_of rfl) trivial (List.mem_iff_getElem?.2 ⟨3, rfl⟩) (.inl rfl) rfl (sq_out rfl rfl (fun _ _ => rfl)) (fun us w hl h => h)
        · exact q_call2 (F := (Fq.ivl a.num (a.den : Int) b.num (b.den : Int)).P) (G := (Fq.pair x5.num (x5.den : Int)).P) hp (free_of rfl) trivial (enq_Q_Has) (sq_in 0 rfl rfl (by simp) rfl (fun v w h => h)) (sq_in 1 rfl rfl (by simp) rfl (fun v w h => h)) (fun v v' w h h' => exQHasB h h' (rb_le Ba.out (by omega)) (rb_le Bb.out (by omega)) (rb_le Bx5.out (by omega)) V1.out)
        · exact q_move hp (free_of rfl) trivial (sq_in 2 rfl rfl (by simp) rfl (fun v w h => h))
        · exact q_skip hp (free_of rfl) rfl (gq_some rfl rfl (by simp) rfl (fun v w h => h)) (fun _ => rfl)
        · exact q_skip hp (free_of rfl) rfl (gq_some rfl rfl (by simp) rfl (fun v w h => h)) (fun _ => rfl)
        · exact q_skip hp (free_of rfl) rfl (gq_some rfl rfl (by simp) rfl (fun v w h => h)) (fun _ => rfl)
        · exact q_two (F := fun v _ => v = .bool false) (G := fun v _ => v = .bool false) hp (free_of rfl) trivial (sq_in 3 rfl rfl (by simp) rfl (fun v w h => h)) (sq_const (fun _ => rfl)) (fun ρ w hc h h' => ⟨_, by simp [execOp, go_sem, h, h'], rfl⟩)
        · exact q_assign hp (free_of rfl) trivial (sq_in 7 rfl rfl (by simp) rfl (fun v w h => h))
        intro L vs w24 nb hL hC hn E24
        have e2 : vs 2 = .bool false := hC 2 (by simp)
        have e3 : vs 3 = .bool false := hC 3 (by simp)
        have e4 : vs 4 = undef := hC 4 (by simp)
        have e5 : vs 5 = undef := hC 5 (by simp)
        have e6 : vs 6 = undef := hC 6 (by simp)
        have e7 : vs 7 = .bool false := hC 7 (by simp)
        have e8 : vs 8 = .bool false := hC 8 (by simp)
        have E : Fr w [(b22_6, 8, Fq.ivl 0 0 0 0), (b6_16, 8, Fq.ivl a.num (a.den : Int) b.num (b.den : Int)), (b6_17, 8, Fq.ivl c.num (c.den : Int) d.num (d.den : Int)), (b6_18, 4, Fq.pair x5.num (x5.den : Int)), (b3, 4, Fq.raw2 n5 a5 k5 c5 xs5 m5 r5 l5 q5 ys5), (b2, 8, Fq.raws2 n3 a3 k3 c3 xs3 m3 r3 l3 q3 ys3 n4 a4 k4 c4 xs4 m4 r4 l4 q4 ys4), (b1, 8, Fq.raws2 n1 a1 k1 c1 xs1 m1 r1 l1 q1 ys1 n2 a2 k2 c2 xs2 m2 r2 l2 q2 ys2)] w24 := E24
        rw [lay_all hL]
        simp only [putAll, dstOf, List.length_cons, List.length_nil, Nat.zero_add, Nat.reduceAdd, List.getElem?_toArray, List.getElem?_cons_zero, List.getElem?_cons_succ, Option.bind_some, Act.put, List.setIfInBounds_toArray, List.set_cons_succ, List.set_cons_zero]
        rw [e2, e3, e4, e5, e6, e7, e8]
        generalize vs 0 = u24_0
        generalize vs 1 = u24_1
        clear e2 e3 e4 e5 e6 e7 e8 hC hn E24 hL vs L nb
        go_wp2_with (fail)
        go_meet
        case rel => exact ⟨by rw [V1.out]; rfl, E⟩
    case rest =>
      clear E
      obtain ⟨rfl, E⟩ := hcut
      go_upto_region 7 with (fail)
      go_cut [71] from 16 (fun s W => s = .bool false ∧ Fr w [(b22_6, 8, Fq.ivl 0 0 0 0), (b6_16, 8, Fq.ivl a.num (a.den : Int) b.num (b.den : Int)), (b6_17, 8, Fq.ivl c.num (c.den : Int) d.num (d.den : Int)), (b6_18, 4, Fq.pair x5.num (x5.den : Int)), (b3, 4, Fq.raw2 n5 a5 k5 c5 xs5 m5 r5 l5 q5 ys5), (b2, 8, Fq.raws2 n3 a3 k3 c3 xs3 m3 r3 l3 q3 ys3 n4 a4 k4 c4 xs4 m4 r4 l4 q4 ys4), (b1, 8, Fq.raws2 n1 a1 k1 c1 xs1 m1 r1 l1 q1 ys1 n2 a2 k2 c2 xs2 m2 r2 l2 q2 ys2)] W)
      case first =>
        by_cases h1 : a ≤ x5
        · by_cases h2 : x5 ≤ b
          · have V1 : Hid ((decide (a ≤ x5) && decide (x5 ≤ b)) = true) := by show _ = _; simp [h1, h2]
            have T1 := hidd (cmpQ_leN.2 h1)
            have T2 := hidd (cmpQ_leN.2 h2)
            clear h1 h2
            by_cases hv : ((decide (a ≤ x5) && decide (x5 ≤ b)) && (decide (c ≤ x5) && decide (x5 ≤ d))) = true
            · have V2 : Hid (((decide (a ≤ x5) && decide (x5 ≤ b)) && (decide (c ≤ x5) && decide (x5 ≤ d))) = true) := hv
              clear hv
              exact absurd V2.out (by rw [both_no HM.out]; decide)
            · have V2 : Hid (((decide (a ≤ x5) && decide (x5 ≤ b)) && (decide (c ≤ x5) && decide (x5 ≤ d))) = false) := Bool.eq_false_iff.2 hv
              clear hv
              refine region_fr (C := [Fq.ivl a.num (a.den : Int) b.num (b.den : Int), Fq.pair x5.num (x5.den : Int), Fq.is (.bool true), Fq.is (.pointer (some ⟨b6_16, 0, none⟩)), Fq.pair a.num (a.den : Int), Fq.pair x5.num (x5.den : Int), Fq.is (.int .i64 (cmpQ a x5)), Fq.is (.bool true), Fq.is (.bool true), Fq.pair x5.num (x5.den : Int), Fq.is (.pointer (some ⟨b6_16, 4, none⟩)), Fq.pair b.num (b.den : Int), Fq.is (.int .i64 (cmpQ x5 b)), Fq.is (.bool true), Fq.is (.bool true), Fq.is (.bool false), Fq.is (.bool false), Fq.is (.bool false), Fq.is (.bool false), Fq.is (undef), Fq.is (undef), Fq.is (.bool false), Fq.is (.bool false)]) (ks := [none, none, none, none, none, none, none]) (new := []) E rfl (by kernel_rfl) rfl rfl (fun hp => ⟨?_, ?_, ?_, ?_, ?_, ?_, ?_, ?_, ?_, ?_, ?_, ?_, ?_, ?_, ?_, ?_, ?_, ?_, ?_, ?_, ?_, ?_, ?_, trivial⟩) ?_
              · exact q_loadIvl hp (free_of rfl) trivial (List.mem_iff_getElem?.2 ⟨1, rfl⟩) (.inl rfl) rfl (sq_out rfl rfl (fun _ _ => rfl)) (fun us w hl h => h)
              · exact q_loadRat hp (free_of rfl) trivial (List.mem_iff_getElem?.2 ⟨3, rfl⟩) (.inl rfl) rfl (sq_out rfl rfl (fun _ _ => rfl)) (fun us w hl h => h)
              · exact q_call2 (F := (Fq.ivl a.num (a.den : Int) b.num (b.den : Int)).P) (G := (Fq.pair x5.num (x5.den : Int)).P) hp (free_of rfl) trivial (enq_Q_Has) (sq_in 0 rfl rfl (by simp) rfl (fun v w h => h)) (sq_in 1 rfl rfl (by simp) rfl (fun v w h => h)) (fun v v' w h h' => exQHasB h h' (rb_le Ba.out (by omega)) (rb_le Bb.out (by omega)) (rb_le Bx5.out (by omega)) V1.out)
              · exact q_addr (b := b6_16) (off := 0) (off' := 0) hp (free_of rfl) trivial (sq_out rfl rfl (fun _ _ => rfl)) (fun ρ w h => by simp [execOp, go_sem, h]) (fun _ => rfl)
              · exact q_loadRatAt (off := 0) hp (free_of rfl) trivial (List.mem_iff_getElem?.2 ⟨1, rfl⟩) (.inl rfl) (Nat.le_of_ble_eq_true rfl) (sq_in 3 rfl rfl (by simp) rfl (fun v w h => h)) (fun us w hl h => ld_ivl0 hl h)
              · exact q_loadRat hp (free_of rfl) trivial (List.mem_iff_getElem?.2 ⟨3, rfl⟩) (.inl rfl) rfl (sq_out rfl rfl (fun _ _ => rfl)) (fun us w hl h => h)
              · exact q_call2 (F := (Fq.pair a.num (a.den : Int)).P) (G := (Fq.pair x5.num (x5.den : Int)).P) hp (free_of rfl) trivial (enq_S_Cmp) (sq_in 4 rfl rfl (by simp) rfl (fun v w h => h)) (sq_in 5 rfl rfl (by simp) rfl (fun v w h => h)) (fun v v' w h h' => exSCmpQ h h' (rb_le Ba.out (by omega)) (rb_le Bx5.out (by omega)))
              · exact q_one (F := fun v _ => v = .int .i64 (cmpQ a x5)) hp (free_of rfl) trivial (sq_in 6 rfl rfl (by simp) rfl (fun v w h => h)) (fun ρ w hc h => ⟨.bool true, by simp [execOp, go_sem, h, hc, T1.out], rfl⟩)
              · exact q_move hp (free_of rfl) trivial (sq_in 7 rfl rfl (by simp) rfl (fun v w h => h))
              · exact q_loadRat hp (free_of rfl) (gq_some rfl rfl (by simp) rfl (fun v w h => h)) (List.mem_iff_getElem?.2 ⟨3, rfl⟩) (.inl rfl) rfl (sq_out rfl rfl (fun _ _ => rfl)) (fun us w hl h => h)
              · exact q_addr (b := b6_16) (off := 0) (off' := 4) hp (free_of rfl) (gq_some rfl rfl (by simp) rfl (fun v w h => h)) (sq_out rfl rfl (fun _ _ => rfl)) (fun ρ w h => by simp [execOp, go_sem, h]) (fun _ => rfl)
              · exact q_loadRatAt (off := 4) hp (free_of rfl) (gq_some rfl rfl (by simp) rfl (fun v w h => h)) (List.mem_iff_getElem?.2 ⟨1, rfl⟩) (.inl rfl) (Nat.le_of_ble_eq_true rfl) (sq_in 10 rfl rfl (by simp) rfl (fun v w h => h)) (fun us w hl h => ld_ivl1 hl h)
              · exact q_call2 (F := (Fq.pair x5.num (x5.den : Int)).P) (G := (Fq.pair b.num (b.den : Int)).P) hp (free_of rfl) (gq_some rfl rfl (by simp) rfl (fun v w h => h)) (enq_S_Cmp) (sq_in 9 rfl rfl (by simp) rfl (fun v w h => h)) (sq_in 11 rfl rfl (by simp) rfl (fun v w h => h)) (fun v v' w h h' => exSCmpQ h h' (rb_le Bx5.out (by omega)) (rb_le Bb.out (by omega)))
              · exact q_one (F := fun v _ => v = .int .i64 (cmpQ x5 b)) hp (free_of rfl) (gq_some rfl rfl (by simp) rfl (fun v w h => h)) (sq_in 12 rfl rfl (by simp) rfl (fun v w h => h)) (fun ρ w hc h => ⟨.bool true, by simp [execOp, go_sem, h, hc, T2.out], rfl⟩)
              · exact q_two (F := fun v _ => v = .bool true) (G := fun v _ => v = .bool true) hp (free_of rfl) trivial (sq_in 8 rfl rfl (by simp) rfl (fun v w h => h)) (sq_in 13 rfl rfl (by simp) rfl (fun v w h => h)) (fun ρ w hc h h' => ⟨_, by simp [execOp, go_sem, h, h'], rfl⟩)
              · exact q_two (F := fun v _ => v = .bool true) (G := fun v _ => v = .bool true) hp (free_of rfl) trivial (sq_in 2 rfl rfl (by simp) rfl (fun v w h => h)) (sq_in 14 rfl rfl (by simp) rfl (fun v w h => h)) (fun ρ w hc h h' => ⟨.bool false, by simp [execOp, go_sem, h, h'], rfl⟩)
              · exact q_move hp (free_of rfl) trivial (sq_in 15 rfl rfl (by simp) rfl (fun v w h => h))
              · exact q_move hp (free_of rfl) (gq_some rfl rfl (by simp) rfl (fun v w h => h)) (sq_out rfl rfl (fun _ _ => congrArg Value.bool V2.out))
              · exact q_move hp (free_of rfl) (gq_some rfl rfl (by simp) rfl (fun v w h => h)) (sq_in 17 rfl rfl (by simp) rfl (fun v w h => h))
              · exact q_skip hp (free_of rfl) rfl (gq_some rfl rfl (by simp) rfl (fun v w h => h)) (fun _ => rfl)
              · exact q_skip hp (free_of rfl) rfl (gq_some rfl rfl (by simp) rfl (fun v w h => h)) (fun _ => rfl)
              · exact q_two (F := fun v _ => v = .bool false) (G := fun v _ => v = .bool false) hp (free_of rfl) (gq_some rfl rfl (by simp) rfl (fun v w h => h)) (sq_in 18 rfl rfl (by simp) rfl (fun v w h => h)) (sq_const (fun _ => rfl)) (fun ρ w hc h h' => ⟨_, by simp [execOp, go_sem, h, h'], rfl⟩)
              · exact q_two (F := fun v _ => v = .bool false) (G := fun v _ => v = .bool false) hp (free_of rfl) trivial (sq_in 16 rfl rfl (by simp) rfl (fun v w h => h)) (sq_in 21 rfl rfl (by simp) rfl (fun v w h => h)) (fun ρ w hc h h' => ⟨_, by simp [execOp, go_sem, h, h'], rfl⟩)
              intro L vs w25 nb hL hC hn E25
              have e2 : vs 2 = .bool true := hC 2 (by simp)
              have e3 : vs 3 = .pointer (some ⟨b6_16, 0, none⟩) := hC 3 (by simp)
              have e6 : vs 6 = .int .i64 (cmpQ a x5) := hC 6 (by simp)
              have e7 : vs 7 = .bool true := hC 7 (by simp)
              have e8 : vs 8 = .bool true := hC 8 (by simp)
              have e10 : vs 10 = .pointer (some ⟨b6_16, 4, none⟩) := hC 10 (by simp)
              have e12 : vs 12 = .int .i64 (cmpQ x5 b) := hC 12 (by simp)
              have e13 : vs 13 = .bool true := hC 13 (by simp)
              have e14 : vs 14 = .bool true := hC 14 (by simp)
              have e15 : vs 15 = .bool false := hC 15 (by simp)
              have e16 : vs 16 = .bool false := hC 16 (by simp)
              have e17 : vs 17 = .bool false := hC 17 (by simp)
              have e18 : vs 18 = .bool false := hC 18 (by simp)
              have e19 : vs 19 = undef := hC 19 (by simp)
              have e20 : vs 20 = undef := hC 20 (by simp)
              have e21 : vs 21 = .bool false := hC 21 (by simp)
              have e22 : vs 22 = .bool false := hC 22 (by simp)
              have E : Fr w [(b22_6, 8, Fq.ivl 0 0 0 0), (b6_16, 8, Fq.ivl a.num (a.den : Int) b.num (b.den : Int)), (b6_17, 8, Fq.ivl c.num (c.den : Int) d.num (d.den : Int)), (b6_18, 4, Fq.pair x5.num (x5.den : Int)), (b3, 4, Fq.raw2 n5 a5 k5 c5 xs5 m5 r5 l5 q5 ys5), (b2, 8, Fq.raws2 n3 a3 k3 c3 xs3 m3 r3 l3 q3 ys3 n4 a4 k4 c4 xs4 m4 r4 l4 q4 ys4), (b1, 8, Fq.raws2 n1 a1 k1 c1 xs1 m1 r1 l1 q1 ys1 n2 a2 k2 c2 xs2 m2 r2 l2 q2 ys2)] w25 := E25
              rw [lay_all hL]
              simp only [putAll, dstOf, List.length_cons, List.length_nil, Nat.zero_add, Nat.reduceAdd, List.getElem?_toArray, List.getElem?_cons_zero, List.getElem?_cons_succ, Option.bind_some, Act.put, List.setIfInBounds_toArray, List.set_cons_succ, List.set_cons_zero]
              rw [e2, e3, e6, e7, e8, e10, e12, e13, e14, e15, e16, e17, e18, e19, e20, e21, e22]
              generalize vs 0 = u25_0
              generalize vs 1 = u25_1
              generalize vs 4 = u25_4
              generalize vs 5 = u25_5
              generalize vs 9 = u25_9
              generalize vs 11 = u25_11
              clear e2 e3 e6 e7 e8 e10 e12 e13 e14 e15 e16 e17 e18 e19 e20 e21 e22 hC hn E25 hL vs L nb
              go_wp2_with (fail)
              go_meet
              case rel => exact ⟨rfl, E⟩
          · have V1 : Hid ((decide (a ≤ x5) && decide (x5 ≤ b)) = false) := by show _ = _; simp [h1, h2]
            have T1 := hidd (cmpQ_leN.2 h1)
            have T2 := hidd (mt cmpQ_leN.1 h2)
            clear h1 h2
            have V2 : Hid (((decide (a ≤ x5) && decide (x5 ≤ b)) && (decide (c ≤ x5) && decide (x5 ≤ d))) = false) := by show _ = _; rw [V1.out]; rfl
            refine region_fr (C := [Fq.ivl a.num (a.den : Int) b.num (b.den : Int), Fq.pair x5.num (x5.den : Int), Fq.is (.bool false), Fq.is (.pointer (some ⟨b6_16, 0, none⟩)), Fq.pair a.num (a.den : Int), Fq.pair x5.num (x5.den : Int), Fq.is (.int .i64 (cmpQ a x5)), Fq.is (.bool true), Fq.is (.bool true), Fq.pair x5.num (x5.den : Int), Fq.is (.pointer (some ⟨b6_16, 4, none⟩)), Fq.pair b.num (b.den : Int), Fq.is (.int .i64 (cmpQ x5 b)), Fq.is (.bool false), Fq.is (.bool false), Fq.is (.bool false), Fq.is (.bool false), Fq.is (.bool false), Fq.is (.bool false), Fq.is (undef), Fq.is (undef), Fq.is (.bool false), Fq.is (.bool false)]) (ks := [none, none, none, none, none, none, none]) (new := []) E rfl (by kernel_rfl) rfl rfl (fun hp => ⟨?_, ?_, ?_, ?_, ?_, ?_, ?_, ?_, ?_, ?_, ?_, ?_, ?_, ?_, ?_, ?_, ?_, ?_, ?_, ?_, ?_, ?_, ?_, trivial⟩) ?_
            · exact q_loadIvl hp (free_of rfl) trivial (List.mem_iff_getElem?.2 ⟨1, rfl⟩) (.inl rfl) rfl (sq_out rfl rfl (fun _ _ => rfl)) (fun us w hl h => h)
            · exact q_loadRat hp (free_of rfl) trivial (List.mem_iff_getElem?.2 ⟨3, rfl⟩) (.inl rfl) rfl (sq_out rfl rfl (fun _ _ => rfl)) (fun us w hl h => h)
            · exact q_call2 (F := (Fq.ivl a.num (a.den : Int) b.num (b.den : Int)).P) (G := (Fq.pair x5.num (x5.den : Int)).P) hp (free_of rfl) trivial (enq_Q_Has) (sq_in 0 rfl rfl (by simp) rfl (fun v w h => h)) (sq_in 1 rfl rfl (by simp) rfl (fun v w h => h)) (fun v v' w h h' => exQHasB h h' (rb_le Ba.out (by omega)) (rb_le Bb.out (by omega)) (rb_le Bx5.out (by omega)) V1.out)
            · exact q_addr (b := b6_16) (off := 0) (off' := 0) hp (free_of rfl) trivial (sq_out rfl rfl (fun _ _ => rfl)) (fun ρ w h => by simp [execOp, go_sem, h]) (fun _ => rfl)
            · exact q_loadRatAt (off := 0) hp (free_of rfl) trivial (List.mem_iff_getElem?.2 ⟨1, rfl⟩) (.inl rfl) (Nat.le_of_ble_eq_true rfl) (sq_in 3 rfl rfl (by simp) rfl (fun v w h => h)) (fun us w hl h => ld_ivl0 hl h)
            · exact q_loadRat hp (free_of rfl) trivial (List.mem_iff_getElem?.2 ⟨3, rfl⟩) (.inl rfl) rfl (sq_out rfl rfl (fun _ _ => rfl)) (fun us w hl h => h)
            · exact q_call2 (F := (Fq.pair a.num (a.den : Int)).P) (G := (Fq.pair x5.num (x5.den : Int)).P) hp (free_of rfl) trivial (enq_S_Cmp) (sq_in 4 rfl rfl (by simp) rfl (fun v w h => h)) (sq_in 5 rfl rfl (by simp) rfl (fun v w h => h)) (fun v v' w h h' => exSCmpQ h h' (rb_le Ba.out (by omega)) (rb_le Bx5.out (by omega)))
            · exact q_one (F := fun v _ => v = .int .i64 (cmpQ a x5)) hp (free_of rfl) trivial (sq_in 6 rfl rfl (by simp) rfl (fun v w h => h)) (fun ρ w hc h => ⟨.bool true, by simp [execOp, go_sem, h, hc, T1.out], rfl⟩)
            · exact q_move hp (free_of rfl) trivial (sq_in 7 rfl rfl (by simp) rfl (fun v w h => h))
            · exact q_loadRat hp (free_of rfl) (gq_some rfl rfl (by simp) rfl (fun v w h => h)) (List.mem_iff_getElem?.2 ⟨3, rfl⟩) (.inl rfl) rfl (sq_out rfl rfl (fun _ _ => rfl)) (fun us w hl h => h)
            · exact q_addr (b := b6_16) (off := 0) (off' := 4) hp (free_of rfl) (gq_some rfl rfl (by simp) rfl (fun v w h => h)) (sq_out rfl rfl (fun _ _ => rfl)) (fun ρ w h => by simp [execOp, go_sem, h]) (fun _ => rfl)
            · exact q_loadRatAt (off := 4) hp (free_of rfl) (gq_some rfl rfl (by simp) rfl (fun v w h => h)) (List.mem_iff_getElem?.2 ⟨1, rfl⟩) (.inl rfl) (Nat.le_of_ble_eq_true rfl) (sq_in 10 rfl rfl (by simp) rfl (fun v w h => h)) (fun us w hl h => ld_ivl1 hl h)
            · exact q_call2 (F := (Fq.pair x5.num (x5.den : Int)).P) (G := (Fq.pair b.num (b.den : Int)).P) hp (free_of rfl) (gq_some rfl rfl (by simp) rfl (fun v w h => h)) (enq_S_Cmp) (sq_in 9 rfl rfl (by simp) rfl (fun v w h => h)) (sq_in 11 rfl rfl (by simp) rfl (fun v w h => h)) (fun v v' w h h' => exSCmpQ h h' (rb_le Bx5.out (by omega)) (rb_le Bb.out (by omega)))
            · exact q_one (F := fun v _ => v = .int .i64 (cmpQ x5 b)) hp (free_of rfl) (gq_some rfl rfl (by simp) rfl (fun v w h => h)) (sq_in 12 rfl rfl (by simp) rfl (fun v w h => h)) (fun ρ w hc h => ⟨.bool false, by simp [execOp, go_sem, h, hc, T2.out], rfl⟩)
            · exact q_two (F := fun v _ => v = .bool true) (G := fun v _ => v = .bool false) hp (free_of rfl) trivial (sq_in 8 rfl rfl (by simp) rfl (fun v w h => h)) (sq_in 13 rfl rfl (by simp) rfl (fun v w h => h)) (fun ρ w hc h h' => ⟨_, by simp [execOp, go_sem, h, h'], rfl⟩)
            · exact q_two (F := fun v _ => v = .bool false) (G := fun v _ => v = .bool false) hp (free_of rfl) trivial (sq_in 2 rfl rfl (by simp) rfl (fun v w h => h)) (sq_in 14 rfl rfl (by simp) rfl (fun v w h => h)) (fun ρ w hc h h' => ⟨.bool false, by simp [execOp, go_sem, h, h'], rfl⟩)
            · exact q_move hp (free_of rfl) trivial (sq_in 15 rfl rfl (by simp) rfl (fun v w h => h))
            · exact q_move hp (free_of rfl) (gq_some rfl rfl (by simp) rfl (fun v w h => h)) (sq_out rfl rfl (fun _ _ => congrArg Value.bool V2.out))
            · exact q_move hp (free_of rfl) (gq_some rfl rfl (by simp) rfl (fun v w h => h)) (sq_in 17 rfl rfl (by simp) rfl (fun v w h => h))
            · exact q_skip hp (free_of rfl) rfl (gq_some rfl rfl (by simp) rfl (fun v w h => h)) (fun _ => rfl)
            · exact q_skip hp (free_of rfl) rfl (gq_some rfl rfl (by simp) rfl (fun v w h => h)) (fun _ => rfl)
            · exact q_two (F := fun v _ => v = .bool false) (G := fun v _ => v = .bool false) hp (free_of rfl) (gq_some rfl rfl (by simp) rfl (fun v w h => h)) (sq_in 18 rfl rfl (by simp) rfl (fun v w h => h)) (sq_const (fun _ => rfl)) (fun ρ w hc h h' => ⟨_, by simp [execOp, go_sem, h, h'], rfl⟩)
            · exact q_two (F := fun v _ => v = .bool false) (G := fun v _ => v = .bool false) hp (free_of rfl) trivial (sq_in 16 rfl rfl (by simp) rfl (fun v w h => h)) (sq_in 21 rfl rfl (by simp) rfl (fun v w h => h)) (fun ρ w hc h h' => ⟨_, by simp [execOp, go_sem, h, h'], rfl⟩)
            intro L vs w26 nb hL hC hn E26
            have e2 : vs 2 = .bool false := hC 2 (by simp)
            have e3 : vs 3 = .pointer (some ⟨b6_16, 0, none⟩) := hC 3 (by simp)
            have e6 : vs 6 = .int .i64 (cmpQ a x5) := hC 6 (by simp)
            have e7 : vs 7 = .bool true := hC 7 (by simp)
            have e8 : vs 8 = .bool true := hC 8 (by simp)
            have e10 : vs 10 = .pointer (some ⟨b6_16, 4, none⟩) := hC 10 (by simp)
            have e12 : vs 12 = .int .i64 (cmpQ x5 b) := hC 12 (by simp)
            have e13 : vs 13 = .bool false := hC 13 (by simp)
            have e14 : vs 14 = .bool false := hC 14 (by simp)
            have e15 : vs 15 = .bool false := hC 15 (by simp)
            have e16 : vs 16 = .bool false := hC 16 (by simp)
            have e17 : vs 17 = .bool false := hC 17 (by simp)
            have e18 : vs 18 = .bool false := hC 18 (by simp)
            have e19 : vs 19 = undef := hC 19 (by simp)
            have e20 : vs 20 = undef := hC 20 (by simp)
            have e21 : vs 21 = .bool false := hC 21 (by simp)
            have e22 : vs 22 = .bool false := hC 22 (by simp)
            have E : Fr w [(b22_6, 8, Fq.ivl 0 0 0 0), (b6_16, 8, Fq.ivl a.num (a.den : Int) b.num (b.den : Int)), (b6_17, 8, Fq.ivl c.num (c.den : Int) d.num (d.den : Int)), (b6_18, 4, Fq.pair x5.num (x5.den : Int)), (b3, 4, Fq.raw2 n5 a5 k5 c5 xs5 m5 r5 l5 q5 ys5), (b2, 8, Fq.raws2 n3 a3 k3 c3 xs3 m3 r3 l3 q3 ys3 n4 a4 k4 c4 xs4 m4 r4 l4 q4 ys4), (b1, 8, Fq.raws2 n1 a1 k1 c1 xs1 m1 r1 l1 q1 ys1 n2 a2 k2 c2 xs2 m2 r2 l2 q2 ys2)] w26 := E26
            rw [lay_all hL]
            simp only [putAll, dstOf, List.length_cons, List.length_nil, Nat.zero_add, Nat.reduceAdd, List.getElem?_toArray, List.getElem?_cons_zero, List.getElem?_cons_succ, Option.bind_some, Act.put, List.setIfInBounds_toArray, List.set_cons_succ, List.set_cons_zero]
            rw [e2, e3, e6, e7, e8, e10, e12, e13, e14, e15, e16, e17, e18, e19, e20, e21, e22]
            generalize vs 0 = u26_0
            generalize vs 1 = u26_1
            generalize vs 4 = u26_4
            generalize vs 5 = u26_5
            generalize vs 9 = u26_9
            generalize vs 11 = u26_11
            clear e2 e3 e6 e7 e8 e10 e12 e13 e14 e15 e16 e17 e18 e19 e20 e21 e22 hC hn E26 hL vs L nb
            go_wp2_with (fail)
            go_meet
            case rel => exact ⟨rfl, E⟩
        · have V1 : Hid ((decide (a ≤ x5) && decide (x5 ≤ b)) = false) := by show _ = _; simp [h1]
          have T1 := hidd (mt cmpQ_leN.1 h1)
          clear h1
          have V2 : Hid (((decide (a ≤ x5) && decide (x5 ≤ b)) && (decide (c ≤ x5) && decide (x5 ≤ d))) = false) := by show _ = _; rw [V1.out]; rfl
          refine region_fr (C := [Fq.ivl a.num (a.den : Int) b.num (b.den : Int), Fq.pair x5.num (x5.den : Int), Fq.is (.bool false), Fq.is (.pointer (some ⟨b6_16, 0, none⟩)), Fq.pair a.num (a.den : Int), Fq.pair x5.num (x5.den : Int), Fq.is (.int .i64 (cmpQ a x5)), Fq.is (.bool false), Fq.is (.bool false), Fq.is (undef), Fq.is (undef), Fq.is (undef), Fq.is (undef), Fq.is (undef), Fq.is (.bool false), Fq.is (.bool false), Fq.is (.bool false), Fq.is (.bool false), Fq.is (.bool false), Fq.is (undef), Fq.is (undef), Fq.is (.bool false), Fq.is (.bool false)]) (ks := [none, none, none, none, none, none, none]) (new := []) E rfl (by kernel_rfl) rfl rfl (fun hp => ⟨?_, ?_, ?_, ?_, ?_, ?_, ?_, ?_, ?_, ?_, ?_, ?_, ?_, ?_, ?_, ?_, ?_, ?_, ?_, ?_, ?_, ?_, ?_, trivial⟩) ?_
          · exact q_loadIvl hp (free_of rfl) trivial (List.mem_iff_getElem?.2 ⟨1, rfl⟩) (.inl rfl) rfl (sq_out rfl rfl (fun _ _ => rfl)) (fun us w hl h => h)
          · exact q_loadRat hp (free_of rfl) trivial (List.mem_iff_getElem?.2 ⟨3, rfl⟩) (.inl rfl) rfl (sq_out rfl rfl (fun _ _ => rfl)) (fun us w hl h => h)
          · exact q_call2 (F := (Fq.ivl a.num (a.den : Int) b.num (b.den : Int)).P) (G := (Fq.pair x5.num (x5.den : Int)).P) hp (free_of rfl) trivial (enq_Q_Has) (sq_in 0 rfl rfl (by simp) rfl (fun v w h => h)) (sq_in 1 rfl rfl (by simp) rfl (fun v w h => h)) (fun v v' w h h' => exQHasB h h' (rb_le Ba.out (by omega)) (rb_le Bb.out (by omega)) (rb_le Bx5.out (by omega)) V1.out)
          · exact q_addr (b := b6_16) (off := 0) (off' := 0) hp (free_of rfl) trivial (sq_out rfl rfl (fun _ _ => rfl)) (fun ρ w h => by simp [execOp, go_sem, h]) (fun _ => rfl)
          · exact q_loadRatAt (off := 0) hp (free_of rfl) trivial (List.mem_iff_getElem?.2 ⟨1, rfl⟩) (.inl rfl) (Nat.le_of_ble_eq_true rfl) (sq_in 3 rfl rfl (by simp) rfl (fun v w h => h)) (fun us w hl h => ld_ivl0 hl h)
          · exact q_loadRat hp (free_of rfl) trivial (List.mem_iff_getElem?.2 ⟨3, rfl⟩) (.inl rfl) rfl (sq_out rfl rfl (fun _ _ => rfl)) (fun us w hl h => h)
          · exact q_call2 (F := (Fq.pair a.num (a.den : Int)).P) (G := (Fq.pair x5.num (x5.den : Int)).P) hp (free_of rfl) trivial (enq_S_Cmp) (sq_in 4 rfl rfl (by simp) rfl (fun v w h => h)) (sq_in 5 rfl rfl (by simp) rfl (fun v w h => h)) (fun v v' w h h' => exSCmpQ h h' (rb_le Ba.out (by omega)) (rb_le Bx5.out (by omega)))
          · exact q_one (F := fun v _ => v = .int .i64 (cmpQ a x5)) hp (free_of rfl) trivial (sq_in 6 rfl rfl (by simp) rfl (fun v w h => h)) (fun ρ w hc h => ⟨.bool false, by simp [execOp, go_sem, h, hc, T1.out], rfl⟩)
          · exact q_move hp (free_of rfl) trivial (sq_in 7 rfl rfl (by simp) rfl (fun v w h => h))
          · exact q_skip hp (free_of rfl) rfl (gq_some rfl rfl (by simp) rfl (fun v w h => h)) (fun _ => rfl)
          · exact q_skip hp (free_of rfl) rfl (gq_some rfl rfl (by simp) rfl (fun v w h => h)) (fun _ => rfl)
          · exact q_skip hp (free_of rfl) rfl (gq_some rfl rfl (by simp) rfl (fun v w h => h)) (fun _ => rfl)
          · exact q_skip hp (free_of rfl) rfl (gq_some rfl rfl (by simp) rfl (fun v w h => h)) (fun _ => rfl)
          · exact q_skip hp (free_of rfl) rfl (gq_some rfl rfl (by simp) rfl (fun v w h => h)) (fun _ => rfl)
          · exact q_two (F := fun v _ => v = .bool false) (G := fun v _ => v = .bool false) hp (free_of rfl) trivial (sq_in 8 rfl rfl (by simp) rfl (fun v w h => h)) (sq_const (fun _ => rfl)) (fun ρ w hc h h' => ⟨_, by simp [execOp, go_sem, h, h'], rfl⟩)
          · exact q_two (F := fun v _ => v = .bool false) (G := fun v _ => v = .bool false) hp (free_of rfl) trivial (sq_in 2 rfl rfl (by simp) rfl (fun v w h => h)) (sq_in 14 rfl rfl (by simp) rfl (fun v w h => h)) (fun ρ w hc h h' => ⟨.bool false, by simp [execOp, go_sem, h, h'], rfl⟩)
          · exact q_move hp (free_of rfl) trivial (sq_in 15 rfl rfl (by simp) rfl (fun v w h => h))
          · exact q_move hp (free_of rfl) (gq_some rfl rfl (by simp) rfl (fun v w h => h)) (sq_out rfl rfl (fun _ _ => congrArg Value.bool V2.out))
          · exact q_move hp (free_of rfl) (gq_some rfl rfl (by simp) rfl (fun v w h => h)) (sq_in 17 rfl rfl (by simp) rfl (fun v w h => h))
          · exact q_skip hp (free_of rfl) rfl (gq_some rfl rfl (by simp) rfl (fun v w h => h)) (fun _ => rfl)
          · exact q_skip hp (free_of rfl) rfl (gq_some rfl rfl (by simp) rfl (fun v w h => h)) (fun _ => rfl)
          · exact q_two (F := fun v _ => v = .bool false) (G := fun v _ => v = .bool false) hp (free_of rfl) (gq_some rfl rfl (by simp) rfl (fun v w h => h)) (sq_in 18 rfl rfl (by simp) rfl (fun v w h => h)) (sq_const (fun _ => rfl)) (fun ρ w hc h h' => ⟨_, by simp [execOp, go_sem, h, h'], rfl⟩)
          · exact q_two (F := fun v _ => v = .bool false) (G := fun v _ => v = .bool false) hp (free_of rfl) trivial (sq_in 16 rfl rfl (by simp) rfl (fun v w h => h)) (sq_in 21 rfl rfl (by simp) rfl (fun v w h => h)) (fun ρ w hc h h' => ⟨_, by simp [execOp, go_sem, h, h'], rfl⟩)
          intro L vs w27 nb hL hC hn E27
          have e2 : vs 2 = .bool false := hC 2 (by simp)
          have e3 : vs 3 = .pointer (some ⟨b6_16, 0, none⟩) := hC 3 (by simp)
          have e6 : vs 6 = .int .i64 (cmpQ a x5) := hC 6 (by simp)
          have e7 : vs 7 = .bool false := hC 7 (by simp)
          have e8 : vs 8 = .bool false := hC 8 (by simp)
          have e9 : vs 9 = undef := hC 9 (by simp)
          have e10 : vs 10 = undef := hC 10 (by simp)
          have e11 : vs 11 = undef := hC 11 (by simp)
          have e12 : vs 12 = undef := hC 12 (by simp)
          have e13 : vs 13 = undef := hC 13 (by simp)
          have e14 : vs 14 = .bool false := hC 14 (by simp)
          have e15 : vs 15 = .bool false := hC 15 (by simp)
          have e16 : vs 16 = .bool false := hC 16 (by simp)
          have e17 : vs 17 = .bool false := hC 17 (by simp)
          have e18 : vs 18 = .bool false := hC 18 (by simp)
          have e19 : vs 19 = undef := hC 19 (by simp)
          have e20 : vs 20 = undef := hC 20 (by simp)
          have e21 : vs 21 = .bool false := hC 21 (by simp)
          have e22 : vs 22 = .bool false := hC 22 (by simp)
          have E : Fr w [(b22_6, 8, Fq.ivl 0 0 0 0), (b6_16, 8, Fq.ivl a.num (a.den : Int) b.num (b.den : Int)), (b6_17, 8, Fq.ivl c.num (c.den : Int) d.num (d.den : Int)), (b6_18, 4, Fq.pair x5.num (x5.den : Int)), (b3, 4, Fq.raw2 n5 a5 k5 c5 xs5 m5 r5 l5 q5 ys5), (b2, 8, Fq.raws2 n3 a3 k3 c3 xs3 m3 r3 l3 q3 ys3 n4 a4 k4 c4 xs4 m4 r4 l4 q4 ys4), (b1, 8, Fq.raws2 n1 a1 k1 c1 xs1 m1 r1 l1 q1 ys1 n2 a2 k2 c2 xs2 m2 r2 l2 q2 ys2)] w27 := E27
          rw [lay_all hL]
          simp only [putAll, dstOf, List.length_cons, List.length_nil, Nat.zero_add, Nat.reduceAdd, List.getElem?_toArray, List.getElem?_cons_zero, List.getElem?_cons_succ, Option.bind_some, Act.put, List.setIfInBounds_toArray, List.set_cons_succ, List.set_cons_zero]
          rw [e2, e3, e6, e7, e8, e9, e10, e11, e12, e13, e14, e15, e16, e17, e18, e19, e20, e21, e22]
          generalize vs 0 = u27_0
          generalize vs 1 = u27_1
          generalize vs 4 = u27_4
          generalize vs 5 = u27_5
          clear e2 e3 e6 e7 e8 e9 e10 e11 e12 e13 e14 e15 e16 e17 e18 e19 e20 e21 e22 hC hn E27 hL vs L nb
          go_wp2_with (fail)
          go_meet
          case rel => exact ⟨rfl, E⟩
      case rest =>
        clear E
        obtain ⟨rfl, E⟩ := hcut
        go_upto_region 9 with (fail)
        go_cut [14] from 16 (fun s W => s = .bool true ∧ Fr w [(b22_6, 8, Fq.ivl 0 0 0 0), (b6_16, 8, Fq.ivl a.num (a.den : Int) b.num (b.den : Int)), (b6_17, 8, Fq.ivl c.num (c.den : Int) d.num (d.den : Int)), (b6_18, 4, Fq.pair x5.num (x5.den : Int)), (b3, 4, Fq.raw2 n5 a5 k5 c5 xs5 m5 r5 l5 q5 ys5), (b2, 8, Fq.raws2 n3 a3 k3 c3 xs3 m3 r3 l3 q3 ys3 n4 a4 k4 c4 xs4 m4 r4 l4 q4 ys4), (b1, 8, Fq.raws2 n1 a1 k1 c1 xs1 m1 r1 l1 q1 ys1 n2 a2 k2 c2 xs2 m2 r2 l2 q2 ys2)] W)
        case first =>
          by_cases h1 : b < c
          · have T1 := hidd (cmpQ_lt.2 h1)
            clear h1
            refine region_fr (C := [Fq.is (.pointer (some ⟨b6_16, 4, none⟩)), Fq.pair b.num (b.den : Int), Fq.is (.pointer (some ⟨b6_17, 0, none⟩)), Fq.pair c.num (c.den : Int), Fq.is (.int .i64 (cmpQ b c)), Fq.is (.bool true), Fq.is (.bool true), Fq.is (undef), Fq.is (undef), Fq.is (undef), Fq.is (undef), Fq.is (undef), Fq.is (undef), Fq.is (.bool true), Fq.is (.bool true)]) (ks := [none, none, none, none, none, none, none]) (new := []) E rfl (by kernel_rfl) rfl rfl (fun hp => ⟨?_, ?_, ?_, ?_, ?_, ?_, ?_, ?_, ?_, ?_, ?_, ?_, ?_, ?_, ?_, trivial⟩) ?_
            · exact q_addr (b := b6_16) (off := 0) (off' := 4) hp (free_of rfl) trivial (sq_out rfl rfl (fun _ _ => rfl)) (fun ρ w h => by simp [execOp, go_sem, h]) (fun _ => rfl)
            · exact q_loadRatAt (off := 4) hp (free_of rfl) trivial (List.mem_iff_getElem?.2 ⟨1, rfl⟩) (.inl rfl) (Nat.le_of_ble_eq_true rfl) (sq_in 0 rfl rfl (by simp) rfl (fun v w h => h)) (fun us w hl h => ld_ivl1 hl h)
            · exact q_addr (b := b6_17) (off := 0) (off' := 0) hp (free_of rfl) trivial (sq_out rfl rfl (fun _ _ => rfl)) (fun ρ w h => by simp [execOp, go_sem, h]) (fun _ => rfl)
            · exact q_loadRatAt (off := 0) hp (free_of rfl) trivial (List.mem_iff_getElem?.2 ⟨2, rfl⟩) (.inl rfl) (Nat.le_of_ble_eq_true rfl) (sq_in 2 rfl rfl (by simp) rfl (fun v w h => h)) (fun us w hl h => ld_ivl0 hl h)
            · exact q_call2 (F := (Fq.pair b.num (b.den : Int)).P) (G := (Fq.pair c.num (c.den : Int)).P) hp (free_of rfl) trivial (enq_S_Cmp) (sq_in 1 rfl rfl (by simp) rfl (fun v w h => h)) (sq_in 3 rfl rfl (by simp) rfl (fun v w h => h)) (fun v v' w h h' => exSCmpQ h h' (rb_le Bb.out (by omega)) (rb_le Bc.out (by omega)))
            · exact q_one (F := fun v _ => v = .int .i64 (cmpQ b c)) hp (free_of rfl) trivial (sq_in 4 rfl rfl (by simp) rfl (fun v w h => h)) (fun ρ w hc h => ⟨.bool true, by simp [execOp, go_sem, h, hc, T1.out], rfl⟩)
            · exact q_move hp (free_of rfl) trivial (sq_in 5 rfl rfl (by simp) rfl (fun v w h => h))
            · exact q_skip hp (free_of rfl) rfl (gq_some rfl rfl (by simp) rfl (fun v w h => h)) (fun _ => rfl)
            · exact q_skip hp (free_of rfl) rfl (gq_some rfl rfl (by simp) rfl (fun v w h => h)) (fun _ => rfl)
            · exact q_skip hp (free_of rfl) rfl (gq_some rfl rfl (by simp) rfl (fun v w h => h)) (fun _ => rfl)
            · exact q_skip hp (free_of rfl) rfl (gq_some rfl rfl (by simp) rfl (fun v w h => h)) (fun _ => rfl)
            · exact q_skip hp (free_of rfl) rfl (gq_some rfl rfl (by simp) rfl (fun v w h => h)) (fun _ => rfl)
            · exact q_skip hp (free_of rfl) rfl (gq_some rfl rfl (by simp) rfl (fun v w h => h)) (fun _ => rfl)
            · exact q_two (F := fun v _ => v = .bool true) (G := fun v _ => v = .bool true) hp (free_of rfl) trivial (sq_in 6 rfl rfl (by simp) rfl (fun v w h => h)) (sq_const (fun _ => rfl)) (fun ρ w hc h h' => ⟨_, by simp [execOp, go_sem, h, h'], rfl⟩)
            · exact q_assign hp (free_of rfl) trivial (sq_in 13 rfl rfl (by simp) rfl (fun v w h => h))
            intro L vs w28 nb hL hC hn E28
            have e0 : vs 0 = .pointer (some ⟨b6_16, 4, none⟩) := hC 0 (by simp)
            have e2 : vs 2 = .pointer (some ⟨b6_17, 0, none⟩) := hC 2 (by simp)
            have e4 : vs 4 = .int .i64 (cmpQ b c) := hC 4 (by simp)
            have e5 : vs 5 = .bool true := hC 5 (by simp)
            have e6 : vs 6 = .bool true := hC 6 (by simp)
            have e7 : vs 7 = undef := hC 7 (by simp)
            have e8 : vs 8 = undef := hC 8 (by simp)
            have e9 : vs 9 = undef := hC 9 (by simp)
            have e10 : vs 10 = undef := hC 10 (by simp)
            have e11 : vs 11 = undef := hC 11 (by simp)
            have e12 : vs 12 = undef := hC 12 (by simp)
            have e13 : vs 13 = .bool true := hC 13 (by simp)
            have e14 : vs 14 = .bool true := hC 14 (by simp)
            have E : Fr w [(b22_6, 8, Fq.ivl 0 0 0 0), (b6_16, 8, Fq.ivl a.num (a.den : Int) b.num (b.den : Int)), (b6_17, 8, Fq.ivl c.num (c.den : Int) d.num (d.den : Int)), (b6_18, 4, Fq.pair x5.num (x5.den : Int)), (b3, 4, Fq.raw2 n5 a5 k5 c5 xs5 m5 r5 l5 q5 ys5), (b2, 8, Fq.raws2 n3 a3 k3 c3 xs3 m3 r3 l3 q3 ys3 n4 a4 k4 c4 xs4 m4 r4 l4 q4 ys4), (b1, 8, Fq.raws2 n1 a1 k1 c1 xs1 m1 r1 l1 q1 ys1 n2 a2 k2 c2 xs2 m2 r2 l2 q2 ys2)] w28 := E28
            rw [lay_all hL]
            simp only [putAll, dstOf, List.length_cons, List.length_nil, Nat.zero_add, Nat.reduceAdd, List.getElem?_toArray, List.getElem?_cons_zero, List.getElem?_cons_succ, Option.bind_some, Act.put, List.setIfInBounds_toArray, List.set_cons_succ, List.set_cons_zero]
            rw [e0, e2, e4, e5, e6, e7, e8, e9, e10, e11, e12, e13, e14]
            generalize vs 1 = u28_1
            generalize vs 3 = u28_3
            clear e0 e2 e4 e5 e6 e7 e8 e9 e10 e11 e12 e13 e14 hC hn E28 hL vs L nb
            go_wp2_with (fail)
            go_meet
            case rel => exact ⟨rfl, E⟩
          · have T2 : Hid (cmpQ d a < 0) := cmpQ_lt.2 (by
              refine Rat.not_le.1 fun h2 => ?_
              exact Rat.not_le.2 HM.out ((meet_iff Oa.out Oc.out).2 ⟨Rat.not_lt.1 h1, h2⟩))
            have T1 := hidd (mt cmpQ_lt.1 h1)
            clear h1
            refine region_fr (C := [Fq.is (.pointer (some ⟨b6_16, 4, none⟩)), Fq.pair b.num (b.den : Int), Fq.is (.pointer (some ⟨b6_17, 0, none⟩)), Fq.pair c.num (c.den : Int), Fq.is (.int .i64 (cmpQ b c)), Fq.is (.bool false), Fq.is (.bool false), Fq.is (.pointer (some ⟨b6_17, 4, none⟩)), Fq.pair d.num (d.den : Int), Fq.is (.pointer (some ⟨b6_16, 0, none⟩)), Fq.pair a.num (a.den : Int), Fq.is (.int .i64 (cmpQ d a)), Fq.is (.bool true), Fq.is (.bool true), Fq.is (.bool true)]) (ks := [none, none, none, none, none, none, none]) (new := []) E rfl (by kernel_rfl) rfl rfl (fun hp => ⟨?_, ?_, ?_, ?_, ?_, ?_, ?_, ?_, ?_, ?_, ?_, ?_, ?_, ?_, ?_, trivial⟩) ?_
            · exact q_addr (b := b6_16) (off := 0) (off' := 4) hp (free_of rfl) trivial (sq_out rfl rfl (fun _ _ => rfl)) (fun ρ w h => by simp [execOp, go_sem, h]) (fun _ => rfl)
            · exact q_loadRatAt (off := 4) hp (free_of rfl) trivial (List.mem_iff_getElem?.2 ⟨1, rfl⟩) (.inl rfl) (Nat.le_of_ble_eq_true rfl) (sq_in 0 rfl rfl (by simp) rfl (fun v w h => h)) (fun us w hl h => ld_ivl1 hl h)
            · exact q_addr (b := b6_17) (off := 0) (off' := 0) hp (free_of rfl) trivial (sq_out rfl rfl (fun _ _ => rfl)) (fun ρ w h => by simp [execOp, go_sem, h]) (fun _ => rfl)
            · exact q_loadRatAt (off := 0) hp (free_of rfl) trivial (List.mem_iff_getElem?.2 ⟨2, rfl⟩) (.inl rfl) (Nat.le_of_ble_eq_true rfl) (sq_in 2 rfl rfl (by simp) rfl (fun v w h => h)) (fun us w hl h => ld_ivl0 hl h)
            · exact q_call2 (F := (Fq.pair b.num (b.den : Int)).P) (G := (Fq.pair c.num (c.den : Int)).P) hp (free_of rfl) trivial (enq_S_Cmp) (sq_in 1 rfl rfl (by simp) rfl (fun v w h => h)) (sq_in 3 rfl rfl (by simp) rfl (fun v w h => h)) (fun v v' w h h' => exSCmpQ h h' (rb_le Bb.out (by omega)) (rb_le Bc.out (by omega)))
            · exact q_one (F := fun v _ => v = .int .i64 (cmpQ b c)) hp (free_of rfl) trivial (sq_in 4 rfl rfl (by simp) rfl (fun v w h => h)) (fun ρ w hc h => ⟨.bool false, by simp [execOp, go_sem, h, hc, T1.out], rfl⟩)
            · exact q_move hp (free_of rfl) trivial (sq_in 5 rfl rfl (by simp) rfl (fun v w h => h))
            · exact q_addr (b := b6_17) (off := 0) (off' := 4) hp (free_of rfl) (gq_some rfl rfl (by simp) rfl (fun v w h => h)) (sq_out rfl rfl (fun _ _ => rfl)) (fun ρ w h => by simp [execOp, go_sem, h]) (fun _ => rfl)
            · exact q_loadRatAt (off := 4) hp (free_of rfl) (gq_some rfl rfl (by simp) rfl (fun v w h => h)) (List.mem_iff_getElem?.2 ⟨2, rfl⟩) (.inl rfl) (Nat.le_of_ble_eq_true rfl) (sq_in 7 rfl rfl (by simp) rfl (fun v w h => h)) (fun us w hl h => ld_ivl1 hl h)
            · exact q_addr (b := b6_16) (off := 0) (off' := 0) hp (free_of rfl) (gq_some rfl rfl (by simp) rfl (fun v w h => h)) (sq_out rfl rfl (fun _ _ => rfl)) (fun ρ w h => by simp [execOp, go_sem, h]) (fun _ => rfl)
            · exact q_loadRatAt (off := 0) hp (free_of rfl) (gq_some rfl rfl (by simp) rfl (fun v w h => h)) (List.mem_iff_getElem?.2 ⟨1, rfl⟩) (.inl rfl) (Nat.le_of_ble_eq_true rfl) (sq_in 9 rfl rfl (by simp) rfl (fun v w h => h)) (fun us w hl h => ld_ivl0 hl h)
            · exact q_call2 (F := (Fq.pair d.num (d.den : Int)).P) (G := (Fq.pair a.num (a.den : Int)).P) hp (free_of rfl) (gq_some rfl rfl (by simp) rfl (fun v w h => h)) (enq_S_Cmp) (sq_in 8 rfl rfl (by simp) rfl (fun v w h => h)) (sq_in 10 rfl rfl (by simp) rfl (fun v w h => h)) (fun v v' w h h' => exSCmpQ h h' (rb_le Bd.out (by omega)) (rb_le Ba.out (by omega)))
            · exact q_one (F := fun v _ => v = .int .i64 (cmpQ d a)) hp (free_of rfl) (gq_some rfl rfl (by simp) rfl (fun v w h => h)) (sq_in 11 rfl rfl (by simp) rfl (fun v w h => h)) (fun ρ w hc h => ⟨.bool true, by simp [execOp, go_sem, h, hc, T2.out], rfl⟩)
            · exact q_two (F := fun v _ => v = .bool false) (G := fun v _ => v = .bool true) hp (free_of rfl) trivial (sq_in 6 rfl rfl (by simp) rfl (fun v w h => h)) (sq_in 12 rfl rfl (by simp) rfl (fun v w h => h)) (fun ρ w hc h h' => ⟨_, by simp [execOp, go_sem, h, h'], rfl⟩)
            · exact q_assign hp (free_of rfl) trivial (sq_in 13 rfl rfl (by simp) rfl (fun v w h => h))
            intro L vs w29 nb hL hC hn E29
            have e0 : vs 0 = .pointer (some ⟨b6_16, 4, none⟩) := hC 0 (by simp)
            have e2 : vs 2 = .pointer (some ⟨b6_17, 0, none⟩) := hC 2 (by simp)
            have e4 : vs 4 = .int .i64 (cmpQ b c) := hC 4 (by simp)
            have e5 : vs 5 = .bool false := hC 5 (by simp)
            have e6 : vs 6 = .bool false := hC 6 (by simp)
            have e7 : vs 7 = .pointer (some ⟨b6_17, 4, none⟩) := hC 7 (by simp)
            have e9 : vs 9 = .pointer (some ⟨b6_16, 0, none⟩) := hC 9 (by simp)
            have e11 : vs 11 = .int .i64 (cmpQ d a) := hC 11 (by simp)
            have e12 : vs 12 = .bool true := hC 12 (by simp)
            have e13 : vs 13 = .bool true := hC 13 (by simp)
            have e14 : vs 14 = .bool true := hC 14 (by simp)
            have E : Fr w [(b22_6, 8, Fq.ivl 0 0 0 0), (b6_16, 8, Fq.ivl a.num (a.den : Int) b.num (b.den : Int)), (b6_17, 8, Fq.ivl c.num (c.den : Int) d.num (d.den : Int)), (b6_18, 4, Fq.pair x5.num (x5.den : Int)), (b3, 4, Fq.raw2 n5 a5 k5 c5 xs5 m5 r5 l5 q5 ys5), (b2, 8, Fq.raws2 n3 a3 k3 c3 xs3 m3 r3 l3 q3 ys3 n4 a4 k4 c4 xs4 m4 r4 l4 q4 ys4), (b1, 8, Fq.raws2 n1 a1 k1 c1 xs1 m1 r1 l1 q1 ys1 n2 a2 k2 c2 xs2 m2 r2 l2 q2 ys2)] w29 := E29
            rw [lay_all hL]
            simp only [putAll, dstOf, List.length_cons, List.length_nil, Nat.zero_add, Nat.reduceAdd, List.getElem?_toArray, List.getElem?_cons_zero, List.getElem?_cons_succ, Option.bind_some, Act.put, List.setIfInBounds_toArray, List.set_cons_succ, List.set_cons_zero]
            rw [e0, e2, e4, e5, e6, e7, e9, e11, e12, e13, e14]
            generalize vs 1 = u29_1
            generalize vs 3 = u29_3
            generalize vs 8 = u29_8
            generalize vs 10 = u29_10
            clear e0 e2 e4 e5 e6 e7 e9 e11 e12 e13 e14 hC hn E29 hL vs L nb
            go_wp2_with (fail)
            go_meet
            case rel => exact ⟨rfl, E⟩
        case rest =>
          clear E
          obtain ⟨rfl, E⟩ := hcut
          go_upto_region 10 with (fail)
          go_cut [118] from 16 (fun s W => s = .bool false ∧ Fr w [(b22_6, 8, Fq.ivl 0 0 0 0), (b6_16, 8, Fq.ivl a.num (a.den : Int) b.num (b.den : Int)), (b6_17, 8, Fq.ivl c.num (c.den : Int) d.num (d.den : Int)), (b6_18, 4, Fq.pair x5.num (x5.den : Int)), (b3, 4, Fq.raw2 n5 a5 k5 c5 xs5 m5 r5 l5 q5 ys5), (b2, 8, Fq.raws2 n3 a3 k3 c3 xs3 m3 r3 l3 q3 ys3 n4 a4 k4 c4 xs4 m4 r4 l4 q4 ys4), (b1, 8, Fq.raws2 n1 a1 k1 c1 xs1 m1 r1 l1 q1 ys1 n2 a2 k2 c2 xs2 m2 r2 l2 q2 ys2)] W)
          case first =>
            refine region_fr (C := [Fq.is (.bool false), Fq.is (.bool true), Fq.is (.bool false), Fq.is (.bool false), Fq.is (.bool false), Fq.is (.bool false), Fq.is (undef), Fq.is (undef), Fq.is (undef), Fq.is (undef), Fq.is (undef), Fq.is (.bool false), Fq.is (.bool false), Fq.is (.bool false), Fq.is (.bool false), Fq.is (.bool true), Fq.is (.bool true), Fq.is (.pointer (some ⟨b22_6, 0, none⟩)), Fq.is (.pointer (some ⟨b22_6, 2, none⟩)), Fq.is (.pointer (some ⟨b22_6, 3, none⟩)), Fq.mag0, Fq.is (.int .i64 0), Fq.is (.bool false), Fq.is (.bool false), Fq.is (.pointer (some ⟨b22_6, 4, none⟩)), Fq.is (.pointer (some ⟨b22_6, 6, none⟩)), Fq.is (.pointer (some ⟨b22_6, 7, none⟩)), Fq.mag0, Fq.is (.int .i64 0), Fq.is (.bool false), Fq.is (.bool false), Fq.is (.bool false), Fq.is (.bool false)]) (ks := [none, none, none, none, none, none, none]) (new := []) E rfl (by kernel_rfl) rfl rfl (fun hp => ⟨?_, ?_, ?_, ?_, ?_, ?_, ?_, ?_, ?_, ?_, ?_, ?_, ?_, ?_, ?_, ?_, ?_, ?_, ?_, ?_, ?_, ?_, ?_, ?_, ?_, ?_, ?_, ?_, ?_, ?_, ?_, ?_, ?_, trivial⟩) ?_
            · exact q_move hp (free_of rfl) trivial (sq_out rfl rfl (fun _ _ => rfl))
            · exact q_move hp (free_of rfl) trivial (sq_out rfl rfl (fun _ _ => rfl))
            · exact q_two (F := fun v _ => v = .bool false) (G := fun v _ => v = .bool true) hp (free_of rfl) trivial (sq_in 0 rfl rfl (by simp) rfl (fun v w h => h)) (sq_in 1 rfl rfl (by simp) rfl (fun v w h => h)) (fun ρ w hc h h' => ⟨.bool false, by simp [execOp, go_sem, h, h'], rfl⟩)
            · exact q_move hp (free_of rfl) trivial (sq_in 2 rfl rfl (by simp) rfl (fun v w h => h))
            · exact q_move hp (free_of rfl) (gq_some rfl rfl (by simp) rfl (fun v w h => h)) (sq_out rfl rfl (fun _ _ => rfl))
            · exact q_move hp (free_of rfl) (gq_some rfl rfl (by simp) rfl (fun v w h => h)) (sq_in 4 rfl rfl (by simp) rfl (fun v w h => h))
            · exact q_skip hp (free_of rfl) rfl (gq_some rfl rfl (by simp) rfl (fun v w h => h)) (fun _ => rfl)
            · exact q_skip hp (free_of rfl) rfl (gq_some rfl rfl (by simp) rfl (fun v w h => h)) (fun _ => rfl)
            · exact q_skip hp (free_of rfl) rfl (gq_some rfl rfl (by simp) rfl (fun v w h => h)) (fun _ => rfl)
            · exact q_skip hp (free_of rfl) rfl (gq_some rfl rfl (by simp) rfl (fun v w h => h)) (fun _ => rfl)
            · exact q_skip hp (free_of rfl) rfl (gq_some rfl rfl (by simp) rfl (fun v w h => h)) (fun _ => rfl)
            · exact q_two (F := fun v _ => v = .bool false) (G := fun v _ => v = .bool false) hp (free_of rfl) (gq_some rfl rfl (by simp) rfl (fun v w h => h)) (sq_in 5 rfl rfl (by simp) rfl (fun v w h => h)) (sq_const (fun _ => rfl)) (fun ρ w hc h h' => ⟨_, by simp [execOp, go_sem, h, h'], rfl⟩)
            · exact q_two (F := fun v _ => v = .bool false) (G := fun v _ => v = .bool false) hp (free_of rfl) trivial (sq_in 3 rfl rfl (by simp) rfl (fun v w h => h)) (sq_in 11 rfl rfl (by simp) rfl (fun v w h => h)) (fun ρ w hc h h' => ⟨_, by simp [execOp, go_sem, h, h'], rfl⟩)
            · exact q_move hp (free_of rfl) trivial (sq_in 12 rfl rfl (by simp) rfl (fun v w h => h))
            · exact q_move hp (free_of rfl) (gq_some rfl rfl (by simp) rfl (fun v w h => h)) (sq_out rfl rfl (fun _ _ => rfl))
            · exact q_one (F := fun v _ => v = .bool false) hp (free_of rfl) (gq_some rfl rfl (by simp) rfl (fun v w h => h)) (sq_in 14 rfl rfl (by simp) rfl (fun v w h => h)) (fun ρ w _ h => ⟨.bool true, by simp [execOp, go_sem, h], rfl⟩)
            · exact q_move hp (free_of rfl) (gq_some rfl rfl (by simp) rfl (fun v w h => h)) (sq_in 15 rfl rfl (by simp) rfl (fun v w h => h))
            · exact q_addr (b := b22_6) (off := 0) (off' := 0) hp (free_of rfl) (gq_some rfl rfl (by simp) rfl (fun v w h => h)) (sq_out rfl rfl (fun _ _ => rfl)) (fun ρ w h => by simp [execOp, go_sem, h]) (fun _ => rfl)
            · exact q_addr (b := b22_6) (off := 0) (off' := 2) hp (free_of rfl) (gq_some rfl rfl (by simp) rfl (fun v w h => h)) (sq_in 17 rfl rfl (by simp) rfl (fun v w h => h)) (fun ρ w h => by simp [execOp, go_sem, h]) (fun _ => rfl)
            · exact q_addr (b := b22_6) (off := 2) (off' := 3) hp (free_of rfl) (gq_some rfl rfl (by simp) rfl (fun v w h => h)) (sq_in 18 rfl rfl (by simp) rfl (fun v w h => h)) (fun ρ w h => by simp [execOp, go_sem, h]) (fun _ => rfl)
            · exact q_loadMag0 (off := 3) hp (free_of rfl) (gq_some rfl rfl (by simp) rfl (fun v w h => h)) (List.mem_iff_getElem?.2 ⟨0, rfl⟩) (.inl rfl) (Nat.le_of_ble_eq_true rfl) (sq_in 19 rfl rfl (by simp) rfl (fun v w h => h)) (fun us w hl h => ld_mag3 hl h)
            · exact q_lenMag0 hp (free_of rfl) (gq_some rfl rfl (by simp) rfl (fun v w h => h)) (sq_in 20 rfl rfl (by simp) rfl (fun v w h => h)) (fun _ => rfl)
            · exact q_one (F := fun v _ => v = .int .i64 0) hp (free_of rfl) (gq_some rfl rfl (by simp) rfl (fun v w h => h)) (sq_in 21 rfl rfl (by simp) rfl (fun v w h => h)) (fun ρ w hc h => ⟨.bool false, by simp [execOp, go_sem, h, hc], rfl⟩)
            · exact q_move hp (free_of rfl) (gq_some rfl rfl (by simp) rfl (fun v w h => h)) (sq_in 22 rfl rfl (by simp) rfl (fun v w h => h))
            · exact q_addr (b := b22_6) (off := 0) (off' := 4) hp (free_of rfl) (gq_some rfl rfl (by simp) rfl (fun v w h => h)) (sq_out rfl rfl (fun _ _ => rfl)) (fun ρ w h => by simp [execOp, go_sem, h]) (fun _ => rfl)
            · exact q_addr (b := b22_6) (off := 4) (off' := 6) hp (free_of rfl) (gq_some rfl rfl (by simp) rfl (fun v w h => h)) (sq_in 24 rfl rfl (by simp) rfl (fun v w h => h)) (fun ρ w h => by simp [execOp, go_sem, h]) (fun _ => rfl)
            · exact q_addr (b := b22_6) (off := 6) (off' := 7) hp (free_of rfl) (gq_some rfl rfl (by simp) rfl (fun v w h => h)) (sq_in 25 rfl rfl (by simp) rfl (fun v w h => h)) (fun ρ w h => by simp [execOp, go_sem, h]) (fun _ => rfl)
            · exact q_loadMag0 (off := 7) hp (free_of rfl) (gq_some rfl rfl (by simp) rfl (fun v w h => h)) (List.mem_iff_getElem?.2 ⟨0, rfl⟩) (.inl rfl) (Nat.le_of_ble_eq_true rfl) (sq_in 26 rfl rfl (by simp) rfl (fun v w h => h)) (fun us w hl h => ld_mag7 hl h)
            · exact q_lenMag0 hp (free_of rfl) (gq_some rfl rfl (by simp) rfl (fun v w h => h)) (sq_in 27 rfl rfl (by simp) rfl (fun v w h => h)) (fun _ => rfl)
            · exact q_one (F := fun v _ => v = .int .i64 0) hp (free_of rfl) (gq_some rfl rfl (by simp) rfl (fun v w h => h)) (sq_in 28 rfl rfl (by simp) rfl (fun v w h => h)) (fun ρ w hc h => ⟨.bool false, by simp [execOp, go_sem, h, hc], rfl⟩)
            · exact q_two (F := fun v _ => v = .bool false) (G := fun v _ => v = .bool false) hp (free_of rfl) (gq_some rfl rfl (by simp) rfl (fun v w h => h)) (sq_in 23 rfl rfl (by simp) rfl (fun v w h => h)) (sq_in 29 rfl rfl (by simp) rfl (fun v w h => h)) (fun ρ w hc h h' => ⟨_, by simp [execOp, go_sem, h, h'], rfl⟩)
            · exact q_two (F := fun v _ => v = .bool true) (G := fun v _ => v = .bool false) hp (free_of rfl) (gq_some rfl rfl (by simp) rfl (fun v w h => h)) (sq_in 16 rfl rfl (by simp) rfl (fun v w h => h)) (sq_in 30 rfl rfl (by simp) rfl (fun v w h => h)) (fun ρ w hc h h' => ⟨_, by simp [execOp, go_sem, h, h'], rfl⟩)
            · exact q_two (F := fun v _ => v = .bool false) (G := fun v _ => v = .bool false) hp (free_of rfl) trivial (sq_in 13 rfl rfl (by simp) rfl (fun v w h => h)) (sq_in 31 rfl rfl (by simp) rfl (fun v w h => h)) (fun ρ w hc h h' => ⟨_, by simp [execOp, go_sem, h, h'], rfl⟩)
            intro L vs w30 nb hL hC hn E30
            have e0 : vs 0 = .bool false := hC 0 (by simp)
            have e1 : vs 1 = .bool true := hC 1 (by simp)
            have e2 : vs 2 = .bool false := hC 2 (by simp)
            have e3 : vs 3 = .bool false := hC 3 (by simp)
            have e4 : vs 4 = .bool false := hC 4 (by simp)
            have e5 : vs 5 = .bool false := hC 5 (by simp)
            have e6 : vs 6 = undef := hC 6 (by simp)
            have e7 : vs 7 = undef := hC 7 (by simp)
            have e8 : vs 8 = undef := hC 8 (by simp)
            have e9 : vs 9 = undef := hC 9 (by simp)
            have e10 : vs 10 = undef := hC 10 (by simp)
            have e11 : vs 11 = .bool false := hC 11 (by simp)
            have e12 : vs 12 = .bool false := hC 12 (by simp)
            have e13 : vs 13 = .bool false := hC 13 (by simp)
            have e14 : vs 14 = .bool false := hC 14 (by simp)
            have e15 : vs 15 = .bool true := hC 15 (by simp)
            have e16 : vs 16 = .bool true := hC 16 (by simp)
            have e17 : vs 17 = .pointer (some ⟨b22_6, 0, none⟩) := hC 17 (by simp)
            have e18 : vs 18 = .pointer (some ⟨b22_6, 2, none⟩) := hC 18 (by simp)
            have e19 : vs 19 = .pointer (some ⟨b22_6, 3, none⟩) := hC 19 (by simp)
            have e21 : vs 21 = .int .i64 0 := hC 21 (by simp)
            have e22 : vs 22 = .bool false := hC 22 (by simp)
            have e23 : vs 23 = .bool false := hC 23 (by simp)
            have e24 : vs 24 = .pointer (some ⟨b22_6, 4, none⟩) := hC 24 (by simp)
            have e25 : vs 25 = .pointer (some ⟨b22_6, 6, none⟩) := hC 25 (by simp)
            have e26 : vs 26 = .pointer (some ⟨b22_6, 7, none⟩) := hC 26 (by simp)
            have e28 : vs 28 = .int .i64 0 := hC 28 (by simp)
            have e29 : vs 29 = .bool false := hC 29 (by simp)
            have e30 : vs 30 = .bool false := hC 30 (by simp)
            have e31 : vs 31 = .bool false := hC 31 (by simp)
            have e32 : vs 32 = .bool false := hC 32 (by simp)
            have E : Fr w [(b22_6, 8, Fq.ivl 0 0 0 0), (b6_16, 8, Fq.ivl a.num (a.den : Int) b.num (b.den : Int)), (b6_17, 8, Fq.ivl c.num (c.den : Int) d.num (d.den : Int)), (b6_18, 4, Fq.pair x5.num (x5.den : Int)), (b3, 4, Fq.raw2 n5 a5 k5 c5 xs5 m5 r5 l5 q5 ys5), (b2, 8, Fq.raws2 n3 a3 k3 c3 xs3 m3 r3 l3 q3 ys3 n4 a4 k4 c4 xs4 m4 r4 l4 q4 ys4), (b1, 8, Fq.raws2 n1 a1 k1 c1 xs1 m1 r1 l1 q1 ys1 n2 a2 k2 c2 xs2 m2 r2 l2 q2 ys2)] w30 := E30
            rw [lay_all hL]
            simp only [putAll, dstOf, List.length_cons, List.length_nil, Nat.zero_add, Nat.reduceAdd, List.getElem?_toArray, List.getElem?_cons_zero, List.getElem?_cons_succ, Option.bind_some, Act.put, List.setIfInBounds_toArray, List.set_cons_succ, List.set_cons_zero]
            rw [e0, e1, e2, e3, e4, e5, e6, e7, e8, e9, e10, e11, e12, e13, e14, e15, e16, e17, e18, e19, e21, e22, e23, e24, e25, e26, e28, e29, e30, e31, e32]
            generalize vs 20 = u30_20
            generalize vs 27 = u30_27
            clear e0 e1 e2 e3 e4 e5 e6 e7 e8 e9 e10 e11 e12 e13 e14 e15 e16 e17 e18 e19 e21 e22 e23 e24 e25 e26 e28 e29 e30 e31 e32 hC hn E30 hL vs L nb
            go_wp2_with (fail)
            go_meet
            case rel => exact ⟨rfl, E⟩
          case rest =>
            clear E
            obtain ⟨rfl, E⟩ := hcut
            go_upto_region 12 with (fail)
            go_cut [15] from 16 (fun s W => s = .bool ((decide (c ≤ a) && decide (a ≤ d)) && (decide (c ≤ b) && decide (b ≤ d))) ∧ Fr w [(b22_6, 8, Fq.ivl 0 0 0 0), (b6_16, 8, Fq.ivl a.num (a.den : Int) b.num (b.den : Int)), (b6_17, 8, Fq.ivl c.num (c.den : Int) d.num (d.den : Int)), (b6_18, 4, Fq.pair x5.num (x5.den : Int)), (b3, 4, Fq.raw2 n5 a5 k5 c5 xs5 m5 r5 l5 q5 ys5), (b2, 8, Fq.raws2 n3 a3 k3 c3 xs3 m3 r3 l3 q3 ys3 n4 a4 k4 c4 xs4 m4 r4 l4 q4 ys4), (b1, 8, Fq.raws2 n1 a1 k1 c1 xs1 m1 r1 l1 q1 ys1 n2 a2 k2 c2 xs2 m2 r2 l2 q2 ys2)] W)
            case first =>
              by_cases hv : (decide (c ≤ a) && decide (a ≤ d)) = true
              · have V1 := hidd hv
                clear hv
                refine region_fr (C := [Fq.ivl c.num (c.den : Int) d.num (d.den : Int), Fq.is (.pointer (some ⟨b6_16, 0, none⟩)), Fq.pair a.num (a.den : Int), Fq.is (.bool true), Fq.is (.bool true), Fq.ivl c.num (c.den : Int) d.num (d.den : Int), Fq.is (.pointer (some ⟨b6_16, 4, none⟩)), Fq.pair b.num (b.den : Int), Fq.is (.bool (decide (c ≤ b) && decide (b ≤ d))), Fq.is (.bool (decide (c ≤ b) && decide (b ≤ d))), Fq.is (.bool (decide (c ≤ b) && decide (b ≤ d)))]) (ks := [none, none, none, none, none, none, none]) (new := []) E rfl (by kernel_rfl) rfl rfl (fun hp => ⟨?_, ?_, ?_, ?_, ?_, ?_, ?_, ?_, ?_, ?_, ?_, trivial⟩) ?_
                · exact q_loadIvl hp (free_of rfl) trivial (List.mem_iff_getElem?.2 ⟨2, rfl⟩) (.inl rfl) rfl (sq_out rfl rfl (fun _ _ => rfl)) (fun us w hl h => h)
                · exact q_addr (b := b6_16) (off := 0) (off' := 0) hp (free_of rfl) trivial (sq_out rfl rfl (fun _ _ => rfl)) (fun ρ w h => by simp [execOp, go_sem, h]) (fun _ => rfl)
                · exact q_loadRatAt (off := 0) hp (free_of rfl) trivial (List.mem_iff_getElem?.2 ⟨1, rfl⟩) (.inl rfl) (Nat.le_of_ble_eq_true rfl) (sq_in 1 rfl rfl (by simp) rfl (fun v w h => h)) (fun us w hl h => ld_ivl0 hl h)
                · exact q_call2 (F := (Fq.ivl c.num (c.den : Int) d.num (d.den : Int)).P) (G := (Fq.pair a.num (a.den : Int)).P) hp (free_of rfl) trivial (enq_Q_Has) (sq_in 0 rfl rfl (by simp) rfl (fun v w h => h)) (sq_in 2 rfl rfl (by simp) rfl (fun v w h => h)) (fun v v' w h h' => exQHasB h h' (rb_le Bc.out (by omega)) (rb_le Bd.out (by omega)) (rb_le Ba.out (by omega)) V1.out)
                · exact q_move hp (free_of rfl) trivial (sq_in 3 rfl rfl (by simp) rfl (fun v w h => h))
                · exact q_loadIvl hp (free_of rfl) (gq_some rfl rfl (by simp) rfl (fun v w h => h)) (List.mem_iff_getElem?.2 ⟨2, rfl⟩) (.inl rfl) rfl (sq_out rfl rfl (fun _ _ => rfl)) (fun us w hl h => h)
                · exact q_addr (b := b6_16) (off := 0) (off' := 4) hp (free_of rfl) (gq_some rfl rfl (by simp) rfl (fun v w h => h)) (sq_out rfl rfl (fun _ _ => rfl)) (fun ρ w h => by simp [execOp, go_sem, h]) (fun _ => rfl)
                · exact q_loadRatAt (off := 4) hp (free_of rfl) (gq_some rfl rfl (by simp) rfl (fun v w h => h)) (List.mem_iff_getElem?.2 ⟨1, rfl⟩) (.inl rfl) (Nat.le_of_ble_eq_true rfl) (sq_in 6 rfl rfl (by simp) rfl (fun v w h => h)) (fun us w hl h => ld_ivl1 hl h)
                · exact q_call2 (F := (Fq.ivl c.num (c.den : Int) d.num (d.den : Int)).P) (G := (Fq.pair b.num (b.den : Int)).P) hp (free_of rfl) (gq_some rfl rfl (by simp) rfl (fun v w h => h)) (enq_Q_Has) (sq_in 5 rfl rfl (by simp) rfl (fun v w h => h)) (sq_in 7 rfl rfl (by simp) rfl (fun v w h => h)) (fun v v' w h h' => exQHasB h h' (rb_le Bc.out (by omega)) (rb_le Bd.out (by omega)) (rb_le Bb.out (by omega)) rfl)
                · exact q_two (F := fun v _ => v = .bool true) (G := fun v _ => v = .bool (decide (c ≤ b) && decide (b ≤ d))) hp (free_of rfl) trivial (sq_in 4 rfl rfl (by simp) rfl (fun v w h => h)) (sq_in 8 rfl rfl (by simp) rfl (fun v w h => h)) (fun ρ w hc h h' => ⟨_, by simp [execOp, go_sem, h, h'], rfl⟩)
                · exact q_assign hp (free_of rfl) trivial (sq_in 9 rfl rfl (by simp) rfl (fun v w h => h))
                intro L vs w31 nb hL hC hn E31
                have e1 : vs 1 = .pointer (some ⟨b6_16, 0, none⟩) := hC 1 (by simp)
                have e3 : vs 3 = .bool true := hC 3 (by simp)
                have e4 : vs 4 = .bool true := hC 4 (by simp)
                have e6 : vs 6 = .pointer (some ⟨b6_16, 4, none⟩) := hC 6 (by simp)
                have e8 : vs 8 = .bool (decide (c ≤ b) && decide (b ≤ d)) := hC 8 (by simp)
                have e9 : vs 9 = .bool (decide (c ≤ b) && decide (b ≤ d)) := hC 9 (by simp)
                have e10 : vs 10 = .bool (decide (c ≤ b) && decide (b ≤ d)) := hC 10 (by simp)
                have E : Fr w [(b22_6, 8, Fq.ivl 0 0 0 0), (b6_16, 8, Fq.ivl a.num (a.den : Int) b.num (b.den : Int)), (b6_17, 8, Fq.ivl c.num (c.den : Int) d.num (d.den : Int)), (b6_18, 4, Fq.pair x5.num (x5.den : Int)), (b3, 4, Fq.raw2 n5 a5 k5 c5 xs5 m5 r5 l5 q5 ys5), (b2, 8, Fq.raws2 n3 a3 k3 c3 xs3 m3 r3 l3 q3 ys3 n4 a4 k4 c4 xs4 m4 r4 l4 q4 ys4), (b1, 8, Fq.raws2 n1 a1 k1 c1 xs1 m1 r1 l1 q1 ys1 n2 a2 k2 c2 xs2 m2 r2 l2 q2 ys2)] w31 := E31
                rw [lay_all hL]
                simp only [putAll, dstOf, List.length_cons, List.length_nil, Nat.zero_add, Nat.reduceAdd, List.getElem?_toArray, List.getElem?_cons_zero, List.getElem?_cons_succ, Option.bind_some, Act.put, List.setIfInBounds_toArray, List.set_cons_succ, List.set_cons_zero]
                rw [e1, e3, e4, e6, e8, e9, e10]
                generalize vs 0 = u31_0
                generalize vs 2 = u31_2
                generalize vs 5 = u31_5
                generalize vs 7 = u31_7
                clear e1 e3 e4 e6 e8 e9 e10 hC hn E31 hL vs L nb
                go_wp2_with (fail)
                go_meet
                case rel => exact ⟨by rw [V1.out]; rfl, E⟩
              · have V1 : Hid ((decide (c ≤ a) && decide (a ≤ d)) = false) := Bool.eq_false_iff.2 hv
                clear hv
                refine region_fr (C := [Fq.ivl c.num (c.den : Int) d.num (d.den : Int), Fq.is (.pointer (some ⟨b6_16, 0, none⟩)), Fq.pair a.num (a.den : Int), Fq.is (.bool false), Fq.is (.bool false), Fq.is (undef), Fq.is (undef), Fq.is (undef), Fq.is (undef), Fq.is (.bool false), Fq.is (.bool false)]) (ks := [none, none, none, none, none, none, none]) (new := []) E rfl (by kernel_rfl) rfl rfl (fun hp => ⟨?_, ?_, ?_, ?_, ?_, ?_, ?_, ?_, ?_, ?_, ?_, trivial⟩) ?_
                · exact q_loadIvl hp (free_of rfl) trivial (List.mem_iff_getElem?.2 ⟨2, rfl⟩) (.inl rfl) rfl (sq_out rfl rfl (fun _ _ => rfl)) (fun us w hl h => h)
                · exact q_addr (b := b6_16) (off := 0) (off' := 0) hp (free_of rfl) trivial (sq_out rfl rfl (fun _ _ => rfl)) (fun ρ w h => by simp [execOp, go_sem, h]) (fun _ => rfl)
                · exact q_loadRatAt (off := 0) hp (free_of rfl) trivial (List.mem_iff_getElem?.2 ⟨1, rfl⟩) (.inl rfl) (Nat.le_of_ble_eq_true rfl) (sq_in 1 rfl rfl (by simp) rfl (fun v w h => h)) (fun us w hl h => ld_ivl0 hl h)
                · exact q_call2 (F := (Fq.ivl c.num (c.den : Int) d.num (d.den : Int)).P) (G := (Fq.pair a.num (a.den : Int)).P) hp (free_of rfl) trivial (enq_Q_Has) (sq_in 0 rfl rfl (by simp) rfl (fun v w h => h)) (sq_in 2 rfl rfl (by simp) rfl (fun v w h => h)) (fun v v' w h h' => exQHasB h h' (rb_le Bc.out (by omega)) (rb_le Bd.out (by omega)) (rb_le Ba.out (by omega)) V1.out)
                · exact q_move hp (free_of rfl) trivial (sq_in 3 rfl rfl (by simp) rfl (fun v w h => h))
                · exact q_skip hp (free_of rfl) rfl (gq_some rfl rfl (by simp) rfl (fun v w h => h)) (fun _ => rfl)
                · exact q_skip hp (free_of rfl) rfl (gq_some rfl rfl (by simp) rfl (fun v w h => h)) (fun _ => rfl)
                · exact q_skip hp (free_of rfl) rfl (gq_some rfl rfl (by simp) rfl (fun v w h => h)) (fun _ => rfl)
                · exact q_skip hp (free_of rfl) rfl (gq_some rfl rfl (by simp) rfl (fun v w h => h)) (fun _ => rfl)
                · exact q_two (F := fun v _ => v = .bool false) (G := fun v _ => v = .bool false) hp (free_of rfl) trivial (sq_in 4 rfl rfl (by simp) rfl (fun v w h => h)) (sq_const (fun _ => rfl)) (fun ρ w hc h h' => ⟨_, by simp [execOp, go_sem, h, h'], rfl⟩)
                · exact q_assign hp (free_of rfl) trivial (sq_in 9 rfl rfl (by simp) rfl (fun v w h => h))
                intro L vs w32 nb hL hC hn E32
                have e1 : vs 1 = .pointer (some ⟨b6_16, 0, none⟩) := hC 1 (by simp)
                have e3 : vs 3 = .bool false := hC 3 (by simp)
                have e4 : vs 4 = .bool false := hC 4 (by simp)
                have e5 : vs 5 = undef := hC 5 (by simp)
                have e6 : vs 6 = undef := hC 6 (by simp)
                have e7 : vs 7 = undef := hC 7 (by simp)
                have e8 : vs 8 = undef := hC 8 (by simp)
                have e9 : vs 9 = .bool false := hC 9 (by simp)
                have e10 : vs 10 = .bool false := hC 10 (by simp)
                have E : Fr w [(b22_6, 8, Fq.ivl 0 0 0 0), (b6_16, 8, Fq.ivl a.num (a.den : Int) b.num (b.den : Int)), (b6_17, 8, Fq.ivl c.num (c.den : Int) d.num (d.den : Int)), (b6_18, 4, Fq.pair x5.num (x5.den : Int)), (b3, 4, Fq.raw2 n5 a5 k5 c5 xs5 m5 r5 l5 q5 ys5), (b2, 8, Fq.raws2 n3 a3 k3 c3 xs3 m3 r3 l3 q3 ys3 n4 a4 k4 c4 xs4 m4 r4 l4 q4 ys4), (b1, 8, Fq.raws2 n1 a1 k1 c1 xs1 m1 r1 l1 q1 ys1 n2 a2 k2 c2 xs2 m2 r2 l2 q2 ys2)] w32 := E32
                rw [lay_all hL]
                simp only [putAll, dstOf, List.length_cons, List.length_nil, Nat.zero_add, Nat.reduceAdd, List.getElem?_toArray, List.getElem?_cons_zero, List.getElem?_cons_succ, Option.bind_some, Act.put, List.setIfInBounds_toArray, List.set_cons_succ, List.set_cons_zero]
                rw [e1, e3, e4, e5, e6, e7, e8, e9, e10]
                generalize vs 0 = u32_0
                generalize vs 2 = u32_2
                clear e1 e3 e4 e5 e6 e7 e8 e9 e10 hC hn E32 hL vs L nb
                go_wp2_with (fail)
                go_meet
                case rel => exact ⟨by rw [V1.out]; rfl, E⟩
            case rest =>
              clear E
              obtain ⟨rfl, E⟩ := hcut
              have hv : ¬ ((decide (c ≤ a) && decide (a ≤ d)) && (decide (c ≤ b) && decide (b ≤ d))) = true := by rw [ends_no Oa.out HM.out]; decide
              have V1 : Hid (((decide (c ≤ a) && decide (a ≤ d)) && (decide (c ≤ b) && decide (b ≤ d))) = false) := Bool.eq_false_iff.2 hv
              clear hv
              rw [V1.out]
              go_upto_region 13 with (fail)
              refine region_fr (C := [Fq.ivl a.num (a.den : Int) b.num (b.den : Int), Fq.ivl c.num (c.den : Int) d.num (d.den : Int), Fq.is (.bool false), Fq.is (.bool false), Fq.is (.bool true), Fq.is (.bool true), Fq.is (.bool false), Fq.is (.bool false), Fq.is (.bool false), Fq.is (undef), Fq.is (undef), Fq.is (undef), Fq.is (.bool false), Fq.is (.bool true), Fq.is (.bool true), Fq.is (.bool true), Fq.is (.bool true), Fq.is (.bool true), Fq.is (.bool true)]) (ks := [none, none, none, none, none, none, none]) (new := []) E rfl (by kernel_rfl) rfl rfl (fun hp => ⟨?_, ?_, ?_, ?_, ?_, ?_, ?_, ?_, ?_, ?_, ?_, ?_, ?_, ?_, ?_, ?_, ?_, ?_, ?_, trivial⟩) ?_
              · exact q_loadIvl hp (free_of rfl) trivial (List.mem_iff_getElem?.2 ⟨1, rfl⟩) (.inl rfl) rfl (sq_out rfl rfl (fun _ _ => rfl)) (fun us w hl h => h)
              · exact q_loadIvl hp (free_of rfl) trivial (List.mem_iff_getElem?.2 ⟨2, rfl⟩) (.inl rfl) rfl (sq_out rfl rfl (fun _ _ => rfl)) (fun us w hl h => h)
              · exact q_call2 (F := (Fq.ivl a.num (a.den : Int) b.num (b.den : Int)).P) (G := (Fq.ivl c.num (c.den : Int) d.num (d.den : Int)).P) hp (free_of rfl) trivial (enq_Q_Inside) (sq_in 0 rfl rfl (by simp) rfl (fun v w h => h)) (sq_in 1 rfl rfl (by simp) rfl (fun v w h => h)) (fun v v' w h h' => (by rw [← (V1.out : ((decide (c ≤ a) && decide (a ≤ d)) && (decide (c ≤ b) && decide (b ≤ d))) = false)]; exact exInside h h' (rb_le Ba.out (by omega)) (rb_le Bb.out (by omega)) (rb_le Bc.out (by omega)) (rb_le Bd.out (by omega))))
              · exact q_move hp (free_of rfl) trivial (sq_out rfl rfl (fun _ _ => rfl))
              · exact q_two (F := fun v _ => v = .bool false) (G := fun v _ => v = .bool false) hp (free_of rfl) trivial (sq_in 2 rfl rfl (by simp) rfl (fun v w h => h)) (sq_in 3 rfl rfl (by simp) rfl (fun v w h => h)) (fun ρ w hc h h' => ⟨.bool true, by simp [execOp, go_sem, h, h'], rfl⟩)
              · exact q_move hp (free_of rfl) trivial (sq_in 4 rfl rfl (by simp) rfl (fun v w h => h))
              · exact q_move hp (free_of rfl) (gq_some rfl rfl (by simp) rfl (fun v w h => h)) (sq_out rfl rfl (fun _ _ => rfl))
              · exact q_move hp (free_of rfl) (gq_some rfl rfl (by simp) rfl (fun v w h => h)) (sq_out rfl rfl (fun _ _ => rfl))
              · exact q_move hp (free_of rfl) (gq_some rfl rfl (by simp) rfl (fun v w h => h)) (sq_in 7 rfl rfl (by simp) rfl (fun v w h => h))
              · exact q_skip hp (free_of rfl) rfl (gq_some rfl rfl (by simp) rfl (fun v w h => h)) (fun _ => rfl)
              · exact q_skip hp (free_of rfl) rfl (gq_some rfl rfl (by simp) rfl (fun v w h => h)) (fun _ => rfl)
              · exact q_skip hp (free_of rfl) rfl (gq_some rfl rfl (by simp) rfl (fun v w h => h)) (fun _ => rfl)
              · exact q_two (F := fun v _ => v = .bool false) (G := fun v _ => v = .bool false) hp (free_of rfl) (gq_some rfl rfl (by simp) rfl (fun v w h => h)) (sq_in 8 rfl rfl (by simp) rfl (fun v w h => h)) (sq_const (fun _ => rfl)) (fun ρ w hc h h' => ⟨_, by simp [execOp, go_sem, h, h'], rfl⟩)
              · exact q_two (F := fun v _ => v = .bool false) (G := fun v _ => v = .bool false) hp (free_of rfl) (gq_some rfl rfl (by simp) rfl (fun v w h => h)) (sq_in 6 rfl rfl (by simp) rfl (fun v w h => h)) (sq_in 12 rfl rfl (by simp) rfl (fun v w h => h)) (fun ρ w hc h h' => ⟨.bool true, by simp [execOp, go_sem, h, h'], rfl⟩)
              · exact q_two (F := fun v _ => v = .bool true) (G := fun v _ => v = .bool true) hp (free_of rfl) trivial (sq_in 5 rfl rfl (by simp) rfl (fun v w h => h)) (sq_in 13 rfl rfl (by simp) rfl (fun v w h => h)) (fun ρ w hc h h' => ⟨_, by simp [execOp, go_sem, h, h'], rfl⟩)
              · exact q_move hp (free_of rfl) trivial (sq_in 14 rfl rfl (by simp) rfl (fun v w h => h))
              · exact q_move hp (free_of rfl) (gq_some rfl rfl (by simp) rfl (fun v w h => h)) (sq_out rfl rfl (fun _ _ => rfl))
              · exact q_two (F := fun v _ => v = .bool true) (G := fun v _ => v = .bool true) hp (free_of rfl) trivial (sq_in 15 rfl rfl (by simp) rfl (fun v w h => h)) (sq_in 16 rfl rfl (by simp) rfl (fun v w h => h)) (fun ρ w hc h h' => ⟨_, by simp [execOp, go_sem, h, h'], rfl⟩)
              · exact q_assign hp (free_of rfl) trivial (sq_in 17 rfl rfl (by simp) rfl (fun v w h => h))
              intro L vs w33 nb hL hC hn E33
              have e2 : vs 2 = .bool false := hC 2 (by simp)
              have e3 : vs 3 = .bool false := hC 3 (by simp)
              have e4 : vs 4 = .bool true := hC 4 (by simp)
              have e5 : vs 5 = .bool true := hC 5 (by simp)
              have e6 : vs 6 = .bool false := hC 6 (by simp)
              have e7 : vs 7 = .bool false := hC 7 (by simp)
              have e8 : vs 8 = .bool false := hC 8 (by simp)
              have e9 : vs 9 = undef := hC 9 (by simp)
              have e10 : vs 10 = undef := hC 10 (by simp)
              have e11 : vs 11 = undef := hC 11 (by simp)
              have e12 : vs 12 = .bool false := hC 12 (by simp)
              have e13 : vs 13 = .bool true := hC 13 (by simp)
              have e14 : vs 14 = .bool true := hC 14 (by simp)
              have e15 : vs 15 = .bool true := hC 15 (by simp)
              have e16 : vs 16 = .bool true := hC 16 (by simp)
              have e17 : vs 17 = .bool true := hC 17 (by simp)
              have e18 : vs 18 = .bool true := hC 18 (by simp)
              have E : Fr w [(b22_6, 8, Fq.ivl 0 0 0 0), (b6_16, 8, Fq.ivl a.num (a.den : Int) b.num (b.den : Int)), (b6_17, 8, Fq.ivl c.num (c.den : Int) d.num (d.den : Int)), (b6_18, 4, Fq.pair x5.num (x5.den : Int)), (b3, 4, Fq.raw2 n5 a5 k5 c5 xs5 m5 r5 l5 q5 ys5), (b2, 8, Fq.raws2 n3 a3 k3 c3 xs3 m3 r3 l3 q3 ys3 n4 a4 k4 c4 xs4 m4 r4 l4 q4 ys4), (b1, 8, Fq.raws2 n1 a1 k1 c1 xs1 m1 r1 l1 q1 ys1 n2 a2 k2 c2 xs2 m2 r2 l2 q2 ys2)] w33 := E33
              rw [lay_all hL]
              simp only [putAll, dstOf, List.length_cons, List.length_nil, Nat.zero_add, Nat.reduceAdd, List.getElem?_toArray, List.getElem?_cons_zero, List.getElem?_cons_succ, Option.bind_some, Act.put, List.setIfInBounds_toArray, List.set_cons_succ, List.set_cons_zero]
              rw [e2, e3, e4, e5, e6, e7, e8, e9, e10, e11, e12, e13, e14, e15, e16, e17, e18]
              generalize vs 0 = u33_0
              generalize vs 1 = u33_1
              clear e2 e3 e4 e5 e6 e7 e8 e9 e10 e11 e12 e13 e14 e15 e16 e17 e18 hC hn E33 hL vs L nb
              clear HM V1
              clear Bx1 Bx2 Bx3 Bx4 Bx5 Ba Bb Bc Bd
              go_wp2
              refine bodyPost_ret (v := .bool true) ?_ rfl ⟨rfl, E.below⟩
              simp [results, Tryz.results5, go_sem]

end Go.Proofs.YtoimphnhmpmipaaGreat
