/- Yo. -/
import Derived.Test.YtlehjhlihahjhaaBc1
/- Walk of the law on the order of fractions. -/
namespace Go.Proofs.Ytlehjhlihahjhaa
open Go Go.RowKit

theorem enq_K_examples (args : Array Value) (w : World) : (callFunc 8 args).run Try.prog w = .ok (.enter 8 args) w := enter_of Try.func8 (by kernel_rfl) rfl args w

section
variable {os : List Oper} {Q : Exit → Act → World → Prop} {a : Act} {p : Pq} {B B0 : Nat} {w0 : World}
variable {i s : Nat} {d : Option Tmp} {ty : TypeId} {ps : String} {af : Array Edge} {gd : Option (Nat × Bool)}
/-- Two signs and words, loaded out of their box. -/
theorem q_loadRaw2 {o : Ob} {x : Operand} (hp : p.Ok B B0) (hF : p.Free i) (hg : GdQ os a p B B0 w0 af gd) (ho : o ∈ p.old) (hk : o.F1 = o.F0 ∨ leadsB os 9 o.k i = true) (hm : o.m = 4)
    (hx : SrcQ os a p B B0 w0 af x fun u _ => u = .pointer (some ⟨o.b, 0, none⟩)) (hC : ∀ (us : List Value) (w : World), us.length = o.m → o.F0.P (.agg us.toArray) w → (p.c i).P (.agg us.toArray) w) :
    StepQ os Q a p B B0 w0 i { dst := d, op := .load 26 x, type := ty, pos := ps, after := af, guard := gd } := by
  refine stq_val hp hF hg fun L vs w hG hL hc hd => ?_
  obtain ⟨us, hl, h0, hat, ht, hP⟩ := box_now ho hk hG hL hc
  have e := hx L vs w hG hd
  refine ⟨_, ?_, hC us w hl hP⟩
  rw [hm] at hl
  match us, hl, hat with
  | [p, q, r, s], _, hat =>
    have c0 := (hat 0 (by simp)).1
    have c1 := (hat 1 (by simp)).1
    have c2 := (hat 2 (by simp)).1
    have c3 := (hat 3 (by simp)).1
    simp at c0 c1 c2 c3
    generalize (lay os.toArray L vs os.toArray.size a).eval = ρ at e
    simp [execOp, go_sem, e, c0, c1, c2, c3]
end

theorem cmpQ_def (a b : Rat) : cmpQ a b = if a < b then -1 else if a = b then 0 else 1 := by
  unfold cmpQ cmpI
  by_cases h : a < b
  · rw [if_pos ((Rat.lt_iff _ _).1 h), if_pos h]
  · rw [if_neg (fun e => h ((Rat.lt_iff _ _).2 e)), if_neg h]
    by_cases h2 : a = b
    · rw [if_pos (Rat.eq_iff_mul_eq_mul.1 h2), if_pos h2]
    · rw [if_neg (fun e => h2 (Rat.eq_iff_mul_eq_mul.2 e)), if_neg h2]

theorem cmpQ_congr {a b c d : Rat} (h1 : a < b ↔ c < d) (h2 : a = b ↔ c = d) : cmpQ a b = cmpQ c d := by
  rw [cmpQ_def, cmpQ_def]
  simp only [h1, h2]

theorem cmpQ_swap (a b : Rat) : cmpQ b a = -(cmpQ a b) := by
  rw [cmpQ_def, cmpQ_def]
  by_cases h : a < b
  · have h2 : ¬ b < a := Rat.not_lt.2 (Rat.le_of_lt h)
    have h3 : ¬ b = a := fun e => by rw [e] at h; exact Rat.lt_irrefl h
    rw [if_neg h2, if_neg h3, if_pos h]
    rfl
  · by_cases h2 : a = b
    · rw [if_neg (by rw [← h2]; exact Rat.lt_irrefl), if_pos h2.symm, if_neg h, if_pos h2]; rfl
    · have h3 : b < a := Rat.lt_of_le_of_ne (Rat.not_lt.1 h) (fun e => h2 e.symm)
      rw [if_pos h3, if_neg h, if_neg h2]

theorem cmpQ_range (a b : Rat) : -1 ≤ cmpQ a b ∧ cmpQ a b ≤ 1 := by
  rw [cmpQ_def]
  split
  · omega
  · split <;> omega

theorem cmpQ_sub (a b : Rat) : cmpI (a - b).num 0 = cmpQ a b := by
  have h1 : (a - b).num < 0 ↔ a < b := by
    have := Rat.num_nonneg (q := a - b)
    have h2 := Rat.le_iff_sub_nonneg b a
    constructor
    · intro h
      refine Rat.not_le.1 fun h3 => ?_
      have := this.2 (h2.1 h3)
      omega
    · intro h
      rcases Int.lt_or_le (a - b).num 0 with h3 | h3
      · exact h3
      · exact absurd (h2.2 (this.1 h3)) (Rat.not_le.2 h)
  have h2 : (a - b).num = 0 ↔ a = b := by
    rw [Rat.num_eq_zero]
    constructor
    · intro h
      have := Rat.sub_add_cancel (a := a) (b := b)
      rw [h, Rat.zero_add] at this
      exact this.symm
    · rintro rfl; exact Rat.sub_self
  rw [cmpQ_def]
  unfold cmpI
  simp only [h1, h2]

theorem cmpQ_add (a b c : Rat) : cmpQ (a + c) (b + c) = cmpQ a b := cmpQ_congr Rat.add_lt_add_right ⟨fun h => Rat.add_right_cancel c h, fun h => by rw [h]⟩
theorem cmpQ_mul {a b c : Rat} (hc : 0 < c) : cmpQ (a * c) (b * c) = cmpQ a b := cmpQ_congr (Rat.mul_lt_mul_right hc) ⟨fun h => by
  have h0 : c ≠ 0 := fun e => by rw [e] at hc; exact Rat.lt_irrefl hc
  rw [← Rat.mul_div_cancel (a := a) h0, h, Rat.mul_div_cancel h0], fun h => by rw [h]⟩
theorem num_pos {c : Rat} (h : 0 < c.num) : 0 < c := by
  have h1 := Rat.num_nonneg (q := c)
  refine Rat.lt_of_le_of_ne (h1.1 (by omega)) fun e => ?_
  rw [← e] at h
  exact absurd h (by decide)
theorem cmpQ_le {a b : Rat} : cmpQ a b ≤ 0 ↔ a ≤ b := by
  constructor
  · intro h
    refine Rat.not_lt.1 fun h2 => ?_
    have := cmpQ_gt.2 h2
    omega
  · intro h
    rcases Int.lt_or_le 0 (cmpQ a b) with h2 | h2
    · exact absurd (cmpQ_gt.1 h2) (Rat.not_lt.2 h)
    · exact h2
theorem one_div : Rat.divInt (1) (1) = 1 := by decide +kernel
theorem floor_next (a : Rat) : a < ((a.floor : Int) : Rat) + Rat.divInt (1) (1) := by
  rw [one_div]
  have := Rat.lt_floor_add_one a
  rw [Rat.intCast_add] at this
  exact this

theorem exSSameD {w : World} {v v' : Value} {a b : Rat} (h : Pair w v a.num a.den) (h' : Pair w v' b.num b.den) : Calls Try.prog 12 #[v, v'] w fun e w' => ∃ v', e = .returned v' ∧ Below w.heap.size w w' ∧ v' = .bool (decide (a = b)) := by
  refine (exSSame h h').mono fun e w' ⟨v1, he, hb, hv⟩ => ⟨v1, he, hb, ?_⟩
  rw [hv]
  congr 1
  by_cases hq : a = b
  · rw [decide_eq_true hq, decide_eq_true ⟨congrArg Rat.num hq, by rw [hq]⟩]
  · rw [decide_eq_false hq, decide_eq_false]
    rintro ⟨h1, h2⟩
    exact hq (Rat.ext h1 (by omega))

set_option maxRecDepth 100000 in
set_option maxHeartbeats 4000000 in
theorem RationalOrder_any (w : World) (n1 : Bool) (a1 : Option Addr) (k1 c1 : Nat) (xs1 : List Int) (m1 : Bool) (r1 : Option Addr) (l1 q1 : Nat) (ys1 : List Int) (h1 : Sl w a1 k1 c1 xs1) (g1 : Sl w r1 l1 q1 ys1) (hk1 : k1 ≤ 9223372036854775807) (hl1 : l1 ≤ 9223372036854775807) (n2 : Bool) (a2 : Option Addr) (k2 c2 : Nat) (xs2 : List Int) (m2 : Bool) (r2 : Option Addr) (l2 q2 : Nat) (ys2 : List Int) (h2 : Sl w a2 k2 c2 xs2) (g2 : Sl w r2 l2 q2 ys2) (hk2 : k2 ≤ 9223372036854775807) (hl2 : l2 ≤ 9223372036854775807) (n3 : Bool) (a3 : Option Addr) (k3 c3 : Nat) (xs3 : List Int) (m3 : Bool) (r3 : Option Addr) (l3 q3 : Nat) (ys3 : List Int) (h3 : Sl w a3 k3 c3 xs3) (g3 : Sl w r3 l3 q3 ys3) (hk3 : k3 ≤ 9223372036854775807) (hl3 : l3 ≤ 9223372036854775807) :
    Calls Try.prog 4 #[.agg #[.bool n1, .slice a1 k1 c1, .bool m1, .slice r1 l1 q1], .agg #[.bool n2, .slice a2 k2 c2, .bool m2, .slice r2 l2 q2], .agg #[.bool n3, .slice a3 k3 c3, .bool m3, .slice r3 l3 q3]] w fun e w' => e = .returned (.bool true) ∧ Below w.heap.size w w' := by
  obtain ⟨a, ha⟩ : ∃ a, a = madeQ n1 xs1 ys1 m1 6 := ⟨_, rfl⟩
  have Ba : Hid (Rb a 6) := by rw [ha]; exact made_rb h1.digs g1.digs (by omega)
  have Ha := hidd ha
  have K1 := hidd hk1
  have L1 := hidd hl1
  clear ha hk1 hl1
  obtain ⟨b, hb⟩ : ∃ b, b = madeQ n2 xs2 ys2 m2 6 := ⟨_, rfl⟩
  have Bb : Hid (Rb b 6) := by rw [hb]; exact made_rb h2.digs g2.digs (by omega)
  have Hb := hidd hb
  have K2 := hidd hk2
  have L2 := hidd hl2
  clear hb hk2 hl2
  obtain ⟨c, hc⟩ : ∃ c, c = madeQ n3 xs3 ys3 m3 6 := ⟨_, rfl⟩
  have Bc : Hid (Rb c 6) := by rw [hc]; exact made_rb h3.digs g3.digs (by omega)
  have Hc := hidd hc
  have K3 := hidd hk3
  have L3 := hidd hl3
  clear hc hk3 hl3
  obtain ⟨w1, b1, hw1, hb1, hs1, E⟩ := fr_start w (F := Fq.raw2 n1 a1 k1 c1 xs1 m1 r1 l1 q1 ys1) (us := [.bool n1, .slice a1 k1 c1, .bool m1, .slice r1 l1 q1]) 26 rfl (by simp) (tame_rat _ _ _ _ _ _ _ _) (show (Fq.raw2 n1 a1 k1 c1 xs1 m1 r1 l1 q1 ys1).P _ w from ⟨rfl, h1, g1⟩)
  obtain ⟨w2, b2, hw2, hb2, hs2, E⟩ := fr_more E hs1 (F := Fq.raw2 n2 a2 k2 c2 xs2 m2 r2 l2 q2 ys2) (us := [.bool n2, .slice a2 k2 c2, .bool m2, .slice r2 l2 q2]) 26 rfl (by simp) (tame_rat _ _ _ _ _ _ _ _) ((Fq.raw2 n2 a2 k2 c2 xs2 m2 r2 l2 q2 ys2).mono (show (Fq.raw2 n2 a2 k2 c2 xs2 m2 r2 l2 q2 ys2).P _ w from ⟨rfl, h2, g2⟩) E.below)
  obtain ⟨w3, b3, hw3, hb3, hs3, E⟩ := fr_more E hs2 (F := Fq.raw2 n3 a3 k3 c3 xs3 m3 r3 l3 q3 ys3) (us := [.bool n3, .slice a3 k3 c3, .bool m3, .slice r3 l3 q3]) 26 rfl (by simp) (tame_rat _ _ _ _ _ _ _ _) ((Fq.raw2 n3 a3 k3 c3 xs3 m3 r3 l3 q3 ys3).mono (show (Fq.raw2 n3 a3 k3 c3 xs3 m3 r3 l3 q3 ys3).P _ w from ⟨rfl, h3, g3⟩) E.below)
  go_enter Try.func4, Try.ntmps4
  go_upto_region 1 with (fail)
  rw [← hw1]
  rw [← hw2]
  rw [← hw3]
  rw [← hb3]
  rw [← hb2]
  rw [← hb1]
  clear hw1 hw2 hw3 hb1 hb2 hb3 hs3 hs1 hs2
  have rg := cmpQ_range a b
  have TL := hidd (show ¬ cmpQ a b < -1 by omega)
  have TG := hidd (show ¬ 1 < cmpQ a b by omega)
  have TW := hidd (show IntKind.i64.wrap (-(cmpQ a b)) = -(cmpQ a b) from IntWalk.i64_in _ (by omega))
  clear rg
  have TN := hidd (cmpQ_swap a b)
  have TE : Hid ((cmpQ a b == 0) = decide (a = b) ∧ decide (cmpQ a b = 0) = decide (a = b)) := by
    have h : decide (cmpQ a b = 0) = decide (a = b) := by simp only [cmpQ_eq]
    exact ⟨h, h⟩
  have TS := hidd (cmpQ_sub a b)
  have TA := hidd (cmpQ_add a b c)
  refine region_fr (C := [Fq.is (.bool true), Fq.is (.bool true)]) (ks := [none, none, none]) (new := []) E rfl (by kernel_rfl) rfl rfl (fun hp => ⟨?_, ?_, trivial⟩) ?_
  · exact q_call0 hp (free_of rfl) trivial (enq_K_examples) (fun w => exExamples w)
  · exact q_assign hp (free_of rfl) trivial (sq_in 0 rfl rfl (by simp) rfl (fun v w h => h))
  intro L vs w4 nb hL hC hn E4
  have e0 : vs 0 = .bool true := hC 0 (by simp)
  have e1 : vs 1 = .bool true := hC 1 (by simp)
  have E : Fr w [(b3, 4, Fq.raw2 n3 a3 k3 c3 xs3 m3 r3 l3 q3 ys3), (b2, 4, Fq.raw2 n2 a2 k2 c2 xs2 m2 r2 l2 q2 ys2), (b1, 4, Fq.raw2 n1 a1 k1 c1 xs1 m1 r1 l1 q1 ys1)] w4 := E4
  rw [lay_all hL]
  simp only [putAll, dstOf, List.length_cons, List.length_nil, Nat.zero_add, Nat.reduceAdd, List.getElem?_toArray, List.getElem?_cons_zero, List.getElem?_cons_succ, Option.bind_some, Act.put, List.setIfInBounds_toArray, List.set_cons_succ, List.set_cons_zero]
  rw [e0, e1]
  clear e0 e1 hC hn E4 hL vs L nb
  go_upto_region 2 with (fail)
  refine region_fr (C := [Fq.is (.bool true), Fq.is (.bool false)]) (ks := [none, none, none]) (new := []) E rfl (by kernel_rfl) rfl rfl (fun hp => ⟨?_, ?_, trivial⟩) ?_
  · exact q_move hp (free_of rfl) trivial (sq_out rfl rfl (fun _ _ => rfl))
  · exact q_one (F := fun v _ => v = .bool true) hp (free_of rfl) trivial (sq_in 0 rfl rfl (by simp) rfl (fun v w h => h)) (fun ρ w _ h => ⟨.bool false, by simp [execOp, go_sem, h], rfl⟩)
  intro L vs w5 nb hL hC hn E5
  have e0 : vs 0 = .bool true := hC 0 (by simp)
  have e1 : vs 1 = .bool false := hC 1 (by simp)
  have E : Fr w [(b3, 4, Fq.raw2 n3 a3 k3 c3 xs3 m3 r3 l3 q3 ys3), (b2, 4, Fq.raw2 n2 a2 k2 c2 xs2 m2 r2 l2 q2 ys2), (b1, 4, Fq.raw2 n1 a1 k1 c1 xs1 m1 r1 l1 q1 ys1)] w5 := E5
  rw [lay_all hL]
  simp only [putAll, dstOf, List.length_cons, List.length_nil, Nat.zero_add, Nat.reduceAdd, List.getElem?_toArray, List.getElem?_cons_zero, List.getElem?_cons_succ, Option.bind_some, Act.put, List.setIfInBounds_toArray, List.set_cons_succ, List.set_cons_zero]
  rw [e0, e1]
  clear e0 e1 hC hn E5 hL vs L nb
  go_upto_region 4 with (fail)
  refine region_fr (C := [Fq.raw2 n1 a1 k1 c1 xs1 m1 r1 l1 q1 ys1, Fq.pair a.num (a.den : Int), Fq.raw2 n2 a2 k2 c2 xs2 m2 r2 l2 q2 ys2, Fq.pair b.num (b.den : Int), Fq.raw2 n3 a3 k3 c3 xs3 m3 r3 l3 q3 ys3, Fq.pair c.num (c.den : Int), Fq.any, Fq.any, Fq.any, Fq.any, Fq.any, Fq.any]) (ks := [none, none, none]) (new := [⟨6, 9, 4, Fq.pair 0 0, Fq.pair a.num (a.den : Int)⟩, ⟨7, 10, 4, Fq.pair 0 0, Fq.pair b.num (b.den : Int)⟩, ⟨8, 11, 4, Fq.pair 0 0, Fq.pair c.num (c.den : Int)⟩]) E rfl (by kernel_rfl) rfl rfl (fun hp => ⟨?_, ?_, ?_, ?_, ?_, ?_, ?_, ?_, ?_, ?_, ?_, ?_, trivial⟩) ?_
  · exact q_loadRaw2 hp (free_of rfl) trivial (List.mem_iff_getElem?.2 ⟨2, rfl⟩) (.inl rfl) rfl (sq_out rfl rfl (fun _ _ => rfl)) (fun us w hl h => h)
  · exact q_call2 (F := (Fq.raw2 n1 a1 k1 c1 xs1 m1 r1 l1 q1 ys1).P) (G := (Fq.is (.int .i64 6)).P) hp (free_of rfl) trivial (enq_S_Made) (sq_in 0 rfl rfl (by simp) rfl (fun v w h => h)) (sq_const (fun _ => rfl)) (fun v v' w h h' => (by obtain ⟨rfl, s1, s2⟩ := h; subst h'; rw [Ha.out]; exact exSMade (j := 6) s1 s2 K1.out L1.out (by omega)))
  · exact q_loadRaw2 hp (free_of rfl) trivial (List.mem_iff_getElem?.2 ⟨1, rfl⟩) (.inl rfl) rfl (sq_out rfl rfl (fun _ _ => rfl)) (fun us w hl h => h)
  · exact q_call2 (F := (Fq.raw2 n2 a2 k2 c2 xs2 m2 r2 l2 q2 ys2).P) (G := (Fq.is (.int .i64 6)).P) hp (free_of rfl) trivial (enq_S_Made) (sq_in 2 rfl rfl (by simp) rfl (fun v w h => h)) (sq_const (fun _ => rfl)) (fun v v' w h h' => (by obtain ⟨rfl, s1, s2⟩ := h; subst h'; rw [Hb.out]; exact exSMade (j := 6) s1 s2 K2.out L2.out (by omega)))
  · exact q_loadRaw2 hp (free_of rfl) trivial (List.mem_iff_getElem?.2 ⟨0, rfl⟩) (.inl rfl) rfl (sq_out rfl rfl (fun _ _ => rfl)) (fun us w hl h => h)
  · exact q_call2 (F := (Fq.raw2 n3 a3 k3 c3 xs3 m3 r3 l3 q3 ys3).P) (G := (Fq.is (.int .i64 6)).P) hp (free_of rfl) trivial (enq_S_Made) (sq_in 4 rfl rfl (by simp) rfl (fun v w h => h)) (sq_const (fun _ => rfl)) (fun v v' w h h' => (by obtain ⟨rfl, s1, s2⟩ := h; subst h'; rw [Hc.out]; exact exSMade (j := 6) s1 s2 K3.out L3.out (by omega)))
  · exact q_allocRat hp (List.mem_iff_getElem?.2 ⟨0, rfl⟩) rfl rfl rfl (Nat.ne_of_beq_eq_false rfl) (fun _ _ => trivial) (old_ne rfl) (newk_ne rfl) (fun w => Pair.zero w)
  · exact q_allocRat hp (List.mem_iff_getElem?.2 ⟨1, rfl⟩) rfl rfl rfl (Nat.ne_of_beq_eq_false rfl) (fun _ _ => trivial) (old_ne rfl) (newk_ne rfl) (fun w => Pair.zero w)
  · exact q_allocRat hp (List.mem_iff_getElem?.2 ⟨2, rfl⟩) rfl rfl rfl (Nat.ne_of_beq_eq_false rfl) (fun _ _ => trivial) (old_ne rfl) (newk_ne rfl) (fun w => Pair.zero w)
  · exact q_storeNewRat hp (List.mem_iff_getElem?.2 ⟨0, rfl⟩) rfl rfl (own_ptr rfl rfl (by simp) rfl) (sq_in 1 rfl rfl (by simp) rfl (fun v w h => ratV_pair h)) (fun _ _ => trivial) (old_ne rfl) (newi_ne rfl)
  · exact q_storeNewRat hp (List.mem_iff_getElem?.2 ⟨1, rfl⟩) rfl rfl (own_ptr rfl rfl (by simp) rfl) (sq_in 3 rfl rfl (by simp) rfl (fun v w h => ratV_pair h)) (fun _ _ => trivial) (old_ne rfl) (newi_ne rfl)
  · exact q_storeNewRat hp (List.mem_iff_getElem?.2 ⟨2, rfl⟩) rfl rfl (own_ptr rfl rfl (by simp) rfl) (sq_in 5 rfl rfl (by simp) rfl (fun v w h => ratV_pair h)) (fun _ _ => trivial) (old_ne rfl) (newi_ne rfl)
  intro L vs w6 nb hL hC hn E6
  have e6 : vs 6 = .pointer (some ⟨nb 6, 0, none⟩) := hn _ (List.mem_iff_getElem?.2 ⟨0, rfl⟩)
  have e7 : vs 7 = .pointer (some ⟨nb 7, 0, none⟩) := hn _ (List.mem_iff_getElem?.2 ⟨1, rfl⟩)
  have e8 : vs 8 = .pointer (some ⟨nb 8, 0, none⟩) := hn _ (List.mem_iff_getElem?.2 ⟨2, rfl⟩)
  have E : Fr w [(nb 6, 4, Fq.pair a.num (a.den : Int)), (nb 7, 4, Fq.pair b.num (b.den : Int)), (nb 8, 4, Fq.pair c.num (c.den : Int)), (b3, 4, Fq.raw2 n3 a3 k3 c3 xs3 m3 r3 l3 q3 ys3), (b2, 4, Fq.raw2 n2 a2 k2 c2 xs2 m2 r2 l2 q2 ys2), (b1, 4, Fq.raw2 n1 a1 k1 c1 xs1 m1 r1 l1 q1 ys1)] w6 := E6
  rw [lay_all hL]
  simp only [putAll, dstOf, List.length_cons, List.length_nil, Nat.zero_add, Nat.reduceAdd, List.getElem?_toArray, List.getElem?_cons_zero, List.getElem?_cons_succ, Option.bind_some, Act.put, List.setIfInBounds_toArray, List.set_cons_succ, List.set_cons_zero]
  rw [e6, e7, e8]
  generalize nb 6 = b6_6 at E ⊢
  generalize nb 7 = b6_7 at E ⊢
  generalize nb 8 = b6_8 at E ⊢
  generalize vs 0 = u6_0
  generalize vs 1 = u6_1
  generalize vs 2 = u6_2
  generalize vs 3 = u6_3
  generalize vs 4 = u6_4
  generalize vs 5 = u6_5
  clear e6 e7 e8 hC hn E6 hL vs L nb
  go_upto_region 5 with (fail)
  refine region_fr (C := [Fq.pair a.num (a.den : Int), Fq.pair b.num (b.den : Int), Fq.is (.int .i64 (cmpQ a b)), Fq.is (.int .i64 (cmpQ a b))]) (ks := [none, none, none, none, none, none]) (new := []) E rfl (by kernel_rfl) rfl rfl (fun hp => ⟨?_, ?_, ?_, ?_, trivial⟩) ?_
  · exact q_loadRat hp (free_of rfl) trivial (List.mem_iff_getElem?.2 ⟨0, rfl⟩) (.inl rfl) rfl (sq_out rfl rfl (fun _ _ => rfl)) (fun us w hl h => h)
  · exact q_loadRat hp (free_of rfl) trivial (List.mem_iff_getElem?.2 ⟨1, rfl⟩) (.inl rfl) rfl (sq_out rfl rfl (fun _ _ => rfl)) (fun us w hl h => h)
  · exact q_call2 (F := (Fq.pair a.num (a.den : Int)).P) (G := (Fq.pair b.num (b.den : Int)).P) hp (free_of rfl) trivial (enq_Q_Cmp) (sq_in 0 rfl rfl (by simp) rfl (fun v w h => h)) (sq_in 1 rfl rfl (by simp) rfl (fun v w h => h)) (fun v v' w h h' => exCmpQ h h' (rb_le Ba.out (by omega)) (rb_le Bb.out (by omega)))
  · exact q_assign hp (free_of rfl) trivial (sq_in 2 rfl rfl (by simp) rfl (fun v w h => h))
  intro L vs w7 nb hL hC hn E7
  have e2 : vs 2 = .int .i64 (cmpQ a b) := hC 2 (by simp)
  have e3 : vs 3 = .int .i64 (cmpQ a b) := hC 3 (by simp)
  have E : Fr w [(b6_6, 4, Fq.pair a.num (a.den : Int)), (b6_7, 4, Fq.pair b.num (b.den : Int)), (b6_8, 4, Fq.pair c.num (c.den : Int)), (b3, 4, Fq.raw2 n3 a3 k3 c3 xs3 m3 r3 l3 q3 ys3), (b2, 4, Fq.raw2 n2 a2 k2 c2 xs2 m2 r2 l2 q2 ys2), (b1, 4, Fq.raw2 n1 a1 k1 c1 xs1 m1 r1 l1 q1 ys1)] w7 := E7
  rw [lay_all hL]
  simp only [putAll, dstOf, List.length_cons, List.length_nil, Nat.zero_add, Nat.reduceAdd, List.getElem?_toArray, List.getElem?_cons_zero, List.getElem?_cons_succ, Option.bind_some, Act.put, List.setIfInBounds_toArray, List.set_cons_succ, List.set_cons_zero]
  rw [e2, e3]
  generalize vs 0 = u7_0
  generalize vs 1 = u7_1
  clear e2 e3 hC hn E7 hL vs L nb
  go_upto_region 6 with (fail)
  have B8 : Hid (Rb (a - b) 13) := rb_le (rb_sub Ba.out Bb.out) (by omega)
  refine region_fr (C := [Fq.is (.int .i64 (cmpQ a b)), Fq.is (.bool false), Fq.is (.bool false), Fq.is (.int .i64 (cmpQ a b)), Fq.is (.bool false), Fq.is (.bool false), Fq.is (.bool false), Fq.pair b.num (b.den : Int), Fq.pair a.num (a.den : Int), Fq.is (.int .i64 (cmpQ b a)), Fq.is (.int .i64 (cmpQ a b)), Fq.is (.int .i64 (-(cmpQ a b))), Fq.is (.bool false), Fq.is (.bool false), Fq.is (.bool false), Fq.is (.int .i64 (cmpQ a b)), Fq.is (.bool (decide (a = b))), Fq.pair a.num (a.den : Int), Fq.pair b.num (b.den : Int), Fq.is (.bool (decide (a = b))), Fq.is (.bool false), Fq.is (.bool false), Fq.is (.bool false), Fq.pair a.num (a.den : Int), Fq.pair b.num (b.den : Int), Fq.pair (a - b).num ((a - b).den : Int), Fq.is (.int .i64 (cmpI (a - b).num 0)), Fq.is (.int .i64 (cmpQ a b)), Fq.is (.bool false), Fq.is (.bool false)]) (ks := [none, none, none, none, none, none]) (new := []) E rfl (by kernel_rfl) rfl rfl (fun hp => ⟨?_, ?_, ?_, ?_, ?_, ?_, ?_, ?_, ?_, ?_, ?_, ?_, ?_, ?_, ?_, ?_, ?_, ?_, ?_, ?_, ?_, ?_, ?_, ?_, ?_, ?_, ?_, ?_, ?_, ?_, trivial⟩) ?_
  · exact q_move hp (free_of rfl) trivial (sq_out rfl rfl (fun _ _ => rfl))
  · exact q_one (F := fun v _ => v = .int .i64 (cmpQ a b)) hp (free_of rfl) trivial (sq_in 0 rfl rfl (by simp) rfl (fun v w h => h)) (fun ρ w hc h => ⟨.bool false, by simp [execOp, go_sem, h, hc, TL.out], rfl⟩)
  · exact q_move hp (free_of rfl) trivial (sq_in 1 rfl rfl (by simp) rfl (fun v w h => h))
  · exact q_move hp (free_of rfl) (gq_some rfl rfl (by simp) rfl (fun v w h => h)) (sq_out rfl rfl (fun _ _ => rfl))
  · exact q_one (F := fun v _ => v = .int .i64 (cmpQ a b)) hp (free_of rfl) (gq_some rfl rfl (by simp) rfl (fun v w h => h)) (sq_in 3 rfl rfl (by simp) rfl (fun v w h => h)) (fun ρ w hc h => ⟨.bool false, by simp [execOp, go_sem, h, hc, TG.out], rfl⟩)
  · exact q_two (F := fun v _ => v = .bool false) (G := fun v _ => v = .bool false) hp (free_of rfl) trivial (sq_in 2 rfl rfl (by simp) rfl (fun v w h => h)) (sq_in 4 rfl rfl (by simp) rfl (fun v w h => h)) (fun ρ w hc h h' => ⟨_, by simp [execOp, go_sem, h, h'], rfl⟩)
  · exact q_move hp (free_of rfl) trivial (sq_in 5 rfl rfl (by simp) rfl (fun v w h => h))
  · exact q_loadRat hp (free_of rfl) (gq_some rfl rfl (by simp) rfl (fun v w h => h)) (List.mem_iff_getElem?.2 ⟨1, rfl⟩) (.inl rfl) rfl (sq_out rfl rfl (fun _ _ => rfl)) (fun us w hl h => h)
  · exact q_loadRat hp (free_of rfl) (gq_some rfl rfl (by simp) rfl (fun v w h => h)) (List.mem_iff_getElem?.2 ⟨0, rfl⟩) (.inl rfl) rfl (sq_out rfl rfl (fun _ _ => rfl)) (fun us w hl h => h)
  · exact q_call2 (F := (Fq.pair b.num (b.den : Int)).P) (G := (Fq.pair a.num (a.den : Int)).P) hp (free_of rfl) (gq_some rfl rfl (by simp) rfl (fun v w h => h)) (enq_Q_Cmp) (sq_in 7 rfl rfl (by simp) rfl (fun v w h => h)) (sq_in 8 rfl rfl (by simp) rfl (fun v w h => h)) (fun v v' w h h' => exCmpQ h h' (rb_le Bb.out (by omega)) (rb_le Ba.out (by omega)))
  · exact q_move hp (free_of rfl) (gq_some rfl rfl (by simp) rfl (fun v w h => h)) (sq_out rfl rfl (fun _ _ => rfl))
  · exact q_one (F := fun v _ => v = .int .i64 (cmpQ a b)) hp (free_of rfl) (gq_some rfl rfl (by simp) rfl (fun v w h => h)) (sq_in 10 rfl rfl (by simp) rfl (fun v w h => h)) (fun ρ w _ h => ⟨.int .i64 (-(cmpQ a b)), by simp [execOp, go_sem, h, TW.out], rfl⟩)
  · exact q_two (F := fun v _ => v = .int .i64 (cmpQ b a)) (G := fun v _ => v = .int .i64 (-(cmpQ a b))) hp (free_of rfl) (gq_some rfl rfl (by simp) rfl (fun v w h => h)) (sq_in 9 rfl rfl (by simp) rfl (fun v w h => h)) (sq_in 11 rfl rfl (by simp) rfl (fun v w h => h)) (fun ρ w hc h h' => ⟨.bool false, by simp [execOp, go_sem, h, h', TN.out], rfl⟩)
  · exact q_two (F := fun v _ => v = .bool false) (G := fun v _ => v = .bool false) hp (free_of rfl) trivial (sq_in 6 rfl rfl (by simp) rfl (fun v w h => h)) (sq_in 12 rfl rfl (by simp) rfl (fun v w h => h)) (fun ρ w hc h h' => ⟨_, by simp [execOp, go_sem, h, h'], rfl⟩)
  · exact q_move hp (free_of rfl) trivial (sq_in 13 rfl rfl (by simp) rfl (fun v w h => h))
  · exact q_move hp (free_of rfl) (gq_some rfl rfl (by simp) rfl (fun v w h => h)) (sq_out rfl rfl (fun _ _ => rfl))
  · exact q_one (F := fun v _ => v = .int .i64 (cmpQ a b)) hp (free_of rfl) (gq_some rfl rfl (by simp) rfl (fun v w h => h)) (sq_in 15 rfl rfl (by simp) rfl (fun v w h => h)) (fun ρ w hc h => ⟨.bool (decide (a = b)), by simp [execOp, go_sem, h, hc, TE.out.1], rfl⟩)
  · exact q_loadRat hp (free_of rfl) (gq_some rfl rfl (by simp) rfl (fun v w h => h)) (List.mem_iff_getElem?.2 ⟨0, rfl⟩) (.inl rfl) rfl (sq_out rfl rfl (fun _ _ => rfl)) (fun us w hl h => h)
  · exact q_loadRat hp (free_of rfl) (gq_some rfl rfl (by simp) rfl (fun v w h => h)) (List.mem_iff_getElem?.2 ⟨1, rfl⟩) (.inl rfl) rfl (sq_out rfl rfl (fun _ _ => rfl)) (fun us w hl h => h)
  · exact q_call2 (F := (Fq.pair a.num (a.den : Int)).P) (G := (Fq.pair b.num (b.den : Int)).P) hp (free_of rfl) (gq_some rfl rfl (by simp) rfl (fun v w h => h)) (enq_S_Same) (sq_in 17 rfl rfl (by simp) rfl (fun v w h => h)) (sq_in 18 rfl rfl (by simp) rfl (fun v w h => h)) (fun v v' w h h' => exSSameD h h')
  · exact q_two (F := fun v _ => v = .bool (decide (a = b))) (G := fun v _ => v = .bool (decide (a = b))) hp (free_of rfl) (gq_some rfl rfl (by simp) rfl (fun v w h => h)) (sq_in 16 rfl rfl (by simp) rfl (fun v w h => h)) (sq_in 19 rfl rfl (by simp) rfl (fun v w h => h)) (fun ρ w hc h h' => ⟨.bool false, by simp [execOp, go_sem, h, h'], rfl⟩)
  · exact q_two (F := fun v _ => v = .bool false) (G := fun v _ => v = .bool false) hp (free_of rfl) trivial (sq_in 14 rfl rfl (by simp) rfl (fun v w h => h)) (sq_in 20 rfl rfl (by simp) rfl (fun v w h => h)) (fun ρ w hc h h' => ⟨_, by simp [execOp, go_sem, h, h'], rfl⟩)
  · exact q_move hp (free_of rfl) trivial (sq_in 21 rfl rfl (by simp) rfl (fun v w h => h))
  · exact q_loadRat hp (free_of rfl) (gq_some rfl rfl (by simp) rfl (fun v w h => h)) (List.mem_iff_getElem?.2 ⟨0, rfl⟩) (.inl rfl) rfl (sq_out rfl rfl (fun _ _ => rfl)) (fun us w hl h => h)
  · exact q_loadRat hp (free_of rfl) (gq_some rfl rfl (by simp) rfl (fun v w h => h)) (List.mem_iff_getElem?.2 ⟨1, rfl⟩) (.inl rfl) rfl (sq_out rfl rfl (fun _ _ => rfl)) (fun us w hl h => h)
  · exact q_call2 (F := (Fq.pair a.num (a.den : Int)).P) (G := (Fq.pair b.num (b.den : Int)).P) hp (free_of rfl) (gq_some rfl rfl (by simp) rfl (fun v w h => h)) (enq_Q_Sub) (sq_in 23 rfl rfl (by simp) rfl (fun v w h => h)) (sq_in 24 rfl rfl (by simp) rfl (fun v w h => h)) (fun v v' w h h' => exSubQ h h' (rb_le Ba.out (by omega)) (rb_le Bb.out (by omega)))
  · exact q_call1 (F := (Fq.pair (a - b).num ((a - b).den : Int)).P) hp (free_of rfl) (gq_some rfl rfl (by simp) rfl (fun v w h => h)) (enq_Q_Sign) (sq_in 25 rfl rfl (by simp) rfl (fun v w h => h)) (fun v w h => exSignQ h)
  · exact q_move hp (free_of rfl) (gq_some rfl rfl (by simp) rfl (fun v w h => h)) (sq_out rfl rfl (fun _ _ => rfl))
  · exact q_two (F := fun v _ => v = .int .i64 (cmpI (a - b).num 0)) (G := fun v _ => v = .int .i64 (cmpQ a b)) hp (free_of rfl) (gq_some rfl rfl (by simp) rfl (fun v w h => h)) (sq_in 26 rfl rfl (by simp) rfl (fun v w h => h)) (sq_in 27 rfl rfl (by simp) rfl (fun v w h => h)) (fun ρ w hc h h' => ⟨.bool false, by simp [execOp, go_sem, h, h', TS.out], rfl⟩)
  · exact q_two (F := fun v _ => v = .bool false) (G := fun v _ => v = .bool false) hp (free_of rfl) trivial (sq_in 22 rfl rfl (by simp) rfl (fun v w h => h)) (sq_in 28 rfl rfl (by simp) rfl (fun v w h => h)) (fun ρ w hc h h' => ⟨_, by simp [execOp, go_sem, h, h'], rfl⟩)
  intro L vs w9 nb hL hC hn E9
  have e0 : vs 0 = .int .i64 (cmpQ a b) := hC 0 (by simp)
  have e1 : vs 1 = .bool false := hC 1 (by simp)
  have e2 : vs 2 = .bool false := hC 2 (by simp)
  have e3 : vs 3 = .int .i64 (cmpQ a b) := hC 3 (by simp)
  have e4 : vs 4 = .bool false := hC 4 (by simp)
  have e5 : vs 5 = .bool false := hC 5 (by simp)
  have e6 : vs 6 = .bool false := hC 6 (by simp)
  have e9 : vs 9 = .int .i64 (cmpQ b a) := hC 9 (by simp)
  have e10 : vs 10 = .int .i64 (cmpQ a b) := hC 10 (by simp)
  have e11 : vs 11 = .int .i64 (-(cmpQ a b)) := hC 11 (by simp)
  have e12 : vs 12 = .bool false := hC 12 (by simp)
  have e13 : vs 13 = .bool false := hC 13 (by simp)
  have e14 : vs 14 = .bool false := hC 14 (by simp)
  have e15 : vs 15 = .int .i64 (cmpQ a b) := hC 15 (by simp)
  have e16 : vs 16 = .bool (decide (a = b)) := hC 16 (by simp)
  have e19 : vs 19 = .bool (decide (a = b)) := hC 19 (by simp)
  have e20 : vs 20 = .bool false := hC 20 (by simp)
  have e21 : vs 21 = .bool false := hC 21 (by simp)
  have e22 : vs 22 = .bool false := hC 22 (by simp)
  have e26 : vs 26 = .int .i64 (cmpI (a - b).num 0) := hC 26 (by simp)
  have e27 : vs 27 = .int .i64 (cmpQ a b) := hC 27 (by simp)
  have e28 : vs 28 = .bool false := hC 28 (by simp)
  have e29 : vs 29 = .bool false := hC 29 (by simp)
  have E : Fr w [(b6_6, 4, Fq.pair a.num (a.den : Int)), (b6_7, 4, Fq.pair b.num (b.den : Int)), (b6_8, 4, Fq.pair c.num (c.den : Int)), (b3, 4, Fq.raw2 n3 a3 k3 c3 xs3 m3 r3 l3 q3 ys3), (b2, 4, Fq.raw2 n2 a2 k2 c2 xs2 m2 r2 l2 q2 ys2), (b1, 4, Fq.raw2 n1 a1 k1 c1 xs1 m1 r1 l1 q1 ys1)] w9 := E9
  rw [lay_all hL]
  simp only [putAll, dstOf, List.length_cons, List.length_nil, Nat.zero_add, Nat.reduceAdd, List.getElem?_toArray, List.getElem?_cons_zero, List.getElem?_cons_succ, Option.bind_some, Act.put, List.setIfInBounds_toArray, List.set_cons_succ, List.set_cons_zero]
  rw [e0, e1, e2, e3, e4, e5, e6, e9, e10, e11, e12, e13, e14, e15, e16, e19, e20, e21, e22, e26, e27, e28, e29]
  generalize vs 7 = u9_7
  generalize vs 8 = u9_8
  generalize vs 17 = u9_17
  generalize vs 18 = u9_18
  generalize vs 23 = u9_23
  generalize vs 24 = u9_24
  generalize vs 25 = u9_25
  clear e0 e1 e2 e3 e4 e5 e6 e9 e10 e11 e12 e13 e14 e15 e16 e19 e20 e21 e22 e26 e27 e28 e29 hC hn E9 hL vs L nb
  clear TL TG TW TN TE TS
  by_cases hab : cmpQ a b ≤ 0
  · by_cases hbc : cmpQ b c ≤ 0
    · have T1 := hidd hab
      have T2 := hidd hbc
      have T3 : Hid (¬ 0 < cmpQ a c) := by show ¬ _; have := cmpQ_le.2 (Rat.le_trans (cmpQ_le.1 hab) (cmpQ_le.1 hbc)); omega
      clear hab hbc
      go_upto_region 8 with (fail)
      have B10 : Hid (Rb (a + c) 13) := rb_le (rb_add Ba.out Bc.out) (by omega)
      have B11 : Hid (Rb (b + c) 13) := rb_le (rb_add Bb.out Bc.out) (by omega)
      refine region_fr (C := [Fq.is (.int .i64 (cmpQ a b)), Fq.is (.bool true), Fq.is (.bool true), Fq.pair b.num (b.den : Int), Fq.pair c.num (c.den : Int), Fq.is (.int .i64 (cmpQ b c)), Fq.is (.bool true), Fq.is (.bool true), Fq.is (.bool true), Fq.pair a.num (a.den : Int), Fq.pair c.num (c.den : Int), Fq.is (.int .i64 (cmpQ a c)), Fq.is (.bool false), Fq.is (.bool false), Fq.is (.bool false), Fq.pair a.num (a.den : Int), Fq.pair c.num (c.den : Int), Fq.pair (a + c).num ((a + c).den : Int), Fq.pair b.num (b.den : Int), Fq.pair c.num (c.den : Int), Fq.pair (b + c).num ((b + c).den : Int), Fq.is (.int .i64 (cmpQ (a + c) (b + c))), Fq.is (.int .i64 (cmpQ a b)), Fq.is (.bool false), Fq.is (.bool false)]) (ks := [none, none, none, none, none, none]) (new := []) E rfl (by kernel_rfl) rfl rfl (fun hp => ⟨?_, ?_, ?_, ?_, ?_, ?_, ?_, ?_, ?_, ?_, ?_, ?_, ?_, ?_, ?_, ?_, ?_, ?_, ?_, ?_, ?_, ?_, ?_, ?_, ?_, trivial⟩) ?_
      · exact q_move hp (free_of rfl) trivial (sq_out rfl rfl (fun _ _ => rfl))
      · exact q_one (F := fun v _ => v = .int .i64 (cmpQ a b)) hp (free_of rfl) trivial (sq_in 0 rfl rfl (by simp) rfl (fun v w h => h)) (fun ρ w hc h => ⟨.bool true, by simp [execOp, go_sem, h, hc, T1.out], rfl⟩)
      · exact q_move hp (free_of rfl) trivial (sq_in 1 rfl rfl (by simp) rfl (fun v w h => h))
      · exact q_loadRat hp (free_of rfl) (gq_some rfl rfl (by simp) rfl (fun v w h => h)) (List.mem_iff_getElem?.2 ⟨1, rfl⟩) (.inl rfl) rfl (sq_out rfl rfl (fun _ _ => rfl)) (fun us w hl h => h)
      · exact q_loadRat hp (free_of rfl) (gq_some rfl rfl (by simp) rfl (fun v w h => h)) (List.mem_iff_getElem?.2 ⟨2, rfl⟩) (.inl rfl) rfl (sq_out rfl rfl (fun _ _ => rfl)) (fun us w hl h => h)
      · exact q_call2 (F := (Fq.pair b.num (b.den : Int)).P) (G := (Fq.pair c.num (c.den : Int)).P) hp (free_of rfl) (gq_some rfl rfl (by simp) rfl (fun v w h => h)) (enq_Q_Cmp) (sq_in 3 rfl rfl (by simp) rfl (fun v w h => h)) (sq_in 4 rfl rfl (by simp) rfl (fun v w h => h)) (fun v v' w h h' => exCmpQ h h' (rb_le Bb.out (by omega)) (rb_le Bc.out (by omega)))
      · exact q_one (F := fun v _ => v = .int .i64 (cmpQ b c)) hp (free_of rfl) (gq_some rfl rfl (by simp) rfl (fun v w h => h)) (sq_in 5 rfl rfl (by simp) rfl (fun v w h => h)) (fun ρ w hc h => ⟨.bool true, by simp [execOp, go_sem, h, hc, T2.out], rfl⟩)
      · exact q_two (F := fun v _ => v = .bool true) (G := fun v _ => v = .bool true) hp (free_of rfl) trivial (sq_in 2 rfl rfl (by simp) rfl (fun v w h => h)) (sq_in 6 rfl rfl (by simp) rfl (fun v w h => h)) (fun ρ w hc h h' => ⟨_, by simp [execOp, go_sem, h, h'], rfl⟩)
      · exact q_move hp (free_of rfl) trivial (sq_in 7 rfl rfl (by simp) rfl (fun v w h => h))
      · exact q_loadRat hp (free_of rfl) (gq_some rfl rfl (by simp) rfl (fun v w h => h)) (List.mem_iff_getElem?.2 ⟨0, rfl⟩) (.inl rfl) rfl (sq_out rfl rfl (fun _ _ => rfl)) (fun us w hl h => h)
      · exact q_loadRat hp (free_of rfl) (gq_some rfl rfl (by simp) rfl (fun v w h => h)) (List.mem_iff_getElem?.2 ⟨2, rfl⟩) (.inl rfl) rfl (sq_out rfl rfl (fun _ _ => rfl)) (fun us w hl h => h)
      · exact q_call2 (F := (Fq.pair a.num (a.den : Int)).P) (G := (Fq.pair c.num (c.den : Int)).P) hp (free_of rfl) (gq_some rfl rfl (by simp) rfl (fun v w h => h)) (enq_Q_Cmp) (sq_in 9 rfl rfl (by simp) rfl (fun v w h => h)) (sq_in 10 rfl rfl (by simp) rfl (fun v w h => h)) (fun v v' w h h' => exCmpQ h h' (rb_le Ba.out (by omega)) (rb_le Bc.out (by omega)))
      · exact q_one (F := fun v _ => v = .int .i64 (cmpQ a c)) hp (free_of rfl) (gq_some rfl rfl (by simp) rfl (fun v w h => h)) (sq_in 11 rfl rfl (by simp) rfl (fun v w h => h)) (fun ρ w hc h => ⟨.bool false, by simp [execOp, go_sem, h, hc, T3.out], rfl⟩)
      · exact q_two (F := fun v _ => v = .bool true) (G := fun v _ => v = .bool false) hp (free_of rfl) trivial (sq_in 8 rfl rfl (by simp) rfl (fun v w h => h)) (sq_in 12 rfl rfl (by simp) rfl (fun v w h => h)) (fun ρ w hc h h' => ⟨_, by simp [execOp, go_sem, h, h'], rfl⟩)
      · exact q_move hp (free_of rfl) trivial (sq_in 13 rfl rfl (by simp) rfl (fun v w h => h))
      · exact q_loadRat hp (free_of rfl) (gq_some rfl rfl (by simp) rfl (fun v w h => h)) (List.mem_iff_getElem?.2 ⟨0, rfl⟩) (.inl rfl) rfl (sq_out rfl rfl (fun _ _ => rfl)) (fun us w hl h => h)
      · exact q_loadRat hp (free_of rfl) (gq_some rfl rfl (by simp) rfl (fun v w h => h)) (List.mem_iff_getElem?.2 ⟨2, rfl⟩) (.inl rfl) rfl (sq_out rfl rfl (fun _ _ => rfl)) (fun us w hl h => h)
      · exact q_call2 (F := (Fq.pair a.num (a.den : Int)).P) (G := (Fq.pair c.num (c.den : Int)).P) hp (free_of rfl) (gq_some rfl rfl (by simp) rfl (fun v w h => h)) (enq_Q_Add) (sq_in 15 rfl rfl (by simp) rfl (fun v w h => h)) (sq_in 16 rfl rfl (by simp) rfl (fun v w h => h)) (fun v v' w h h' => exAddQ h h' (rb_le Ba.out (by omega)) (rb_le Bc.out (by omega)))
      · exact q_loadRat hp (free_of rfl) (gq_some rfl rfl (by simp) rfl (fun v w h => h)) (List.mem_iff_getElem?.2 ⟨1, rfl⟩) (.inl rfl) rfl (sq_out rfl rfl (fun _ _ => rfl)) (fun us w hl h => h)
      · exact q_loadRat hp (free_of rfl) (gq_some rfl rfl (by simp) rfl (fun v w h => h)) (List.mem_iff_getElem?.2 ⟨2, rfl⟩) (.inl rfl) rfl (sq_out rfl rfl (fun _ _ => rfl)) (fun us w hl h => h)
      · exact q_call2 (F := (Fq.pair b.num (b.den : Int)).P) (G := (Fq.pair c.num (c.den : Int)).P) hp (free_of rfl) (gq_some rfl rfl (by simp) rfl (fun v w h => h)) (enq_Q_Add) (sq_in 18 rfl rfl (by simp) rfl (fun v w h => h)) (sq_in 19 rfl rfl (by simp) rfl (fun v w h => h)) (fun v v' w h h' => exAddQ h h' (rb_le Bb.out (by omega)) (rb_le Bc.out (by omega)))
      · exact q_call2 (F := (Fq.pair (a + c).num ((a + c).den : Int)).P) (G := (Fq.pair (b + c).num ((b + c).den : Int)).P) hp (free_of rfl) (gq_some rfl rfl (by simp) rfl (fun v w h => h)) (enq_Q_Cmp) (sq_in 17 rfl rfl (by simp) rfl (fun v w h => h)) (sq_in 20 rfl rfl (by simp) rfl (fun v w h => h)) (fun v v' w h h' => exCmpQ h h' (rb_le B10.out (by omega)) (rb_le B11.out (by omega)))
      · exact q_move hp (free_of rfl) (gq_some rfl rfl (by simp) rfl (fun v w h => h)) (sq_out rfl rfl (fun _ _ => rfl))
      · exact q_two (F := fun v _ => v = .int .i64 (cmpQ (a + c) (b + c))) (G := fun v _ => v = .int .i64 (cmpQ a b)) hp (free_of rfl) (gq_some rfl rfl (by simp) rfl (fun v w h => h)) (sq_in 21 rfl rfl (by simp) rfl (fun v w h => h)) (sq_in 22 rfl rfl (by simp) rfl (fun v w h => h)) (fun ρ w hc h h' => ⟨.bool false, by simp [execOp, go_sem, h, h', TA.out], rfl⟩)
      · exact q_two (F := fun v _ => v = .bool false) (G := fun v _ => v = .bool false) hp (free_of rfl) trivial (sq_in 14 rfl rfl (by simp) rfl (fun v w h => h)) (sq_in 23 rfl rfl (by simp) rfl (fun v w h => h)) (fun ρ w hc h h' => ⟨_, by simp [execOp, go_sem, h, h'], rfl⟩)
      intro L vs w12 nb hL hC hn E12
      have e0 : vs 0 = .int .i64 (cmpQ a b) := hC 0 (by simp)
      have e1 : vs 1 = .bool true := hC 1 (by simp)
      have e2 : vs 2 = .bool true := hC 2 (by simp)
      have e5 : vs 5 = .int .i64 (cmpQ b c) := hC 5 (by simp)
      have e6 : vs 6 = .bool true := hC 6 (by simp)
      have e7 : vs 7 = .bool true := hC 7 (by simp)
      have e8 : vs 8 = .bool true := hC 8 (by simp)
      have e11 : vs 11 = .int .i64 (cmpQ a c) := hC 11 (by simp)
      have e12 : vs 12 = .bool false := hC 12 (by simp)
      have e13 : vs 13 = .bool false := hC 13 (by simp)
      have e14 : vs 14 = .bool false := hC 14 (by simp)
      have e21 : vs 21 = .int .i64 (cmpQ (a + c) (b + c)) := hC 21 (by simp)
      have e22 : vs 22 = .int .i64 (cmpQ a b) := hC 22 (by simp)
      have e23 : vs 23 = .bool false := hC 23 (by simp)
      have e24 : vs 24 = .bool false := hC 24 (by simp)
      have E : Fr w [(b6_6, 4, Fq.pair a.num (a.den : Int)), (b6_7, 4, Fq.pair b.num (b.den : Int)), (b6_8, 4, Fq.pair c.num (c.den : Int)), (b3, 4, Fq.raw2 n3 a3 k3 c3 xs3 m3 r3 l3 q3 ys3), (b2, 4, Fq.raw2 n2 a2 k2 c2 xs2 m2 r2 l2 q2 ys2), (b1, 4, Fq.raw2 n1 a1 k1 c1 xs1 m1 r1 l1 q1 ys1)] w12 := E12
      rw [lay_all hL]
      simp only [putAll, dstOf, List.length_cons, List.length_nil, Nat.zero_add, Nat.reduceAdd, List.getElem?_toArray, List.getElem?_cons_zero, List.getElem?_cons_succ, Option.bind_some, Act.put, List.setIfInBounds_toArray, List.set_cons_succ, List.set_cons_zero]
      rw [e0, e1, e2, e5, e6, e7, e8, e11, e12, e13, e14, e21, e22, e23, e24]
      generalize vs 3 = u12_3
      generalize vs 4 = u12_4
      generalize vs 9 = u12_9
      generalize vs 10 = u12_10
      generalize vs 15 = u12_15
      generalize vs 16 = u12_16
      generalize vs 17 = u12_17
      generalize vs 18 = u12_18
      generalize vs 19 = u12_19
      generalize vs 20 = u12_20
      clear e0 e1 e2 e5 e6 e7 e8 e11 e12 e13 e14 e21 e22 e23 e24 hC hn E12 hL vs L nb
      clear T1 T2 T3 TA
      by_cases hc0 : 0 < c.num
      · have TP := hidd (cmpIqgt.2 hc0)
        have TM := hidd (cmpQ_mul (a := a) (b := b) (num_pos hc0))
        clear hc0
        go_upto_region 10 with (fail)
        have B13 : Hid (Rb (a * c) 12) := rb_le (rb_mul Ba.out Bc.out) (by omega)
        have B14 : Hid (Rb (b * c) 12) := rb_le (rb_mul Bb.out Bc.out) (by omega)
        refine region_fr (C := [Fq.pair c.num (c.den : Int), Fq.is (.int .i64 (cmpI c.num 0)), Fq.is (.bool true), Fq.is (.bool true), Fq.pair a.num (a.den : Int), Fq.pair c.num (c.den : Int), Fq.pair (a * c).num ((a * c).den : Int), Fq.pair b.num (b.den : Int), Fq.pair c.num (c.den : Int), Fq.pair (b * c).num ((b * c).den : Int), Fq.is (.int .i64 (cmpQ (a * c) (b * c))), Fq.is (.int .i64 (cmpQ a b)), Fq.is (.bool false), Fq.is (.bool false)]) (ks := [none, none, none, none, none, none]) (new := []) E rfl (by kernel_rfl) rfl rfl (fun hp => ⟨?_, ?_, ?_, ?_, ?_, ?_, ?_, ?_, ?_, ?_, ?_, ?_, ?_, ?_, trivial⟩) ?_
        · exact q_loadRat hp (free_of rfl) trivial (List.mem_iff_getElem?.2 ⟨2, rfl⟩) (.inl rfl) rfl (sq_out rfl rfl (fun _ _ => rfl)) (fun us w hl h => h)
        · exact q_call1 (F := (Fq.pair c.num (c.den : Int)).P) hp (free_of rfl) trivial (enq_Q_Sign) (sq_in 0 rfl rfl (by simp) rfl (fun v w h => h)) (fun v w h => exSignQ h)
        · exact q_one (F := fun v _ => v = .int .i64 (cmpI c.num 0)) hp (free_of rfl) trivial (sq_in 1 rfl rfl (by simp) rfl (fun v w h => h)) (fun ρ w hc h => ⟨.bool true, by simp [execOp, go_sem, h, hc, TP.out], rfl⟩)
        · exact q_move hp (free_of rfl) trivial (sq_in 2 rfl rfl (by simp) rfl (fun v w h => h))
        · exact q_loadRat hp (free_of rfl) (gq_some rfl rfl (by simp) rfl (fun v w h => h)) (List.mem_iff_getElem?.2 ⟨0, rfl⟩) (.inl rfl) rfl (sq_out rfl rfl (fun _ _ => rfl)) (fun us w hl h => h)
        · exact q_loadRat hp (free_of rfl) (gq_some rfl rfl (by simp) rfl (fun v w h => h)) (List.mem_iff_getElem?.2 ⟨2, rfl⟩) (.inl rfl) rfl (sq_out rfl rfl (fun _ _ => rfl)) (fun us w hl h => h)
        · exact q_call2 (F := (Fq.pair a.num (a.den : Int)).P) (G := (Fq.pair c.num (c.den : Int)).P) hp (free_of rfl) (gq_some rfl rfl (by simp) rfl (fun v w h => h)) (enq_Q_Mul) (sq_in 4 rfl rfl (by simp) rfl (fun v w h => h)) (sq_in 5 rfl rfl (by simp) rfl (fun v w h => h)) (fun v v' w h h' => exMulQ h h' (rb_le Ba.out (by omega)) (rb_le Bc.out (by omega)))
        · exact q_loadRat hp (free_of rfl) (gq_some rfl rfl (by simp) rfl (fun v w h => h)) (List.mem_iff_getElem?.2 ⟨1, rfl⟩) (.inl rfl) rfl (sq_out rfl rfl (fun _ _ => rfl)) (fun us w hl h => h)
        · exact q_loadRat hp (free_of rfl) (gq_some rfl rfl (by simp) rfl (fun v w h => h)) (List.mem_iff_getElem?.2 ⟨2, rfl⟩) (.inl rfl) rfl (sq_out rfl rfl (fun _ _ => rfl)) (fun us w hl h => h)
        · exact q_call2 (F := (Fq.pair b.num (b.den : Int)).P) (G := (Fq.pair c.num (c.den : Int)).P) hp (free_of rfl) (gq_some rfl rfl (by simp) rfl (fun v w h => h)) (enq_Q_Mul) (sq_in 7 rfl rfl (by simp) rfl (fun v w h => h)) (sq_in 8 rfl rfl (by simp) rfl (fun v w h => h)) (fun v v' w h h' => exMulQ h h' (rb_le Bb.out (by omega)) (rb_le Bc.out (by omega)))
        · exact q_call2 (F := (Fq.pair (a * c).num ((a * c).den : Int)).P) (G := (Fq.pair (b * c).num ((b * c).den : Int)).P) hp (free_of rfl) (gq_some rfl rfl (by simp) rfl (fun v w h => h)) (enq_Q_Cmp) (sq_in 6 rfl rfl (by simp) rfl (fun v w h => h)) (sq_in 9 rfl rfl (by simp) rfl (fun v w h => h)) (fun v v' w h h' => exCmpQ h h' (rb_le B13.out (by omega)) (rb_le B14.out (by omega)))
        · exact q_move hp (free_of rfl) (gq_some rfl rfl (by simp) rfl (fun v w h => h)) (sq_out rfl rfl (fun _ _ => rfl))
        · exact q_two (F := fun v _ => v = .int .i64 (cmpQ (a * c) (b * c))) (G := fun v _ => v = .int .i64 (cmpQ a b)) hp (free_of rfl) (gq_some rfl rfl (by simp) rfl (fun v w h => h)) (sq_in 10 rfl rfl (by simp) rfl (fun v w h => h)) (sq_in 11 rfl rfl (by simp) rfl (fun v w h => h)) (fun ρ w hc h h' => ⟨.bool false, by simp [execOp, go_sem, h, h', TM.out], rfl⟩)
        · exact q_two (F := fun v _ => v = .bool true) (G := fun v _ => v = .bool false) hp (free_of rfl) trivial (sq_in 3 rfl rfl (by simp) rfl (fun v w h => h)) (sq_in 12 rfl rfl (by simp) rfl (fun v w h => h)) (fun ρ w hc h h' => ⟨_, by simp [execOp, go_sem, h, h'], rfl⟩)
        intro L vs w15 nb hL hC hn E15
        have e1 : vs 1 = .int .i64 (cmpI c.num 0) := hC 1 (by simp)
        have e2 : vs 2 = .bool true := hC 2 (by simp)
        have e3 : vs 3 = .bool true := hC 3 (by simp)
        have e10 : vs 10 = .int .i64 (cmpQ (a * c) (b * c)) := hC 10 (by simp)
        have e11 : vs 11 = .int .i64 (cmpQ a b) := hC 11 (by simp)
        have e12 : vs 12 = .bool false := hC 12 (by simp)
        have e13 : vs 13 = .bool false := hC 13 (by simp)
        have E : Fr w [(b6_6, 4, Fq.pair a.num (a.den : Int)), (b6_7, 4, Fq.pair b.num (b.den : Int)), (b6_8, 4, Fq.pair c.num (c.den : Int)), (b3, 4, Fq.raw2 n3 a3 k3 c3 xs3 m3 r3 l3 q3 ys3), (b2, 4, Fq.raw2 n2 a2 k2 c2 xs2 m2 r2 l2 q2 ys2), (b1, 4, Fq.raw2 n1 a1 k1 c1 xs1 m1 r1 l1 q1 ys1)] w15 := E15
        rw [lay_all hL]
        simp only [putAll, dstOf, List.length_cons, List.length_nil, Nat.zero_add, Nat.reduceAdd, List.getElem?_toArray, List.getElem?_cons_zero, List.getElem?_cons_succ, Option.bind_some, Act.put, List.setIfInBounds_toArray, List.set_cons_succ, List.set_cons_zero]
        rw [e1, e2, e3, e10, e11, e12, e13]
        generalize vs 0 = u15_0
        generalize vs 4 = u15_4
        generalize vs 5 = u15_5
        generalize vs 6 = u15_6
        generalize vs 7 = u15_7
        generalize vs 8 = u15_8
        generalize vs 9 = u15_9
        clear e1 e2 e3 e10 e11 e12 e13 hC hn E15 hL vs L nb
        clear TP TM
        have TF1 := hidd (cmpQ_le.2 (Rat.floor_le a))
        have TF2 := hidd (cmpQ_lt.2 (floor_next a))
        go_upto_region 12 with (fail)
        have B16 : Hid (ab (a.floor) < pw 7) := Int.lt_of_lt_of_le (rb_floor Ba.out) (pw_le (by omega))
        have B17 : Hid (Rb ((a.floor : Int) : Rat) 7) := rb_int B16.out (by omega)
        refine region_fr (C := [Fq.pair a.num (a.den : Int), Fq.num a.floor, Fq.pair ((a.floor : Int) : Rat).num (((a.floor : Int) : Rat).den : Int), Fq.any, Fq.any]) (ks := [none, none, none, none, none, none]) (new := [⟨3, 4, 4, Fq.pair 0 0, Fq.pair ((a.floor : Int) : Rat).num (((a.floor : Int) : Rat).den : Int)⟩]) E rfl (by kernel_rfl) rfl rfl (fun hp => ⟨?_, ?_, ?_, ?_, ?_, trivial⟩) ?_
        · exact q_loadRat hp (free_of rfl) trivial (List.mem_iff_getElem?.2 ⟨0, rfl⟩) (.inl rfl) rfl (sq_out rfl rfl (fun _ _ => rfl)) (fun us w hl h => h)
        · exact q_call1 (F := (Fq.pair a.num (a.den : Int)).P) hp (free_of rfl) trivial (enq_Q_Floor) (sq_in 0 rfl rfl (by simp) rfl (fun v w h => h)) (fun v w h => exFloorQ h (rb_le Ba.out (by omega)))
        · exact q_call1 (F := (Fq.num a.floor).P) hp (free_of rfl) trivial (enq_S_Whole) (sq_in 1 rfl rfl (by simp) rfl (fun v w h => h)) (fun v w h => exSWhole h (Int.lt_of_lt_of_le B16.out (pw_le (by omega))))
        · exact q_allocRat hp (List.mem_iff_getElem?.2 ⟨0, rfl⟩) rfl rfl rfl (Nat.ne_of_beq_eq_false rfl) (fun _ _ => trivial) (old_ne rfl) (newk_ne rfl) (fun w => Pair.zero w)
        · exact q_storeNewRat hp (List.mem_iff_getElem?.2 ⟨0, rfl⟩) rfl rfl (own_ptr rfl rfl (by simp) rfl) (sq_in 2 rfl rfl (by simp) rfl (fun v w h => ratV_pair h)) (fun _ _ => trivial) (old_ne rfl) (newi_ne rfl)
        intro L vs w18 nb hL hC hn E18
        have e3 : vs 3 = .pointer (some ⟨nb 3, 0, none⟩) := hn _ (List.mem_iff_getElem?.2 ⟨0, rfl⟩)
        have E : Fr w [(nb 3, 4, Fq.pair ((a.floor : Int) : Rat).num (((a.floor : Int) : Rat).den : Int)), (b6_6, 4, Fq.pair a.num (a.den : Int)), (b6_7, 4, Fq.pair b.num (b.den : Int)), (b6_8, 4, Fq.pair c.num (c.den : Int)), (b3, 4, Fq.raw2 n3 a3 k3 c3 xs3 m3 r3 l3 q3 ys3), (b2, 4, Fq.raw2 n2 a2 k2 c2 xs2 m2 r2 l2 q2 ys2), (b1, 4, Fq.raw2 n1 a1 k1 c1 xs1 m1 r1 l1 q1 ys1)] w18 := E18
        rw [lay_all hL]
        simp only [putAll, dstOf, List.length_cons, List.length_nil, Nat.zero_add, Nat.reduceAdd, List.getElem?_toArray, List.getElem?_cons_zero, List.getElem?_cons_succ, Option.bind_some, Act.put, List.setIfInBounds_toArray, List.set_cons_succ, List.set_cons_zero]
        rw [e3]
        generalize nb 3 = b18_3 at E ⊢
        generalize vs 0 = u18_0
        generalize vs 1 = u18_1
        generalize vs 2 = u18_2
        clear e3 hC hn E18 hL vs L nb
        go_upto_region 13 with (fail)
        have B19 : Hid (Rb (Rat.divInt (1) (1)) 3) := rb_lit (by decide) (by decide) (by decide)
        have B20 : Hid (Rb (((a.floor : Int) : Rat) + (Rat.divInt (1) (1))) 11) := rb_le (rb_add B17.out B19.out) (by omega)
        refine region_fr (C := [Fq.pair ((a.floor : Int) : Rat).num (((a.floor : Int) : Rat).den : Int), Fq.pair a.num (a.den : Int), Fq.is (.int .i64 (cmpQ ((a.floor : Int) : Rat) a)), Fq.is (.bool true), Fq.is (.bool true), Fq.pair a.num (a.den : Int), Fq.pair ((a.floor : Int) : Rat).num (((a.floor : Int) : Rat).den : Int), Fq.pair (Rat.divInt (1) (1)).num ((Rat.divInt (1) (1)).den : Int), Fq.pair (((a.floor : Int) : Rat) + (Rat.divInt (1) (1))).num ((((a.floor : Int) : Rat) + (Rat.divInt (1) (1))).den : Int), Fq.is (.int .i64 (cmpQ a (((a.floor : Int) : Rat) + (Rat.divInt (1) (1))))), Fq.is (.bool true), Fq.is (.bool true), Fq.is (.bool true), Fq.is (.bool true), Fq.is (.bool true), Fq.is (.bool true)]) (ks := [none, none, none, none, none, none, none]) (new := []) E rfl (by kernel_rfl) rfl rfl (fun hp => ⟨?_, ?_, ?_, ?_, ?_, ?_, ?_, ?_, ?_, ?_, ?_, ?_, ?_, ?_, ?_, ?_, trivial⟩) ?_
        · exact q_loadRat hp (free_of rfl) trivial (List.mem_iff_getElem?.2 ⟨0, rfl⟩) (.inl rfl) rfl (sq_out rfl rfl (fun _ _ => rfl)) (fun us w hl h => h)
        · exact q_loadRat hp (free_of rfl) trivial (List.mem_iff_getElem?.2 ⟨1, rfl⟩) (.inl rfl) rfl (sq_out rfl rfl (fun _ _ => rfl)) (fun us w hl h => h)
        · exact q_call2 (F := (Fq.pair ((a.floor : Int) : Rat).num (((a.floor : Int) : Rat).den : Int)).P) (G := (Fq.pair a.num (a.den : Int)).P) hp (free_of rfl) trivial (enq_Q_Cmp) (sq_in 0 rfl rfl (by simp) rfl (fun v w h => h)) (sq_in 1 rfl rfl (by simp) rfl (fun v w h => h)) (fun v v' w h h' => exCmpQ h h' (rb_le B17.out (by omega)) (rb_le Ba.out (by omega)))
        · exact q_one (F := fun v _ => v = .int .i64 (cmpQ ((a.floor : Int) : Rat) a)) hp (free_of rfl) trivial (sq_in 2 rfl rfl (by simp) rfl (fun v w h => h)) (fun ρ w hc h => ⟨.bool true, by simp [execOp, go_sem, h, hc, TF1.out], rfl⟩)
        · exact q_move hp (free_of rfl) trivial (sq_in 3 rfl rfl (by simp) rfl (fun v w h => h))
        · exact q_loadRat hp (free_of rfl) (gq_some rfl rfl (by simp) rfl (fun v w h => h)) (List.mem_iff_getElem?.2 ⟨1, rfl⟩) (.inl rfl) rfl (sq_out rfl rfl (fun _ _ => rfl)) (fun us w hl h => h)
        · exact q_loadRat hp (free_of rfl) (gq_some rfl rfl (by simp) rfl (fun v w h => h)) (List.mem_iff_getElem?.2 ⟨0, rfl⟩) (.inl rfl) rfl (sq_out rfl rfl (fun _ _ => rfl)) (fun us w hl h => h)
        · exact q_call2 (F := (Fq.is (.int .i64 1)).P) (G := (Fq.is (.int .i64 1)).P) hp (free_of rfl) (gq_some rfl rfl (by simp) rfl (fun v w h => h)) (enq_S_Of) (sq_const (fun _ => rfl)) (sq_const (fun _ => rfl)) (fun v v' w h h' => (by subst h; subst h'; exact exSOf (n := 1) (d := 1) (by decide) (of_lit (by decide)) (of_lit (by decide))))
        · exact q_call2 (F := (Fq.pair ((a.floor : Int) : Rat).num (((a.floor : Int) : Rat).den : Int)).P) (G := (Fq.pair (Rat.divInt (1) (1)).num ((Rat.divInt (1) (1)).den : Int)).P) hp (free_of rfl) (gq_some rfl rfl (by simp) rfl (fun v w h => h)) (enq_Q_Add) (sq_in 6 rfl rfl (by simp) rfl (fun v w h => h)) (sq_in 7 rfl rfl (by simp) rfl (fun v w h => h)) (fun v v' w h h' => exAddQ h h' (rb_le B17.out (by omega)) (rb_le B19.out (by omega)))
        · exact q_call2 (F := (Fq.pair a.num (a.den : Int)).P) (G := (Fq.pair (((a.floor : Int) : Rat) + (Rat.divInt (1) (1))).num ((((a.floor : Int) : Rat) + (Rat.divInt (1) (1))).den : Int)).P) hp (free_of rfl) (gq_some rfl rfl (by simp) rfl (fun v w h => h)) (enq_Q_Cmp) (sq_in 5 rfl rfl (by simp) rfl (fun v w h => h)) (sq_in 8 rfl rfl (by simp) rfl (fun v w h => h)) (fun v v' w h h' => exCmpQ h h' (rb_le Ba.out (by omega)) (rb_le B20.out (by omega)))
        · exact q_one (F := fun v _ => v = .int .i64 (cmpQ a (((a.floor : Int) : Rat) + (Rat.divInt (1) (1))))) hp (free_of rfl) (gq_some rfl rfl (by simp) rfl (fun v w h => h)) (sq_in 9 rfl rfl (by simp) rfl (fun v w h => h)) (fun ρ w hc h => ⟨.bool true, by simp [execOp, go_sem, h, hc, TF2.out], rfl⟩)
        · exact q_two (F := fun v _ => v = .bool true) (G := fun v _ => v = .bool true) hp (free_of rfl) trivial (sq_in 4 rfl rfl (by simp) rfl (fun v w h => h)) (sq_in 10 rfl rfl (by simp) rfl (fun v w h => h)) (fun ρ w hc h h' => ⟨_, by simp [execOp, go_sem, h, h'], rfl⟩)
        · exact q_move hp (free_of rfl) trivial (sq_in 11 rfl rfl (by simp) rfl (fun v w h => h))
        · exact q_move hp (free_of rfl) (gq_some rfl rfl (by simp) rfl (fun v w h => h)) (sq_out rfl rfl (fun _ _ => rfl))
        · exact q_two (F := fun v _ => v = .bool true) (G := fun v _ => v = .bool true) hp (free_of rfl) trivial (sq_in 12 rfl rfl (by simp) rfl (fun v w h => h)) (sq_in 13 rfl rfl (by simp) rfl (fun v w h => h)) (fun ρ w hc h h' => ⟨_, by simp [execOp, go_sem, h, h'], rfl⟩)
        · exact q_assign hp (free_of rfl) trivial (sq_in 14 rfl rfl (by simp) rfl (fun v w h => h))
        intro L vs w21 nb hL hC hn E21
        have e2 : vs 2 = .int .i64 (cmpQ ((a.floor : Int) : Rat) a) := hC 2 (by simp)
        have e3 : vs 3 = .bool true := hC 3 (by simp)
        have e4 : vs 4 = .bool true := hC 4 (by simp)
        have e9 : vs 9 = .int .i64 (cmpQ a (((a.floor : Int) : Rat) + (Rat.divInt (1) (1)))) := hC 9 (by simp)
        have e10 : vs 10 = .bool true := hC 10 (by simp)
        have e11 : vs 11 = .bool true := hC 11 (by simp)
        have e12 : vs 12 = .bool true := hC 12 (by simp)
        have e13 : vs 13 = .bool true := hC 13 (by simp)
        have e14 : vs 14 = .bool true := hC 14 (by simp)
        have e15 : vs 15 = .bool true := hC 15 (by simp)
        have E : Fr w [(b18_3, 4, Fq.pair ((a.floor : Int) : Rat).num (((a.floor : Int) : Rat).den : Int)), (b6_6, 4, Fq.pair a.num (a.den : Int)), (b6_7, 4, Fq.pair b.num (b.den : Int)), (b6_8, 4, Fq.pair c.num (c.den : Int)), (b3, 4, Fq.raw2 n3 a3 k3 c3 xs3 m3 r3 l3 q3 ys3), (b2, 4, Fq.raw2 n2 a2 k2 c2 xs2 m2 r2 l2 q2 ys2), (b1, 4, Fq.raw2 n1 a1 k1 c1 xs1 m1 r1 l1 q1 ys1)] w21 := E21
        rw [lay_all hL]
        simp only [putAll, dstOf, List.length_cons, List.length_nil, Nat.zero_add, Nat.reduceAdd, List.getElem?_toArray, List.getElem?_cons_zero, List.getElem?_cons_succ, Option.bind_some, Act.put, List.setIfInBounds_toArray, List.set_cons_succ, List.set_cons_zero]
        rw [e2, e3, e4, e9, e10, e11, e12, e13, e14, e15]
        generalize vs 0 = u21_0
        generalize vs 1 = u21_1
        generalize vs 5 = u21_5
        generalize vs 6 = u21_6
        generalize vs 7 = u21_7
        generalize vs 8 = u21_8
        clear e2 e3 e4 e9 e10 e11 e12 e13 e14 e15 hC hn E21 hL vs L nb
        clear TF1 TF2
        clear B8 B10 B11 B13 B14 B16 B17 B19 B20 Ba Bb Bc
        go_wp2
        refine bodyPost_ret (v := .bool true) ?_ rfl ⟨rfl, E.below⟩
        simp [results, Try.results4, go_sem]
      · have TP := hidd (mt cmpIqgt.1 hc0)
        clear hc0
        go_upto_region 10 with (fail)
        refine region_fr (C := [Fq.pair c.num (c.den : Int), Fq.is (.int .i64 (cmpI c.num 0)), Fq.is (.bool false), Fq.is (.bool false), Fq.is (undef), Fq.is (undef), Fq.is (undef), Fq.is (undef), Fq.is (undef), Fq.is (undef), Fq.is (undef), Fq.is (undef), Fq.is (undef), Fq.is (.bool false)]) (ks := [none, none, none, none, none, none]) (new := []) E rfl (by kernel_rfl) rfl rfl (fun hp => ⟨?_, ?_, ?_, ?_, ?_, ?_, ?_, ?_, ?_, ?_, ?_, ?_, ?_, ?_, trivial⟩) ?_
        · exact q_loadRat hp (free_of rfl) trivial (List.mem_iff_getElem?.2 ⟨2, rfl⟩) (.inl rfl) rfl (sq_out rfl rfl (fun _ _ => rfl)) (fun us w hl h => h)
        · exact q_call1 (F := (Fq.pair c.num (c.den : Int)).P) hp (free_of rfl) trivial (enq_Q_Sign) (sq_in 0 rfl rfl (by simp) rfl (fun v w h => h)) (fun v w h => exSignQ h)
        · exact q_one (F := fun v _ => v = .int .i64 (cmpI c.num 0)) hp (free_of rfl) trivial (sq_in 1 rfl rfl (by simp) rfl (fun v w h => h)) (fun ρ w hc h => ⟨.bool false, by simp [execOp, go_sem, h, hc, TP.out], rfl⟩)
        · exact q_move hp (free_of rfl) trivial (sq_in 2 rfl rfl (by simp) rfl (fun v w h => h))
        · exact q_skip hp (free_of rfl) rfl (gq_some rfl rfl (by simp) rfl (fun v w h => h)) (fun _ => rfl)
        · exact q_skip hp (free_of rfl) rfl (gq_some rfl rfl (by simp) rfl (fun v w h => h)) (fun _ => rfl)
        · exact q_skip hp (free_of rfl) rfl (gq_some rfl rfl (by simp) rfl (fun v w h => h)) (fun _ => rfl)
        · exact q_skip hp (free_of rfl) rfl (gq_some rfl rfl (by simp) rfl (fun v w h => h)) (fun _ => rfl)
        · exact q_skip hp (free_of rfl) rfl (gq_some rfl rfl (by simp) rfl (fun v w h => h)) (fun _ => rfl)
        · exact q_skip hp (free_of rfl) rfl (gq_some rfl rfl (by simp) rfl (fun v w h => h)) (fun _ => rfl)
        · exact q_skip hp (free_of rfl) rfl (gq_some rfl rfl (by simp) rfl (fun v w h => h)) (fun _ => rfl)
        · exact q_skip hp (free_of rfl) rfl (gq_some rfl rfl (by simp) rfl (fun v w h => h)) (fun _ => rfl)
        · exact q_skip hp (free_of rfl) rfl (gq_some rfl rfl (by simp) rfl (fun v w h => h)) (fun _ => rfl)
        · exact q_two (F := fun v _ => v = .bool false) (G := fun v _ => v = .bool false) hp (free_of rfl) trivial (sq_in 3 rfl rfl (by simp) rfl (fun v w h => h)) (sq_const (fun _ => rfl)) (fun ρ w hc h h' => ⟨_, by simp [execOp, go_sem, h, h'], rfl⟩)
        intro L vs w22 nb hL hC hn E22
        have e1 : vs 1 = .int .i64 (cmpI c.num 0) := hC 1 (by simp)
        have e2 : vs 2 = .bool false := hC 2 (by simp)
        have e3 : vs 3 = .bool false := hC 3 (by simp)
        have e4 : vs 4 = undef := hC 4 (by simp)
        have e5 : vs 5 = undef := hC 5 (by simp)
        have e6 : vs 6 = undef := hC 6 (by simp)
        have e7 : vs 7 = undef := hC 7 (by simp)
        have e8 : vs 8 = undef := hC 8 (by simp)
        have e9 : vs 9 = undef := hC 9 (by simp)
        have e10 : vs 10 = undef := hC 10 (by simp)
        have e11 : vs 11 = undef := hC 11 (by simp)
        have e12 : vs 12 = undef := hC 12 (by simp)
        have e13 : vs 13 = .bool false := hC 13 (by simp)
        have E : Fr w [(b6_6, 4, Fq.pair a.num (a.den : Int)), (b6_7, 4, Fq.pair b.num (b.den : Int)), (b6_8, 4, Fq.pair c.num (c.den : Int)), (b3, 4, Fq.raw2 n3 a3 k3 c3 xs3 m3 r3 l3 q3 ys3), (b2, 4, Fq.raw2 n2 a2 k2 c2 xs2 m2 r2 l2 q2 ys2), (b1, 4, Fq.raw2 n1 a1 k1 c1 xs1 m1 r1 l1 q1 ys1)] w22 := E22
        rw [lay_all hL]
        simp only [putAll, dstOf, List.length_cons, List.length_nil, Nat.zero_add, Nat.reduceAdd, List.getElem?_toArray, List.getElem?_cons_zero, List.getElem?_cons_succ, Option.bind_some, Act.put, List.setIfInBounds_toArray, List.set_cons_succ, List.set_cons_zero]
        rw [e1, e2, e3, e4, e5, e6, e7, e8, e9, e10, e11, e12, e13]
        generalize vs 0 = u22_0
        clear e1 e2 e3 e4 e5 e6 e7 e8 e9 e10 e11 e12 e13 hC hn E22 hL vs L nb
        clear TP
        have TF1 := hidd (cmpQ_le.2 (Rat.floor_le a))
        have TF2 := hidd (cmpQ_lt.2 (floor_next a))
        go_upto_region 12 with (fail)
        have B23 : Hid (ab (a.floor) < pw 7) := Int.lt_of_lt_of_le (rb_floor Ba.out) (pw_le (by omega))
        have B24 : Hid (Rb ((a.floor : Int) : Rat) 7) := rb_int B23.out (by omega)
        refine region_fr (C := [Fq.pair a.num (a.den : Int), Fq.num a.floor, Fq.pair ((a.floor : Int) : Rat).num (((a.floor : Int) : Rat).den : Int), Fq.any, Fq.any]) (ks := [none, none, none, none, none, none]) (new := [⟨3, 4, 4, Fq.pair 0 0, Fq.pair ((a.floor : Int) : Rat).num (((a.floor : Int) : Rat).den : Int)⟩]) E rfl (by kernel_rfl) rfl rfl (fun hp => ⟨?_, ?_, ?_, ?_, ?_, trivial⟩) ?_
        · exact q_loadRat hp (free_of rfl) trivial (List.mem_iff_getElem?.2 ⟨0, rfl⟩) (.inl rfl) rfl (sq_out rfl rfl (fun _ _ => rfl)) (fun us w hl h => h)
        · exact q_call1 (F := (Fq.pair a.num (a.den : Int)).P) hp (free_of rfl) trivial (enq_Q_Floor) (sq_in 0 rfl rfl (by simp) rfl (fun v w h => h)) (fun v w h => exFloorQ h (rb_le Ba.out (by omega)))
        · exact q_call1 (F := (Fq.num a.floor).P) hp (free_of rfl) trivial (enq_S_Whole) (sq_in 1 rfl rfl (by simp) rfl (fun v w h => h)) (fun v w h => exSWhole h (Int.lt_of_lt_of_le B23.out (pw_le (by omega))))
        · exact q_allocRat hp (List.mem_iff_getElem?.2 ⟨0, rfl⟩) rfl rfl rfl (Nat.ne_of_beq_eq_false rfl) (fun _ _ => trivial) (old_ne rfl) (newk_ne rfl) (fun w => Pair.zero w)
        · exact q_storeNewRat hp (List.mem_iff_getElem?.2 ⟨0, rfl⟩) rfl rfl (own_ptr rfl rfl (by simp) rfl) (sq_in 2 rfl rfl (by simp) rfl (fun v w h => ratV_pair h)) (fun _ _ => trivial) (old_ne rfl) (newi_ne rfl)
        intro L vs w25 nb hL hC hn E25
        have e3 : vs 3 = .pointer (some ⟨nb 3, 0, none⟩) := hn _ (List.mem_iff_getElem?.2 ⟨0, rfl⟩)
        have E : Fr w [(nb 3, 4, Fq.pair ((a.floor : Int) : Rat).num (((a.floor : Int) : Rat).den : Int)), (b6_6, 4, Fq.pair a.num (a.den : Int)), (b6_7, 4, Fq.pair b.num (b.den : Int)), (b6_8, 4, Fq.pair c.num (c.den : Int)), (b3, 4, Fq.raw2 n3 a3 k3 c3 xs3 m3 r3 l3 q3 ys3), (b2, 4, Fq.raw2 n2 a2 k2 c2 xs2 m2 r2 l2 q2 ys2), (b1, 4, Fq.raw2 n1 a1 k1 c1 xs1 m1 r1 l1 q1 ys1)] w25 := E25
        rw [lay_all hL]
        simp only [putAll, dstOf, List.length_cons, List.length_nil, Nat.zero_add, Nat.reduceAdd, List.getElem?_toArray, List.getElem?_cons_zero, List.getElem?_cons_succ, Option.bind_some, Act.put, List.setIfInBounds_toArray, List.set_cons_succ, List.set_cons_zero]
        rw [e3]
        generalize nb 3 = b25_3 at E ⊢
        generalize vs 0 = u25_0
        generalize vs 1 = u25_1
        generalize vs 2 = u25_2
        clear e3 hC hn E25 hL vs L nb
        go_upto_region 13 with (fail)
        have B26 : Hid (Rb (Rat.divInt (1) (1)) 3) := rb_lit (by decide) (by decide) (by decide)
        have B27 : Hid (Rb (((a.floor : Int) : Rat) + (Rat.divInt (1) (1))) 11) := rb_le (rb_add B24.out B26.out) (by omega)
        refine region_fr (C := [Fq.pair ((a.floor : Int) : Rat).num (((a.floor : Int) : Rat).den : Int), Fq.pair a.num (a.den : Int), Fq.is (.int .i64 (cmpQ ((a.floor : Int) : Rat) a)), Fq.is (.bool true), Fq.is (.bool true), Fq.pair a.num (a.den : Int), Fq.pair ((a.floor : Int) : Rat).num (((a.floor : Int) : Rat).den : Int), Fq.pair (Rat.divInt (1) (1)).num ((Rat.divInt (1) (1)).den : Int), Fq.pair (((a.floor : Int) : Rat) + (Rat.divInt (1) (1))).num ((((a.floor : Int) : Rat) + (Rat.divInt (1) (1))).den : Int), Fq.is (.int .i64 (cmpQ a (((a.floor : Int) : Rat) + (Rat.divInt (1) (1))))), Fq.is (.bool true), Fq.is (.bool true), Fq.is (.bool true), Fq.is (.bool true), Fq.is (.bool true), Fq.is (.bool true)]) (ks := [none, none, none, none, none, none, none]) (new := []) E rfl (by kernel_rfl) rfl rfl (fun hp => ⟨?_, ?_, ?_, ?_, ?_, ?_, ?_, ?_, ?_, ?_, ?_, ?_, ?_, ?_, ?_, ?_, trivial⟩) ?_
        · exact q_loadRat hp (free_of rfl) trivial (List.mem_iff_getElem?.2 ⟨0, rfl⟩) (.inl rfl) rfl (sq_out rfl rfl (fun _ _ => rfl)) (fun us w hl h => h)
        · exact q_loadRat hp (free_of rfl) trivial (List.mem_iff_getElem?.2 ⟨1, rfl⟩) (.inl rfl) rfl (sq_out rfl rfl (fun _ _ => rfl)) (fun us w hl h => h)
        · exact q_call2 (F := (Fq.pair ((a.floor : Int) : Rat).num (((a.floor : Int) : Rat).den : Int)).P) (G := (Fq.pair a.num (a.den : Int)).P) hp (free_of rfl) trivial (enq_Q_Cmp) (sq_in 0 rfl rfl (by simp) rfl (fun v w h => h)) (sq_in 1 rfl rfl (by simp) rfl (fun v w h => h)) (fun v v' w h h' => exCmpQ h h' (rb_le B24.out (by omega)) (rb_le Ba.out (by omega)))
        · exact q_one (F := fun v _ => v = .int .i64 (cmpQ ((a.floor : Int) : Rat) a)) hp (free_of rfl) trivial (sq_in 2 rfl rfl (by simp) rfl (fun v w h => h)) (fun ρ w hc h => ⟨.bool true, by simp [execOp, go_sem, h, hc, TF1.out], rfl⟩)
        · exact q_move hp (free_of rfl) trivial (sq_in 3 rfl rfl (by simp) rfl (fun v w h => h))
        · exact q_loadRat hp (free_of rfl) (gq_some rfl rfl (by simp) rfl (fun v w h => h)) (List.mem_iff_getElem?.2 ⟨1, rfl⟩) (.inl rfl) rfl (sq_out rfl rfl (fun _ _ => rfl)) (fun us w hl h => h)
        · exact q_loadRat hp (free_of rfl) (gq_some rfl rfl (by simp) rfl (fun v w h => h)) (List.mem_iff_getElem?.2 ⟨0, rfl⟩) (.inl rfl) rfl (sq_out rfl rfl (fun _ _ => rfl)) (fun us w hl h => h)
        · exact q_call2 (F := (Fq.is (.int .i64 1)).P) (G := (Fq.is (.int .i64 1)).P) hp (free_of rfl) (gq_some rfl rfl (by simp) rfl (fun v w h => h)) (enq_S_Of) (sq_const (fun _ => rfl)) (sq_const (fun _ => rfl)) (fun v v' w h h' => (by subst h; subst h'; exact exSOf (n := 1) (d := 1) (by decide) (of_lit (by decide)) (of_lit (by decide))))
        · exact q_call2 (F := (Fq.pair ((a.floor : Int) : Rat).num (((a.floor : Int) : Rat).den : Int)).P) (G := (Fq.pair (Rat.divInt (1) (1)).num ((Rat.divInt (1) (1)).den : Int)).P) hp (free_of rfl) (gq_some rfl rfl (by simp) rfl (fun v w h => h)) (enq_Q_Add) (sq_in 6 rfl rfl (by simp) rfl (fun v w h => h)) (sq_in 7 rfl rfl (by simp) rfl (fun v w h => h)) (fun v v' w h h' => exAddQ h h' (rb_le B24.out (by omega)) (rb_le B26.out (by omega)))
        · exact q_call2 (F := (Fq.pair a.num (a.den : Int)).P) (G := (Fq.pair (((a.floor : Int) : Rat) + (Rat.divInt (1) (1))).num ((((a.floor : Int) : Rat) + (Rat.divInt (1) (1))).den : Int)).P) hp (free_of rfl) (gq_some rfl rfl (by simp) rfl (fun v w h => h)) (enq_Q_Cmp) (sq_in 5 rfl rfl (by simp) rfl (fun v w h => h)) (sq_in 8 rfl rfl (by simp) rfl (fun v w h => h)) (fun v v' w h h' => exCmpQ h h' (rb_le Ba.out (by omega)) (rb_le B27.out (by omega)))
        · exact q_one (F := fun v _ => v = .int .i64 (cmpQ a (((a.floor : Int) : Rat) + (Rat.divInt (1) (1))))) hp (free_of rfl) (gq_some rfl rfl (by simp) rfl (fun v w h => h)) (sq_in 9 rfl rfl (by simp) rfl (fun v w h => h)) (fun ρ w hc h => ⟨.bool true, by simp [execOp, go_sem, h, hc, TF2.out], rfl⟩)
        · exact q_two (F := fun v _ => v = .bool true) (G := fun v _ => v = .bool true) hp (free_of rfl) trivial (sq_in 4 rfl rfl (by simp) rfl (fun v w h => h)) (sq_in 10 rfl rfl (by simp) rfl (fun v w h => h)) (fun ρ w hc h h' => ⟨_, by simp [execOp, go_sem, h, h'], rfl⟩)
        · exact q_move hp (free_of rfl) trivial (sq_in 11 rfl rfl (by simp) rfl (fun v w h => h))
        · exact q_move hp (free_of rfl) (gq_some rfl rfl (by simp) rfl (fun v w h => h)) (sq_out rfl rfl (fun _ _ => rfl))
        · exact q_two (F := fun v _ => v = .bool true) (G := fun v _ => v = .bool true) hp (free_of rfl) trivial (sq_in 12 rfl rfl (by simp) rfl (fun v w h => h)) (sq_in 13 rfl rfl (by simp) rfl (fun v w h => h)) (fun ρ w hc h h' => ⟨_, by simp [execOp, go_sem, h, h'], rfl⟩)
        · exact q_assign hp (free_of rfl) trivial (sq_in 14 rfl rfl (by simp) rfl (fun v w h => h))
        intro L vs w28 nb hL hC hn E28
        have e2 : vs 2 = .int .i64 (cmpQ ((a.floor : Int) : Rat) a) := hC 2 (by simp)
        have e3 : vs 3 = .bool true := hC 3 (by simp)
        have e4 : vs 4 = .bool true := hC 4 (by simp)
        have e9 : vs 9 = .int .i64 (cmpQ a (((a.floor : Int) : Rat) + (Rat.divInt (1) (1)))) := hC 9 (by simp)
        have e10 : vs 10 = .bool true := hC 10 (by simp)
        have e11 : vs 11 = .bool true := hC 11 (by simp)
        have e12 : vs 12 = .bool true := hC 12 (by simp)
        have e13 : vs 13 = .bool true := hC 13 (by simp)
        have e14 : vs 14 = .bool true := hC 14 (by simp)
        have e15 : vs 15 = .bool true := hC 15 (by simp)
        have E : Fr w [(b25_3, 4, Fq.pair ((a.floor : Int) : Rat).num (((a.floor : Int) : Rat).den : Int)), (b6_6, 4, Fq.pair a.num (a.den : Int)), (b6_7, 4, Fq.pair b.num (b.den : Int)), (b6_8, 4, Fq.pair c.num (c.den : Int)), (b3, 4, Fq.raw2 n3 a3 k3 c3 xs3 m3 r3 l3 q3 ys3), (b2, 4, Fq.raw2 n2 a2 k2 c2 xs2 m2 r2 l2 q2 ys2), (b1, 4, Fq.raw2 n1 a1 k1 c1 xs1 m1 r1 l1 q1 ys1)] w28 := E28
        rw [lay_all hL]
        simp only [putAll, dstOf, List.length_cons, List.length_nil, Nat.zero_add, Nat.reduceAdd, List.getElem?_toArray, List.getElem?_cons_zero, List.getElem?_cons_succ, Option.bind_some, Act.put, List.setIfInBounds_toArray, List.set_cons_succ, List.set_cons_zero]
        rw [e2, e3, e4, e9, e10, e11, e12, e13, e14, e15]
        generalize vs 0 = u28_0
        generalize vs 1 = u28_1
        generalize vs 5 = u28_5
        generalize vs 6 = u28_6
        generalize vs 7 = u28_7
        generalize vs 8 = u28_8
        clear e2 e3 e4 e9 e10 e11 e12 e13 e14 e15 hC hn E28 hL vs L nb
        clear TF1 TF2
        clear B8 B10 B11 B23 B24 B26 B27 Ba Bb Bc
        go_wp2
        refine bodyPost_ret (v := .bool true) ?_ rfl ⟨rfl, E.below⟩
        simp [results, Try.results4, go_sem]
    · have T1 := hidd hab
      have T2 := hidd hbc
      clear hab hbc
      go_upto_region 8 with (fail)
      have B29 : Hid (Rb (a + c) 13) := rb_le (rb_add Ba.out Bc.out) (by omega)
      have B30 : Hid (Rb (b + c) 13) := rb_le (rb_add Bb.out Bc.out) (by omega)
      refine region_fr (C := [Fq.is (.int .i64 (cmpQ a b)), Fq.is (.bool true), Fq.is (.bool true), Fq.pair b.num (b.den : Int), Fq.pair c.num (c.den : Int), Fq.is (.int .i64 (cmpQ b c)), Fq.is (.bool false), Fq.is (.bool false), Fq.is (.bool false), Fq.is (undef), Fq.is (undef), Fq.is (undef), Fq.is (undef), Fq.is (.bool false), Fq.is (.bool false), Fq.pair a.num (a.den : Int), Fq.pair c.num (c.den : Int), Fq.pair (a + c).num ((a + c).den : Int), Fq.pair b.num (b.den : Int), Fq.pair c.num (c.den : Int), Fq.pair (b + c).num ((b + c).den : Int), Fq.is (.int .i64 (cmpQ (a + c) (b + c))), Fq.is (.int .i64 (cmpQ a b)), Fq.is (.bool false), Fq.is (.bool false)]) (ks := [none, none, none, none, none, none]) (new := []) E rfl (by kernel_rfl) rfl rfl (fun hp => ⟨?_, ?_, ?_, ?_, ?_, ?_, ?_, ?_, ?_, ?_, ?_, ?_, ?_, ?_, ?_, ?_, ?_, ?_, ?_, ?_, ?_, ?_, ?_, ?_, ?_, trivial⟩) ?_
      · exact q_move hp (free_of rfl) trivial (sq_out rfl rfl (fun _ _ => rfl))
      · exact q_one (F := fun v _ => v = .int .i64 (cmpQ a b)) hp (free_of rfl) trivial (sq_in 0 rfl rfl (by simp) rfl (fun v w h => h)) (fun ρ w hc h => ⟨.bool true, by simp [execOp, go_sem, h, hc, T1.out], rfl⟩)
      · exact q_move hp (free_of rfl) trivial (sq_in 1 rfl rfl (by simp) rfl (fun v w h => h))
      · exact q_loadRat hp (free_of rfl) (gq_some rfl rfl (by simp) rfl (fun v w h => h)) (List.mem_iff_getElem?.2 ⟨1, rfl⟩) (.inl rfl) rfl (sq_out rfl rfl (fun _ _ => rfl)) (fun us w hl h => h)
      · exact q_loadRat hp (free_of rfl) (gq_some rfl rfl (by simp) rfl (fun v w h => h)) (List.mem_iff_getElem?.2 ⟨2, rfl⟩) (.inl rfl) rfl (sq_out rfl rfl (fun _ _ => rfl)) (fun us w hl h => h)
      · exact q_call2 (F := (Fq.pair b.num (b.den : Int)).P) (G := (Fq.pair c.num (c.den : Int)).P) hp (free_of rfl) (gq_some rfl rfl (by simp) rfl (fun v w h => h)) (enq_Q_Cmp) (sq_in 3 rfl rfl (by simp) rfl (fun v w h => h)) (sq_in 4 rfl rfl (by simp) rfl (fun v w h => h)) (fun v v' w h h' => exCmpQ h h' (rb_le Bb.out (by omega)) (rb_le Bc.out (by omega)))
      · exact q_one (F := fun v _ => v = .int .i64 (cmpQ b c)) hp (free_of rfl) (gq_some rfl rfl (by simp) rfl (fun v w h => h)) (sq_in 5 rfl rfl (by simp) rfl (fun v w h => h)) (fun ρ w hc h => ⟨.bool false, by simp [execOp, go_sem, h, hc, T2.out], rfl⟩)
      · exact q_two (F := fun v _ => v = .bool true) (G := fun v _ => v = .bool false) hp (free_of rfl) trivial (sq_in 2 rfl rfl (by simp) rfl (fun v w h => h)) (sq_in 6 rfl rfl (by simp) rfl (fun v w h => h)) (fun ρ w hc h h' => ⟨_, by simp [execOp, go_sem, h, h'], rfl⟩)
      · exact q_move hp (free_of rfl) trivial (sq_in 7 rfl rfl (by simp) rfl (fun v w h => h))
      · exact q_skip hp (free_of rfl) rfl (gq_some rfl rfl (by simp) rfl (fun v w h => h)) (fun _ => rfl)
      · exact q_skip hp (free_of rfl) rfl (gq_some rfl rfl (by simp) rfl (fun v w h => h)) (fun _ => rfl)
      · exact q_skip hp (free_of rfl) rfl (gq_some rfl rfl (by simp) rfl (fun v w h => h)) (fun _ => rfl)
      · exact q_skip hp (free_of rfl) rfl (gq_some rfl rfl (by simp) rfl (fun v w h => h)) (fun _ => rfl)
      · exact q_two (F := fun v _ => v = .bool false) (G := fun v _ => v = .bool false) hp (free_of rfl) trivial (sq_in 8 rfl rfl (by simp) rfl (fun v w h => h)) (sq_const (fun _ => rfl)) (fun ρ w hc h h' => ⟨_, by simp [execOp, go_sem, h, h'], rfl⟩)
      · exact q_move hp (free_of rfl) trivial (sq_in 13 rfl rfl (by simp) rfl (fun v w h => h))
      · exact q_loadRat hp (free_of rfl) (gq_some rfl rfl (by simp) rfl (fun v w h => h)) (List.mem_iff_getElem?.2 ⟨0, rfl⟩) (.inl rfl) rfl (sq_out rfl rfl (fun _ _ => rfl)) (fun us w hl h => h)
      · exact q_loadRat hp (free_of rfl) (gq_some rfl rfl (by simp) rfl (fun v w h => h)) (List.mem_iff_getElem?.2 ⟨2, rfl⟩) (.inl rfl) rfl (sq_out rfl rfl (fun _ _ => rfl)) (fun us w hl h => h)
      · exact q_call2 (F := (Fq.pair a.num (a.den : Int)).P) (G := (Fq.pair c.num (c.den : Int)).P) hp (free_of rfl) (gq_some rfl rfl (by simp) rfl (fun v w h => h)) (enq_Q_Add) (sq_in 15 rfl rfl (by simp) rfl (fun v w h => h)) (sq_in 16 rfl rfl (by simp) rfl (fun v w h => h)) (fun v v' w h h' => exAddQ h h' (rb_le Ba.out (by omega)) (rb_le Bc.out (by omega)))
      · exact q_loadRat hp (free_of rfl) (gq_some rfl rfl (by simp) rfl (fun v w h => h)) (List.mem_iff_getElem?.2 ⟨1, rfl⟩) (.inl rfl) rfl (sq_out rfl rfl (fun _ _ => rfl)) (fun us w hl h => h)
      · exact q_loadRat hp (free_of rfl) (gq_some rfl rfl (by simp) rfl (fun v w h => h)) (List.mem_iff_getElem?.2 ⟨2, rfl⟩) (.inl rfl) rfl (sq_out rfl rfl (fun _ _ => rfl)) (fun us w hl h => h)
      · exact q_call2 (F := (Fq.pair b.num (b.den : Int)).P) (G := (Fq.pair c.num (c.den : Int)).P) hp (free_of rfl) (gq_some rfl rfl (by simp) rfl (fun v w h => h)) (enq_Q_Add) (sq_in 18 rfl rfl (by simp) rfl (fun v w h => h)) (sq_in 19 rfl rfl (by simp) rfl (fun v w h => h)) (fun v v' w h h' => exAddQ h h' (rb_le Bb.out (by omega)) (rb_le Bc.out (by omega)))
      · exact q_call2 (F := (Fq.pair (a + c).num ((a + c).den : Int)).P) (G := (Fq.pair (b + c).num ((b + c).den : Int)).P) hp (free_of rfl) (gq_some rfl rfl (by simp) rfl (fun v w h => h)) (enq_Q_Cmp) (sq_in 17 rfl rfl (by simp) rfl (fun v w h => h)) (sq_in 20 rfl rfl (by simp) rfl (fun v w h => h)) (fun v v' w h h' => exCmpQ h h' (rb_le B29.out (by omega)) (rb_le B30.out (by omega)))
      · exact q_move hp (free_of rfl) (gq_some rfl rfl (by simp) rfl (fun v w h => h)) (sq_out rfl rfl (fun _ _ => rfl))
      · exact q_two (F := fun v _ => v = .int .i64 (cmpQ (a + c) (b + c))) (G := fun v _ => v = .int .i64 (cmpQ a b)) hp (free_of rfl) (gq_some rfl rfl (by simp) rfl (fun v w h => h)) (sq_in 21 rfl rfl (by simp) rfl (fun v w h => h)) (sq_in 22 rfl rfl (by simp) rfl (fun v w h => h)) (fun ρ w hc h h' => ⟨.bool false, by simp [execOp, go_sem, h, h', TA.out], rfl⟩)
      · exact q_two (F := fun v _ => v = .bool false) (G := fun v _ => v = .bool false) hp (free_of rfl) trivial (sq_in 14 rfl rfl (by simp) rfl (fun v w h => h)) (sq_in 23 rfl rfl (by simp) rfl (fun v w h => h)) (fun ρ w hc h h' => ⟨_, by simp [execOp, go_sem, h, h'], rfl⟩)
      intro L vs w31 nb hL hC hn E31
      have e0 : vs 0 = .int .i64 (cmpQ a b) := hC 0 (by simp)
      have e1 : vs 1 = .bool true := hC 1 (by simp)
      have e2 : vs 2 = .bool true := hC 2 (by simp)
      have e5 : vs 5 = .int .i64 (cmpQ b c) := hC 5 (by simp)
      have e6 : vs 6 = .bool false := hC 6 (by simp)
      have e7 : vs 7 = .bool false := hC 7 (by simp)
      have e8 : vs 8 = .bool false := hC 8 (by simp)
      have e9 : vs 9 = undef := hC 9 (by simp)
      have e10 : vs 10 = undef := hC 10 (by simp)
      have e11 : vs 11 = undef := hC 11 (by simp)
      have e12 : vs 12 = undef := hC 12 (by simp)
      have e13 : vs 13 = .bool false := hC 13 (by simp)
      have e14 : vs 14 = .bool false := hC 14 (by simp)
      have e21 : vs 21 = .int .i64 (cmpQ (a + c) (b + c)) := hC 21 (by simp)
      have e22 : vs 22 = .int .i64 (cmpQ a b) := hC 22 (by simp)
      have e23 : vs 23 = .bool false := hC 23 (by simp)
      have e24 : vs 24 = .bool false := hC 24 (by simp)
      have E : Fr w [(b6_6, 4, Fq.pair a.num (a.den : Int)), (b6_7, 4, Fq.pair b.num (b.den : Int)), (b6_8, 4, Fq.pair c.num (c.den : Int)), (b3, 4, Fq.raw2 n3 a3 k3 c3 xs3 m3 r3 l3 q3 ys3), (b2, 4, Fq.raw2 n2 a2 k2 c2 xs2 m2 r2 l2 q2 ys2), (b1, 4, Fq.raw2 n1 a1 k1 c1 xs1 m1 r1 l1 q1 ys1)] w31 := E31
      rw [lay_all hL]
      simp only [putAll, dstOf, List.length_cons, List.length_nil, Nat.zero_add, Nat.reduceAdd, List.getElem?_toArray, List.getElem?_cons_zero, List.getElem?_cons_succ, Option.bind_some, Act.put, List.setIfInBounds_toArray, List.set_cons_succ, List.set_cons_zero]
      rw [e0, e1, e2, e5, e6, e7, e8, e9, e10, e11, e12, e13, e14, e21, e22, e23, e24]
      generalize vs 3 = u31_3
      generalize vs 4 = u31_4
      generalize vs 15 = u31_15
      generalize vs 16 = u31_16
      generalize vs 17 = u31_17
      generalize vs 18 = u31_18
      generalize vs 19 = u31_19
      generalize vs 20 = u31_20
      clear e0 e1 e2 e5 e6 e7 e8 e9 e10 e11 e12 e13 e14 e21 e22 e23 e24 hC hn E31 hL vs L nb
      clear T1 T2 TA
      by_cases hc0 : 0 < c.num
      · have TP := hidd (cmpIqgt.2 hc0)
        have TM := hidd (cmpQ_mul (a := a) (b := b) (num_pos hc0))
        clear hc0
        go_upto_region 10 with (fail)
        have B32 : Hid (Rb (a * c) 12) := rb_le (rb_mul Ba.out Bc.out) (by omega)
        have B33 : Hid (Rb (b * c) 12) := rb_le (rb_mul Bb.out Bc.out) (by omega)
        refine region_fr (C := [Fq.pair c.num (c.den : Int), Fq.is (.int .i64 (cmpI c.num 0)), Fq.is (.bool true), Fq.is (.bool true), Fq.pair a.num (a.den : Int), Fq.pair c.num (c.den : Int), Fq.pair (a * c).num ((a * c).den : Int), Fq.pair b.num (b.den : Int), Fq.pair c.num (c.den : Int), Fq.pair (b * c).num ((b * c).den : Int), Fq.is (.int .i64 (cmpQ (a * c) (b * c))), Fq.is (.int .i64 (cmpQ a b)), Fq.is (.bool false), Fq.is (.bool false)]) (ks := [none, none, none, none, none, none]) (new := []) E rfl (by kernel_rfl) rfl rfl (fun hp => ⟨?_, ?_, ?_, ?_, ?_, ?_, ?_, ?_, ?_, ?_, ?_, ?_, ?_, ?_, trivial⟩) ?_
        · exact q_loadRat hp (free_of rfl) trivial (List.mem_iff_getElem?.2 ⟨2, rfl⟩) (.inl rfl) rfl (sq_out rfl rfl (fun _ _ => rfl)) (fun us w hl h => h)
        · exact q_call1 (F := (Fq.pair c.num (c.den : Int)).P) hp (free_of rfl) trivial (enq_Q_Sign) (sq_in 0 rfl rfl (by simp) rfl (fun v w h => h)) (fun v w h => exSignQ h)
        · exact q_one (F := fun v _ => v = .int .i64 (cmpI c.num 0)) hp (free_of rfl) trivial (sq_in 1 rfl rfl (by simp) rfl (fun v w h => h)) (fun ρ w hc h => ⟨.bool true, by simp [execOp, go_sem, h, hc, TP.out], rfl⟩)
        · exact q_move hp (free_of rfl) trivial (sq_in 2 rfl rfl (by simp) rfl (fun v w h => h))
        · exact q_loadRat hp (free_of rfl) (gq_some rfl rfl (by simp) rfl (fun v w h => h)) (List.mem_iff_getElem?.2 ⟨0, rfl⟩) (.inl rfl) rfl (sq_out rfl rfl (fun _ _ => rfl)) (fun us w hl h => h)
        · exact q_loadRat hp (free_of rfl) (gq_some rfl rfl (by simp) rfl (fun v w h => h)) (List.mem_iff_getElem?.2 ⟨2, rfl⟩) (.inl rfl) rfl (sq_out rfl rfl (fun _ _ => rfl)) (fun us w hl h => h)
        · exact q_call2 (F := (Fq.pair a.num (a.den : Int)).P) (G := (Fq.pair c.num (c.den : Int)).P) hp (free_of rfl) (gq_some rfl rfl (by simp) rfl (fun v w h => h)) (enq_Q_Mul) (sq_in 4 rfl rfl (by simp) rfl (fun v w h => h)) (sq_in 5 rfl rfl (by simp) rfl (fun v w h => h)) (fun v v' w h h' => exMulQ h h' (rb_le Ba.out (by omega)) (rb_le Bc.out (by omega)))
        · exact q_loadRat hp (free_of rfl) (gq_some rfl rfl (by simp) rfl (fun v w h => h)) (List.mem_iff_getElem?.2 ⟨1, rfl⟩) (.inl rfl) rfl (sq_out rfl rfl (fun _ _ => rfl)) (fun us w hl h => h)
        · exact q_loadRat hp (free_of rfl) (gq_some rfl rfl (by simp) rfl (fun v w h => h)) (List.mem_iff_getElem?.2 ⟨2, rfl⟩) (.inl rfl) rfl (sq_out rfl rfl (fun _ _ => rfl)) (fun us w hl h => h)
        · exact q_call2 (F := (Fq.pair b.num (b.den : Int)).P) (G := (Fq.pair c.num (c.den : Int)).P) hp (free_of rfl) (gq_some rfl rfl (by simp) rfl (fun v w h => h)) (enq_Q_Mul) (sq_in 7 rfl rfl (by simp) rfl (fun v w h => h)) (sq_in 8 rfl rfl (by simp) rfl (fun v w h => h)) (fun v v' w h h' => exMulQ h h' (rb_le Bb.out (by omega)) (rb_le Bc.out (by omega)))
        · exact q_call2 (F := (Fq.pair (a * c).num ((a * c).den : Int)).P) (G := (Fq.pair (b * c).num ((b * c).den : Int)).P) hp (free_of rfl) (gq_some rfl rfl (by simp) rfl (fun v w h => h)) (enq_Q_Cmp) (sq_in 6 rfl rfl (by simp) rfl (fun v w h => h)) (sq_in 9 rfl rfl (by simp) rfl (fun v w h => h)) (fun v v' w h h' => exCmpQ h h' (rb_le B32.out (by omega)) (rb_le B33.out (by omega)))
        · exact q_move hp (free_of rfl) (gq_some rfl rfl (by simp) rfl (fun v w h => h)) (sq_out rfl rfl (fun _ _ => rfl))
        · exact q_two (F := fun v _ => v = .int .i64 (cmpQ (a * c) (b * c))) (G := fun v _ => v = .int .i64 (cmpQ a b)) hp (free_of rfl) (gq_some rfl rfl (by simp) rfl (fun v w h => h)) (sq_in 10 rfl rfl (by simp) rfl (fun v w h => h)) (sq_in 11 rfl rfl (by simp) rfl (fun v w h => h)) (fun ρ w hc h h' => ⟨.bool false, by simp [execOp, go_sem, h, h', TM.out], rfl⟩)
        · exact q_two (F := fun v _ => v = .bool true) (G := fun v _ => v = .bool false) hp (free_of rfl) trivial (sq_in 3 rfl rfl (by simp) rfl (fun v w h => h)) (sq_in 12 rfl rfl (by simp) rfl (fun v w h => h)) (fun ρ w hc h h' => ⟨_, by simp [execOp, go_sem, h, h'], rfl⟩)
        intro L vs w34 nb hL hC hn E34
        have e1 : vs 1 = .int .i64 (cmpI c.num 0) := hC 1 (by simp)
        have e2 : vs 2 = .bool true := hC 2 (by simp)
        have e3 : vs 3 = .bool true := hC 3 (by simp)
        have e10 : vs 10 = .int .i64 (cmpQ (a * c) (b * c)) := hC 10 (by simp)
        have e11 : vs 11 = .int .i64 (cmpQ a b) := hC 11 (by simp)
        have e12 : vs 12 = .bool false := hC 12 (by simp)
        have e13 : vs 13 = .bool false := hC 13 (by simp)
        have E : Fr w [(b6_6, 4, Fq.pair a.num (a.den : Int)), (b6_7, 4, Fq.pair b.num (b.den : Int)), (b6_8, 4, Fq.pair c.num (c.den : Int)), (b3, 4, Fq.raw2 n3 a3 k3 c3 xs3 m3 r3 l3 q3 ys3), (b2, 4, Fq.raw2 n2 a2 k2 c2 xs2 m2 r2 l2 q2 ys2), (b1, 4, Fq.raw2 n1 a1 k1 c1 xs1 m1 r1 l1 q1 ys1)] w34 := E34
        rw [lay_all hL]
        simp only [putAll, dstOf, List.length_cons, List.length_nil, Nat.zero_add, Nat.reduceAdd, List.getElem?_toArray, List.getElem?_cons_zero, List.getElem?_cons_succ, Option.bind_some, Act.put, List.setIfInBounds_toArray, List.set_cons_succ, List.set_cons_zero]
        rw [e1, e2, e3, e10, e11, e12, e13]
        generalize vs 0 = u34_0
        generalize vs 4 = u34_4
        generalize vs 5 = u34_5
        generalize vs 6 = u34_6
        generalize vs 7 = u34_7
        generalize vs 8 = u34_8
        generalize vs 9 = u34_9
        clear e1 e2 e3 e10 e11 e12 e13 hC hn E34 hL vs L nb
        clear TP TM
        have TF1 := hidd (cmpQ_le.2 (Rat.floor_le a))
        have TF2 := hidd (cmpQ_lt.2 (floor_next a))
        go_upto_region 12 with (fail)
        have B35 : Hid (ab (a.floor) < pw 7) := Int.lt_of_lt_of_le (rb_floor Ba.out) (pw_le (by omega))
        have B36 : Hid (Rb ((a.floor : Int) : Rat) 7) := rb_int B35.out (by omega)
        refine region_fr (C := [Fq.pair a.num (a.den : Int), Fq.num a.floor, Fq.pair ((a.floor : Int) : Rat).num (((a.floor : Int) : Rat).den : Int), Fq.any, Fq.any]) (ks := [none, none, none, none, none, none]) (new := [⟨3, 4, 4, Fq.pair 0 0, Fq.pair ((a.floor : Int) : Rat).num (((a.floor : Int) : Rat).den : Int)⟩]) E rfl (by kernel_rfl) rfl rfl (fun hp => ⟨?_, ?_, ?_, ?_, ?_, trivial⟩) ?_
        · exact q_loadRat hp (free_of rfl) trivial (List.mem_iff_getElem?.2 ⟨0, rfl⟩) (.inl rfl) rfl (sq_out rfl rfl (fun _ _ => rfl)) (fun us w hl h => h)
        · exact q_call1 (F := (Fq.pair a.num (a.den : Int)).P) hp (free_of rfl) trivial (enq_Q_Floor) (sq_in 0 rfl rfl (by simp) rfl (fun v w h => h)) (fun v w h => exFloorQ h (rb_le Ba.out (by omega)))
        · exact q_call1 (F := (Fq.num a.floor).P) hp (free_of rfl) trivial (enq_S_Whole) (sq_in 1 rfl rfl (by simp) rfl (fun v w h => h)) (fun v w h => exSWhole h (Int.lt_of_lt_of_le B35.out (pw_le (by omega))))
        · exact q_allocRat hp (List.mem_iff_getElem?.2 ⟨0, rfl⟩) rfl rfl rfl (Nat.ne_of_beq_eq_false rfl) (fun _ _ => trivial) (old_ne rfl) (newk_ne rfl) (fun w => Pair.zero w)
        · exact q_storeNewRat hp (List.mem_iff_getElem?.2 ⟨0, rfl⟩) rfl rfl (own_ptr rfl rfl (by simp) rfl) (sq_in 2 rfl rfl (by simp) rfl (fun v w h => ratV_pair h)) (fun _ _ => trivial) (old_ne rfl) (newi_ne rfl)
        intro L vs w37 nb hL hC hn E37
        have e3 : vs 3 = .pointer (some ⟨nb 3, 0, none⟩) := hn _ (List.mem_iff_getElem?.2 ⟨0, rfl⟩)
        have E : Fr w [(nb 3, 4, Fq.pair ((a.floor : Int) : Rat).num (((a.floor : Int) : Rat).den : Int)), (b6_6, 4, Fq.pair a.num (a.den : Int)), (b6_7, 4, Fq.pair b.num (b.den : Int)), (b6_8, 4, Fq.pair c.num (c.den : Int)), (b3, 4, Fq.raw2 n3 a3 k3 c3 xs3 m3 r3 l3 q3 ys3), (b2, 4, Fq.raw2 n2 a2 k2 c2 xs2 m2 r2 l2 q2 ys2), (b1, 4, Fq.raw2 n1 a1 k1 c1 xs1 m1 r1 l1 q1 ys1)] w37 := E37
        rw [lay_all hL]
        simp only [putAll, dstOf, List.length_cons, List.length_nil, Nat.zero_add, Nat.reduceAdd, List.getElem?_toArray, List.getElem?_cons_zero, List.getElem?_cons_succ, Option.bind_some, Act.put, List.setIfInBounds_toArray, List.set_cons_succ, List.set_cons_zero]
        rw [e3]
        generalize nb 3 = b37_3 at E ⊢
        generalize vs 0 = u37_0
        generalize vs 1 = u37_1
        generalize vs 2 = u37_2
        clear e3 hC hn E37 hL vs L nb
        go_upto_region 13 with (fail)
        have B38 : Hid (Rb (Rat.divInt (1) (1)) 3) := rb_lit (by decide) (by decide) (by decide)
        have B39 : Hid (Rb (((a.floor : Int) : Rat) + (Rat.divInt (1) (1))) 11) := rb_le (rb_add B36.out B38.out) (by omega)
        refine region_fr (C := [Fq.pair ((a.floor : Int) : Rat).num (((a.floor : Int) : Rat).den : Int), Fq.pair a.num (a.den : Int), Fq.is (.int .i64 (cmpQ ((a.floor : Int) : Rat) a)), Fq.is (.bool true), Fq.is (.bool true), Fq.pair a.num (a.den : Int), Fq.pair ((a.floor : Int) : Rat).num (((a.floor : Int) : Rat).den : Int), Fq.pair (Rat.divInt (1) (1)).num ((Rat.divInt (1) (1)).den : Int), Fq.pair (((a.floor : Int) : Rat) + (Rat.divInt (1) (1))).num ((((a.floor : Int) : Rat) + (Rat.divInt (1) (1))).den : Int), Fq.is (.int .i64 (cmpQ a (((a.floor : Int) : Rat) + (Rat.divInt (1) (1))))), Fq.is (.bool true), Fq.is (.bool true), Fq.is (.bool true), Fq.is (.bool true), Fq.is (.bool true), Fq.is (.bool true)]) (ks := [none, none, none, none, none, none, none]) (new := []) E rfl (by kernel_rfl) rfl rfl (fun hp => ⟨?_, ?_, ?_, ?_, ?_, ?_, ?_, ?_, ?_, ?_, ?_, ?_, ?_, ?_, ?_, ?_, trivial⟩) ?_
        · exact q_loadRat hp (free_of rfl) trivial (List.mem_iff_getElem?.2 ⟨0, rfl⟩) (.inl rfl) rfl (sq_out rfl rfl (fun _ _ => rfl)) (fun us w hl h => h)
        · exact q_loadRat hp (free_of rfl) trivial (List.mem_iff_getElem?.2 ⟨1, rfl⟩) (.inl rfl) rfl (sq_out rfl rfl (fun _ _ => rfl)) (fun us w hl h => h)
        · exact q_call2 (F := (Fq.pair ((a.floor : Int) : Rat).num (((a.floor : Int) : Rat).den : Int)).P) (G := (Fq.pair a.num (a.den : Int)).P) hp (free_of rfl) trivial (enq_Q_Cmp) (sq_in 0 rfl rfl (by simp) rfl (fun v w h => h)) (sq_in 1 rfl rfl (by simp) rfl (fun v w h => h)) (fun v v' w h h' => exCmpQ h h' (rb_le B36.out (by omega)) (rb_le Ba.out (by omega)))
        · exact q_one (F := fun v _ => v = .int .i64 (cmpQ ((a.floor : Int) : Rat) a)) hp (free_of rfl) trivial (sq_in 2 rfl rfl (by simp) rfl (fun v w h => h)) (fun ρ w hc h => ⟨.bool true, by simp [execOp, go_sem, h, hc, TF1.out], rfl⟩)
        · exact q_move hp (free_of rfl) trivial (sq_in 3 rfl rfl (by simp) rfl (fun v w h => h))
        · exact q_loadRat hp (free_of rfl) (gq_some rfl rfl (by simp) rfl (fun v w h => h)) (List.mem_iff_getElem?.2 ⟨1, rfl⟩) (.inl rfl) rfl (sq_out rfl rfl (fun _ _ => rfl)) (fun us w hl h => h)
        · exact q_loadRat hp (free_of rfl) (gq_some rfl rfl (by simp) rfl (fun v w h => h)) (List.mem_iff_getElem?.2 ⟨0, rfl⟩) (.inl rfl) rfl (sq_out rfl rfl (fun _ _ => rfl)) (fun us w hl h => h)
        · exact q_call2 (F := (Fq.is (.int .i64 1)).P) (G := (Fq.is (.int .i64 1)).P) hp (free_of rfl) (gq_some rfl rfl (by simp) rfl (fun v w h => h)) (enq_S_Of) (sq_const (fun _ => rfl)) (sq_const (fun _ => rfl)) (fun v v' w h h' => (by subst h; subst h'; exact exSOf (n := 1) (d := 1) (by decide) (of_lit (by decide)) (of_lit (by decide))))
        · exact q_call2 (F := (Fq.pair ((a.floor : Int) : Rat).num (((a.floor : Int) : Rat).den : Int)).P) (G := (Fq.pair (Rat.divInt (1) (1)).num ((Rat.divInt (1) (1)).den : Int)).P) hp (free_of rfl) (gq_some rfl rfl (by simp) rfl (fun v w h => h)) (enq_Q_Add) (sq_in 6 rfl rfl (by simp) rfl (fun v w h => h)) (sq_in 7 rfl rfl (by simp) rfl (fun v w h => h)) (fun v v' w h h' => exAddQ h h' (rb_le B36.out (by omega)) (rb_le B38.out (by omega)))
        · exact q_call2 (F := (Fq.pair a.num (a.den : Int)).P) (G := (Fq.pair (((a.floor : Int) : Rat) + (Rat.divInt (1) (1))).num ((((a.floor : Int) : Rat) + (Rat.divInt (1) (1))).den : Int)).P) hp (free_of rfl) (gq_some rfl rfl (by simp) rfl (fun v w h => h)) (enq_Q_Cmp) (sq_in 5 rfl rfl (by simp) rfl (fun v w h => h)) (sq_in 8 rfl rfl (by simp) rfl (fun v w h => h)) (fun v v' w h h' => exCmpQ h h' (rb_le Ba.out (by omega)) (rb_le B39.out (by omega)))
        · exact q_one (F := fun v _ => v = .int .i64 (cmpQ a (((a.floor : Int) : Rat) + (Rat.divInt (1) (1))))) hp (free_of rfl) (gq_some rfl rfl (by simp) rfl (fun v w h => h)) (sq_in 9 rfl rfl (by simp) rfl (fun v w h => h)) (fun ρ w hc h => ⟨.bool true, by simp [execOp, go_sem, h, hc, TF2.out], rfl⟩)
        · exact q_two (F := fun v _ => v = .bool true) (G := fun v _ => v = .bool true) hp (free_of rfl) trivial (sq_in 4 rfl rfl (by simp) rfl (fun v w h => h)) (sq_in 10 rfl rfl (by simp) rfl (fun v w h => h)) (fun ρ w hc h h' => ⟨_, by simp [execOp, go_sem, h, h'], rfl⟩)
        · exact q_move hp (free_of rfl) trivial (sq_in 11 rfl rfl (by simp) rfl (fun v w h => h))
        · exact q_move hp (free_of rfl) (gq_some rfl rfl (by simp) rfl (fun v w h => h)) (sq_out rfl rfl (fun _ _ => rfl))
        · exact q_two (F := fun v _ => v = .bool true) (G := fun v _ => v = .bool true) hp (free_of rfl) trivial (sq_in 12 rfl rfl (by simp) rfl (fun v w h => h)) (sq_in 13 rfl rfl (by simp) rfl (fun v w h => h)) (fun ρ w hc h h' => ⟨_, by simp [execOp, go_sem, h, h'], rfl⟩)
        · exact q_assign hp (free_of rfl) trivial (sq_in 14 rfl rfl (by simp) rfl (fun v w h => h))
        intro L vs w40 nb hL hC hn E40
        have e2 : vs 2 = .int .i64 (cmpQ ((a.floor : Int) : Rat) a) := hC 2 (by simp)
        have e3 : vs 3 = .bool true := hC 3 (by simp)
        have e4 : vs 4 = .bool true := hC 4 (by simp)
        have e9 : vs 9 = .int .i64 (cmpQ a (((a.floor : Int) : Rat) + (Rat.divInt (1) (1)))) := hC 9 (by simp)
        have e10 : vs 10 = .bool true := hC 10 (by simp)
        have e11 : vs 11 = .bool true := hC 11 (by simp)
        have e12 : vs 12 = .bool true := hC 12 (by simp)
        have e13 : vs 13 = .bool true := hC 13 (by simp)
        have e14 : vs 14 = .bool true := hC 14 (by simp)
        have e15 : vs 15 = .bool true := hC 15 (by simp)
        have E : Fr w [(b37_3, 4, Fq.pair ((a.floor : Int) : Rat).num (((a.floor : Int) : Rat).den : Int)), (b6_6, 4, Fq.pair a.num (a.den : Int)), (b6_7, 4, Fq.pair b.num (b.den : Int)), (b6_8, 4, Fq.pair c.num (c.den : Int)), (b3, 4, Fq.raw2 n3 a3 k3 c3 xs3 m3 r3 l3 q3 ys3), (b2, 4, Fq.raw2 n2 a2 k2 c2 xs2 m2 r2 l2 q2 ys2), (b1, 4, Fq.raw2 n1 a1 k1 c1 xs1 m1 r1 l1 q1 ys1)] w40 := E40
        rw [lay_all hL]
        simp only [putAll, dstOf, List.length_cons, List.length_nil, Nat.zero_add, Nat.reduceAdd, List.getElem?_toArray, List.getElem?_cons_zero, List.getElem?_cons_succ, Option.bind_some, Act.put, List.setIfInBounds_toArray, List.set_cons_succ, List.set_cons_zero]
        rw [e2, e3, e4, e9, e10, e11, e12, e13, e14, e15]
        generalize vs 0 = u40_0
        generalize vs 1 = u40_1
        generalize vs 5 = u40_5
        generalize vs 6 = u40_6
        generalize vs 7 = u40_7
        generalize vs 8 = u40_8
        clear e2 e3 e4 e9 e10 e11 e12 e13 e14 e15 hC hn E40 hL vs L nb
        clear TF1 TF2
        clear B8 B29 B30 B32 B33 B35 B36 B38 B39 Ba Bb Bc
        go_wp2
        refine bodyPost_ret (v := .bool true) ?_ rfl ⟨rfl, E.below⟩
        simp [results, Try.results4, go_sem]
      · have TP := hidd (mt cmpIqgt.1 hc0)
        clear hc0
        go_upto_region 10 with (fail)
        refine region_fr (C := [Fq.pair c.num (c.den : Int), Fq.is (.int .i64 (cmpI c.num 0)), Fq.is (.bool false), Fq.is (.bool false), Fq.is (undef), Fq.is (undef), Fq.is (undef), Fq.is (undef), Fq.is (undef), Fq.is (undef), Fq.is (undef), Fq.is (undef), Fq.is (undef), Fq.is (.bool false)]) (ks := [none, none, none, none, none, none]) (new := []) E rfl (by kernel_rfl) rfl rfl (fun hp => ⟨?_, ?_, ?_, ?_, ?_, ?_, ?_, ?_, ?_, ?_, ?_, ?_, ?_, ?_, trivial⟩) ?_
        · exact q_loadRat hp (free_of rfl) trivial (List.mem_iff_getElem?.2 ⟨2, rfl⟩) (.inl rfl) rfl (sq_out rfl rfl (fun _ _ => rfl)) (fun us w hl h => h)
        · exact q_call1 (F := (Fq.pair c.num (c.den : Int)).P) hp (free_of rfl) trivial (enq_Q_Sign) (sq_in 0 rfl rfl (by simp) rfl (fun v w h => h)) (fun v w h => exSignQ h)
        · exact q_one (F := fun v _ => v = .int .i64 (cmpI c.num 0)) hp (free_of rfl) trivial (sq_in 1 rfl rfl (by simp) rfl (fun v w h => h)) (fun ρ w hc h => ⟨.bool false, by simp [execOp, go_sem, h, hc, TP.out], rfl⟩)
        · exact q_move hp (free_of rfl) trivial (sq_in 2 rfl rfl (by simp) rfl (fun v w h => h))
        · exact q_skip hp (free_of rfl) rfl (gq_some rfl rfl (by simp) rfl (fun v w h => h)) (fun _ => rfl)
        · exact q_skip hp (free_of rfl) rfl (gq_some rfl rfl (by simp) rfl (fun v w h => h)) (fun _ => rfl)
        · exact q_skip hp (free_of rfl) rfl (gq_some rfl rfl (by simp) rfl (fun v w h => h)) (fun _ => rfl)
        · exact q_skip hp (free_of rfl) rfl (gq_some rfl rfl (by simp) rfl (fun v w h => h)) (fun _ => rfl)
        · exact q_skip hp (free_of rfl) rfl (gq_some rfl rfl (by simp) rfl (fun v w h => h)) (fun _ => rfl)
        · exact q_skip hp (free_of rfl) rfl (gq_some rfl rfl (by simp) rfl (fun v w h => h)) (fun _ => rfl)
        · exact q_skip hp (free_of rfl) rfl (gq_some rfl rfl (by simp) rfl (fun v w h => h)) (fun _ => rfl)
        · exact q_skip hp (free_of rfl) rfl (gq_some rfl rfl (by simp) rfl (fun v w h => h)) (fun _ => rfl)
        · exact q_skip hp (free_of rfl) rfl (gq_some rfl rfl (by simp) rfl (fun v w h => h)) (fun _ => rfl)
        · exact q_two (F := fun v _ => v = .bool false) (G := fun v _ => v = .bool false) hp (free_of rfl) trivial (sq_in 3 rfl rfl (by simp) rfl (fun v w h => h)) (sq_const (fun _ => rfl)) (fun ρ w hc h h' => ⟨_, by simp [execOp, go_sem, h, h'], rfl⟩)
        intro L vs w41 nb hL hC hn E41
        have e1 : vs 1 = .int .i64 (cmpI c.num 0) := hC 1 (by simp)
        have e2 : vs 2 = .bool false := hC 2 (by simp)
        have e3 : vs 3 = .bool false := hC 3 (by simp)
        have e4 : vs 4 = undef := hC 4 (by simp)
        have e5 : vs 5 = undef := hC 5 (by simp)
        have e6 : vs 6 = undef := hC 6 (by simp)
        have e7 : vs 7 = undef := hC 7 (by simp)
        have e8 : vs 8 = undef := hC 8 (by simp)
        have e9 : vs 9 = undef := hC 9 (by simp)
        have e10 : vs 10 = undef := hC 10 (by simp)
        have e11 : vs 11 = undef := hC 11 (by simp)
        have e12 : vs 12 = undef := hC 12 (by simp)
        have e13 : vs 13 = .bool false := hC 13 (by simp)
        have E : Fr w [(b6_6, 4, Fq.pair a.num (a.den : Int)), (b6_7, 4, Fq.pair b.num (b.den : Int)), (b6_8, 4, Fq.pair c.num (c.den : Int)), (b3, 4, Fq.raw2 n3 a3 k3 c3 xs3 m3 r3 l3 q3 ys3), (b2, 4, Fq.raw2 n2 a2 k2 c2 xs2 m2 r2 l2 q2 ys2), (b1, 4, Fq.raw2 n1 a1 k1 c1 xs1 m1 r1 l1 q1 ys1)] w41 := E41
        rw [lay_all hL]
        simp only [putAll, dstOf, List.length_cons, List.length_nil, Nat.zero_add, Nat.reduceAdd, List.getElem?_toArray, List.getElem?_cons_zero, List.getElem?_cons_succ, Option.bind_some, Act.put, List.setIfInBounds_toArray, List.set_cons_succ, List.set_cons_zero]
        rw [e1, e2, e3, e4, e5, e6, e7, e8, e9, e10, e11, e12, e13]
        generalize vs 0 = u41_0
        clear e1 e2 e3 e4 e5 e6 e7 e8 e9 e10 e11 e12 e13 hC hn E41 hL vs L nb
        clear TP
        have TF1 := hidd (cmpQ_le.2 (Rat.floor_le a))
        have TF2 := hidd (cmpQ_lt.2 (floor_next a))
        go_upto_region 12 with (fail)
        have B42 : Hid (ab (a.floor) < pw 7) := Int.lt_of_lt_of_le (rb_floor Ba.out) (pw_le (by omega))
        have B43 : Hid (Rb ((a.floor : Int) : Rat) 7) := rb_int B42.out (by omega)
        refine region_fr (C := [Fq.pair a.num (a.den : Int), Fq.num a.floor, Fq.pair ((a.floor : Int) : Rat).num (((a.floor : Int) : Rat).den : Int), Fq.any, Fq.any]) (ks := [none, none, none, none, none, none]) (new := [⟨3, 4, 4, Fq.pair 0 0, Fq.pair ((a.floor : Int) : Rat).num (((a.floor : Int) : Rat).den : Int)⟩]) E rfl (by kernel_rfl) rfl rfl (fun hp => ⟨?_, ?_, ?_, ?_, ?_, trivial⟩) ?_
        · exact q_loadRat hp (free_of rfl) trivial (List.mem_iff_getElem?.2 ⟨0, rfl⟩) (.inl rfl) rfl (sq_out rfl rfl (fun _ _ => rfl)) (fun us w hl h => h)
        · exact q_call1 (F := (Fq.pair a.num (a.den : Int)).P) hp (free_of rfl) trivial (enq_Q_Floor) (sq_in 0 rfl rfl (by simp) rfl (fun v w h => h)) (fun v w h => exFloorQ h (rb_le Ba.out (by omega)))
        · exact q_call1 (F := (Fq.num a.floor).P) hp (free_of rfl) trivial (enq_S_Whole) (sq_in 1 rfl rfl (by simp) rfl (fun v w h => h)) (fun v w h => exSWhole h (Int.lt_of_lt_of_le B42.out (pw_le (by omega))))
        · exact q_allocRat hp (List.mem_iff_getElem?.2 ⟨0, rfl⟩) rfl rfl rfl (Nat.ne_of_beq_eq_false rfl) (fun _ _ => trivial) (old_ne rfl) (newk_ne rfl) (fun w => Pair.zero w)
        · exact q_storeNewRat hp (List.mem_iff_getElem?.2 ⟨0, rfl⟩) rfl rfl (own_ptr rfl rfl (by simp) rfl) (sq_in 2 rfl rfl (by simp) rfl (fun v w h => ratV_pair h)) (fun _ _ => trivial) (old_ne rfl) (newi_ne rfl)
        intro L vs w44 nb hL hC hn E44
        have e3 : vs 3 = .pointer (some ⟨nb 3, 0, none⟩) := hn _ (List.mem_iff_getElem?.2 ⟨0, rfl⟩)
        have E : Fr w [(nb 3, 4, Fq.pair ((a.floor : Int) : Rat).num (((a.floor : Int) : Rat).den : Int)), (b6_6, 4, Fq.pair a.num (a.den : Int)), (b6_7, 4, Fq.pair b.num (b.den : Int)), (b6_8, 4, Fq.pair c.num (c.den : Int)), (b3, 4, Fq.raw2 n3 a3 k3 c3 xs3 m3 r3 l3 q3 ys3), (b2, 4, Fq.raw2 n2 a2 k2 c2 xs2 m2 r2 l2 q2 ys2), (b1, 4, Fq.raw2 n1 a1 k1 c1 xs1 m1 r1 l1 q1 ys1)] w44 := E44
        rw [lay_all hL]
        simp only [putAll, dstOf, List.length_cons, List.length_nil, Nat.zero_add, Nat.reduceAdd, List.getElem?_toArray, List.getElem?_cons_zero, List.getElem?_cons_succ, Option.bind_some, Act.put, List.setIfInBounds_toArray, List.set_cons_succ, List.set_cons_zero]
        rw [e3]
        generalize nb 3 = b44_3 at E ⊢
        generalize vs 0 = u44_0
        generalize vs 1 = u44_1
        generalize vs 2 = u44_2
        clear e3 hC hn E44 hL vs L nb
        go_upto_region 13 with (fail)
        have B45 : Hid (Rb (Rat.divInt (1) (1)) 3) := rb_lit (by decide) (by decide) (by decide)
        have B46 : Hid (Rb (((a.floor : Int) : Rat) + (Rat.divInt (1) (1))) 11) := rb_le (rb_add B43.out B45.out) (by omega)
        refine region_fr (C := [Fq.pair ((a.floor : Int) : Rat).num (((a.floor : Int) : Rat).den : Int), Fq.pair a.num (a.den : Int), Fq.is (.int .i64 (cmpQ ((a.floor : Int) : Rat) a)), Fq.is (.bool true), Fq.is (.bool true), Fq.pair a.num (a.den : Int), Fq.pair ((a.floor : Int) : Rat).num (((a.floor : Int) : Rat).den : Int), Fq.pair (Rat.divInt (1) (1)).num ((Rat.divInt (1) (1)).den : Int), Fq.pair (((a.floor : Int) : Rat) + (Rat.divInt (1) (1))).num ((((a.floor : Int) : Rat) + (Rat.divInt (1) (1))).den : Int), Fq.is (.int .i64 (cmpQ a (((a.floor : Int) : Rat) + (Rat.divInt (1) (1))))), Fq.is (.bool true), Fq.is (.bool true), Fq.is (.bool true), Fq.is (.bool true), Fq.is (.bool true), Fq.is (.bool true)]) (ks := [none, none, none, none, none, none, none]) (new := []) E rfl (by kernel_rfl) rfl rfl (fun hp => ⟨?_, ?_, ?_, ?_, ?_, ?_, ?_, ?_, ?_, ?_, ?_, ?_, ?_, ?_, ?_, ?_, trivial⟩) ?_
        · exact q_loadRat hp (free_of rfl) trivial (List.mem_iff_getElem?.2 ⟨0, rfl⟩) (.inl rfl) rfl (sq_out rfl rfl (fun _ _ => rfl)) (fun us w hl h => h)
        · exact q_loadRat hp (free_of rfl) trivial (List.mem_iff_getElem?.2 ⟨1, rfl⟩) (.inl rfl) rfl (sq_out rfl rfl (fun _ _ => rfl)) (fun us w hl h => h)
        · exact q_call2 (F := (Fq.pair ((a.floor : Int) : Rat).num (((a.floor : Int) : Rat).den : Int)).P) (G := (Fq.pair a.num (a.den : Int)).P) hp (free_of rfl) trivial (enq_Q_Cmp) (sq_in 0 rfl rfl (by simp) rfl (fun v w h => h)) (sq_in 1 rfl rfl (by simp) rfl (fun v w h => h)) (fun v v' w h h' => exCmpQ h h' (rb_le B43.out (by omega)) (rb_le Ba.out (by omega)))
        · exact q_one (F := fun v _ => v = .int .i64 (cmpQ ((a.floor : Int) : Rat) a)) hp (free_of rfl) trivial (sq_in 2 rfl rfl (by simp) rfl (fun v w h => h)) (fun ρ w hc h => ⟨.bool true, by simp [execOp, go_sem, h, hc, TF1.out], rfl⟩)
        · exact q_move hp (free_of rfl) trivial (sq_in 3 rfl rfl (by simp) rfl (fun v w h => h))
        · exact q_loadRat hp (free_of rfl) (gq_some rfl rfl (by simp) rfl (fun v w h => h)) (List.mem_iff_getElem?.2 ⟨1, rfl⟩) (.inl rfl) rfl (sq_out rfl rfl (fun _ _ => rfl)) (fun us w hl h => h)
        · exact q_loadRat hp (free_of rfl) (gq_some rfl rfl (by simp) rfl (fun v w h => h)) (List.mem_iff_getElem?.2 ⟨0, rfl⟩) (.inl rfl) rfl (sq_out rfl rfl (fun _ _ => rfl)) (fun us w hl h => h)
        · exact q_call2 (F := (Fq.is (.int .i64 1)).P) (G := (Fq.is (.int .i64 1)).P) hp (free_of rfl) (gq_some rfl rfl (by simp) rfl (fun v w h => h)) (enq_S_Of) (sq_const (fun _ => rfl)) (sq_const (fun _ => rfl)) (fun v v' w h h' => (by subst h; subst h'; exact exSOf (n := 1) (d := 1) (by decide) (of_lit (by decide)) (of_lit (by decide))))
        · exact q_call2 (F := (Fq.pair ((a.floor : Int) : Rat).num (((a.floor : Int) : Rat).den : Int)).P) (G := (Fq.pair (Rat.divInt (1) (1)).num ((Rat.divInt (1) (1)).den : Int)).P) hp (free_of rfl) (gq_some rfl rfl (by simp) rfl (fun v w h => h)) (enq_Q_Add) (sq_in 6 rfl rfl (by simp) rfl (fun v w h => h)) (sq_in 7 rfl rfl (by simp) rfl (fun v w h => h)) (fun v v' w h h' => exAddQ h h' (rb_le B43.out (by omega)) (rb_le B45.out (by omega)))
        · exact q_call2 (F := (Fq.pair a.num (a.den : Int)).P) (G := (Fq.pair (((a.floor : Int) : Rat) + (Rat.divInt (1) (1))).num ((((a.floor : Int) : Rat) + (Rat.divInt (1) (1))).den : Int)).P) hp (free_of rfl) (gq_some rfl rfl (by simp) rfl (fun v w h => h)) (enq_Q_Cmp) (sq_in 5 rfl rfl (by simp) rfl (fun v w h => h)) (sq_in 8 rfl rfl (by simp) rfl (fun v w h => h)) (fun v v' w h h' => exCmpQ h h' (rb_le Ba.out (by omega)) (rb_le B46.out (by omega)))
        · exact q_one (F := fun v _ => v = .int .i64 (cmpQ a (((a.floor : Int) : Rat) + (Rat.divInt (1) (1))))) hp (free_of rfl) (gq_some rfl rfl (by simp) rfl (fun v w h => h)) (sq_in 9 rfl rfl (by simp) rfl (fun v w h => h)) (fun ρ w hc h => ⟨.bool true, by simp [execOp, go_sem, h, hc, TF2.out], rfl⟩)
        · exact q_two (F := fun v _ => v = .bool true) (G := fun v _ => v = .bool true) hp (free_of rfl) trivial (sq_in 4 rfl rfl (by simp) rfl (fun v w h => h)) (sq_in 10 rfl rfl (by simp) rfl (fun v w h => h)) (fun ρ w hc h h' => ⟨_, by simp [execOp, go_sem, h, h'], rfl⟩)
        · exact q_move hp (free_of rfl) trivial (sq_in 11 rfl rfl (by simp) rfl (fun v w h => h))
        · exact q_move hp (free_of rfl) (gq_some rfl rfl (by simp) rfl (fun v w h => h)) (sq_out rfl rfl (fun _ _ => rfl))
        · exact q_two (F := fun v _ => v = .bool true) (G := fun v _ => v = .bool true) hp (free_of rfl) trivial (sq_in 12 rfl rfl (by simp) rfl (fun v w h => h)) (sq_in 13 rfl rfl (by simp) rfl (fun v w h => h)) (fun ρ w hc h h' => ⟨_, by simp [execOp, go_sem, h, h'], rfl⟩)
        · exact q_assign hp (free_of rfl) trivial (sq_in 14 rfl rfl (by simp) rfl (fun v w h => h))
        intro L vs w47 nb hL hC hn E47
        have e2 : vs 2 = .int .i64 (cmpQ ((a.floor : Int) : Rat) a) := hC 2 (by simp)
        have e3 : vs 3 = .bool true := hC 3 (by simp)
        have e4 : vs 4 = .bool true := hC 4 (by simp)
        have e9 : vs 9 = .int .i64 (cmpQ a (((a.floor : Int) : Rat) + (Rat.divInt (1) (1)))) := hC 9 (by simp)
        have e10 : vs 10 = .bool true := hC 10 (by simp)
        have e11 : vs 11 = .bool true := hC 11 (by simp)
        have e12 : vs 12 = .bool true := hC 12 (by simp)
        have e13 : vs 13 = .bool true := hC 13 (by simp)
        have e14 : vs 14 = .bool true := hC 14 (by simp)
        have e15 : vs 15 = .bool true := hC 15 (by simp)
        have E : Fr w [(b44_3, 4, Fq.pair ((a.floor : Int) : Rat).num (((a.floor : Int) : Rat).den : Int)), (b6_6, 4, Fq.pair a.num (a.den : Int)), (b6_7, 4, Fq.pair b.num (b.den : Int)), (b6_8, 4, Fq.pair c.num (c.den : Int)), (b3, 4, Fq.raw2 n3 a3 k3 c3 xs3 m3 r3 l3 q3 ys3), (b2, 4, Fq.raw2 n2 a2 k2 c2 xs2 m2 r2 l2 q2 ys2), (b1, 4, Fq.raw2 n1 a1 k1 c1 xs1 m1 r1 l1 q1 ys1)] w47 := E47
        rw [lay_all hL]
        simp only [putAll, dstOf, List.length_cons, List.length_nil, Nat.zero_add, Nat.reduceAdd, List.getElem?_toArray, List.getElem?_cons_zero, List.getElem?_cons_succ, Option.bind_some, Act.put, List.setIfInBounds_toArray, List.set_cons_succ, List.set_cons_zero]
        rw [e2, e3, e4, e9, e10, e11, e12, e13, e14, e15]
        generalize vs 0 = u47_0
        generalize vs 1 = u47_1
        generalize vs 5 = u47_5
        generalize vs 6 = u47_6
        generalize vs 7 = u47_7
        generalize vs 8 = u47_8
        clear e2 e3 e4 e9 e10 e11 e12 e13 e14 e15 hC hn E47 hL vs L nb
        clear TF1 TF2
        clear B8 B29 B30 B42 B43 B45 B46 Ba Bb Bc
        go_wp2
        refine bodyPost_ret (v := .bool true) ?_ rfl ⟨rfl, E.below⟩
        simp [results, Try.results4, go_sem]
  · have T1 := hidd hab
    clear hab
    go_upto_region 8 with (fail)
    have B48 : Hid (Rb (a + c) 13) := rb_le (rb_add Ba.out Bc.out) (by omega)
    have B49 : Hid (Rb (b + c) 13) := rb_le (rb_add Bb.out Bc.out) (by omega)
    refine region_fr (C := [Fq.is (.int .i64 (cmpQ a b)), Fq.is (.bool false), Fq.is (.bool false), Fq.is (undef), Fq.is (undef), Fq.is (undef), Fq.is (undef), Fq.is (.bool false), Fq.is (.bool false), Fq.is (undef), Fq.is (undef), Fq.is (undef), Fq.is (undef), Fq.is (.bool false), Fq.is (.bool false), Fq.pair a.num (a.den : Int), Fq.pair c.num (c.den : Int), Fq.pair (a + c).num ((a + c).den : Int), Fq.pair b.num (b.den : Int), Fq.pair c.num (c.den : Int), Fq.pair (b + c).num ((b + c).den : Int), Fq.is (.int .i64 (cmpQ (a + c) (b + c))), Fq.is (.int .i64 (cmpQ a b)), Fq.is (.bool false), Fq.is (.bool false)]) (ks := [none, none, none, none, none, none]) (new := []) E rfl (by kernel_rfl) rfl rfl (fun hp => ⟨?_, ?_, ?_, ?_, ?_, ?_, ?_, ?_, ?_, ?_, ?_, ?_, ?_, ?_, ?_, ?_, ?_, ?_, ?_, ?_, ?_, ?_, ?_, ?_, ?_, trivial⟩) ?_
    · exact q_move hp (free_of rfl) trivial (sq_out rfl rfl (fun _ _ => rfl))
    · exact q_one (F := fun v _ => v = .int .i64 (cmpQ a b)) hp (free_of rfl) trivial (sq_in 0 rfl rfl (by simp) rfl (fun v w h => h)) (fun ρ w hc h => ⟨.bool false, by simp [execOp, go_sem, h, hc, T1.out], rfl⟩)
    · exact q_move hp (free_of rfl) trivial (sq_in 1 rfl rfl (by simp) rfl (fun v w h => h))
    · exact q_skip hp (free_of rfl) rfl (gq_some rfl rfl (by simp) rfl (fun v w h => h)) (fun _ => rfl)
    · exact q_skip hp (free_of rfl) rfl (gq_some rfl rfl (by simp) rfl (fun v w h => h)) (fun _ => rfl)
    · exact q_skip hp (free_of rfl) rfl (gq_some rfl rfl (by simp) rfl (fun v w h => h)) (fun _ => rfl)
    · exact q_skip hp (free_of rfl) rfl (gq_some rfl rfl (by simp) rfl (fun v w h => h)) (fun _ => rfl)
    · exact q_two (F := fun v _ => v = .bool false) (G := fun v _ => v = .bool false) hp (free_of rfl) trivial (sq_in 2 rfl rfl (by simp) rfl (fun v w h => h)) (sq_const (fun _ => rfl)) (fun ρ w hc h h' => ⟨_, by simp [execOp, go_sem, h, h'], rfl⟩)
    · exact q_move hp (free_of rfl) trivial (sq_in 7 rfl rfl (by simp) rfl (fun v w h => h))
    · exact q_skip hp (free_of rfl) rfl (gq_some rfl rfl (by simp) rfl (fun v w h => h)) (fun _ => rfl)
    · exact q_skip hp (free_of rfl) rfl (gq_some rfl rfl (by simp) rfl (fun v w h => h)) (fun _ => rfl)
    · exact q_skip hp (free_of rfl) rfl (gq_some rfl rfl (by simp) rfl (fun v w h => h)) (fun _ => rfl)
    · exact q_skip hp (free_of rfl) rfl (gq_some rfl rfl (by simp) rfl (fun v w h => h)) (fun _ => rfl)
    · exact q_two (F := fun v _ => v = .bool false) (G := fun v _ => v = .bool false) hp (free_of rfl) trivial (sq_in 8 rfl rfl (by simp) rfl (fun v w h => h)) (sq_const (fun _ => rfl)) (fun ρ w hc h h' => ⟨_, by simp [execOp, go_sem, h, h'], rfl⟩)
    · exact q_move hp (free_of rfl) trivial (sq_in 13 rfl rfl (by simp) rfl (fun v w h => h))
    · exact q_loadRat hp (free_of rfl) (gq_some rfl rfl (by simp) rfl (fun v w h => h)) (List.mem_iff_getElem?.2 ⟨0, rfl⟩) (.inl rfl) rfl (sq_out rfl rfl (fun _ _ => rfl)) (fun us w hl h => h)
    · exact q_loadRat hp (free_of rfl) (gq_some rfl rfl (by simp) rfl (fun v w h => h)) (List.mem_iff_getElem?.2 ⟨2, rfl⟩) (.inl rfl) rfl (sq_out rfl rfl (fun _ _ => rfl)) (fun us w hl h => h)
    · exact q_call2 (F := (Fq.pair a.num (a.den : Int)).P) (G := (Fq.pair c.num (c.den : Int)).P) hp (free_of rfl) (gq_some rfl rfl (by simp) rfl (fun v w h => h)) (enq_Q_Add) (sq_in 15 rfl rfl (by simp) rfl (fun v w h => h)) (sq_in 16 rfl rfl (by simp) rfl (fun v w h => h)) (fun v v' w h h' => exAddQ h h' (rb_le Ba.out (by omega)) (rb_le Bc.out (by omega)))
    · exact q_loadRat hp (free_of rfl) (gq_some rfl rfl (by simp) rfl (fun v w h => h)) (List.mem_iff_getElem?.2 ⟨1, rfl⟩) (.inl rfl) rfl (sq_out rfl rfl (fun _ _ => rfl)) (fun us w hl h => h)
    · exact q_loadRat hp (free_of rfl) (gq_some rfl rfl (by simp) rfl (fun v w h => h)) (List.mem_iff_getElem?.2 ⟨2, rfl⟩) (.inl rfl) rfl (sq_out rfl rfl (fun _ _ => rfl)) (fun us w hl h => h)
    · exact q_call2 (F := (Fq.pair b.num (b.den : Int)).P) (G := (Fq.pair c.num (c.den : Int)).P) hp (free_of rfl) (gq_some rfl rfl (by simp) rfl (fun v w h => h)) (enq_Q_Add) (sq_in 18 rfl rfl (by simp) rfl (fun v w h => h)) (sq_in 19 rfl rfl (by simp) rfl (fun v w h => h)) (fun v v' w h h' => exAddQ h h' (rb_le Bb.out (by omega)) (rb_le Bc.out (by omega)))
    · exact q_call2 (F := (Fq.pair (a + c).num ((a + c).den : Int)).P) (G := (Fq.pair (b + c).num ((b + c).den : Int)).P) hp (free_of rfl) (gq_some rfl rfl (by simp) rfl (fun v w h => h)) (enq_Q_Cmp) (sq_in 17 rfl rfl (by simp) rfl (fun v w h => h)) (sq_in 20 rfl rfl (by simp) rfl (fun v w h => h)) (fun v v' w h h' => exCmpQ h h' (rb_le B48.out (by omega)) (rb_le B49.out (by omega)))
    · exact q_move hp (free_of rfl) (gq_some rfl rfl (by simp) rfl (fun v w h => h)) (sq_out rfl rfl (fun _ _ => rfl))
    · exact q_two (F := fun v _ => v = .int .i64 (cmpQ (a + c) (b + c))) (G := fun v _ => v = .int .i64 (cmpQ a b)) hp (free_of rfl) (gq_some rfl rfl (by simp) rfl (fun v w h => h)) (sq_in 21 rfl rfl (by simp) rfl (fun v w h => h)) (sq_in 22 rfl rfl (by simp) rfl (fun v w h => h)) (fun ρ w hc h h' => ⟨.bool false, by simp [execOp, go_sem, h, h', TA.out], rfl⟩)
    · exact q_two (F := fun v _ => v = .bool false) (G := fun v _ => v = .bool false) hp (free_of rfl) trivial (sq_in 14 rfl rfl (by simp) rfl (fun v w h => h)) (sq_in 23 rfl rfl (by simp) rfl (fun v w h => h)) (fun ρ w hc h h' => ⟨_, by simp [execOp, go_sem, h, h'], rfl⟩)
    intro L vs w50 nb hL hC hn E50
    have e0 : vs 0 = .int .i64 (cmpQ a b) := hC 0 (by simp)
    have e1 : vs 1 = .bool false := hC 1 (by simp)
    have e2 : vs 2 = .bool false := hC 2 (by simp)
    have e3 : vs 3 = undef := hC 3 (by simp)
    have e4 : vs 4 = undef := hC 4 (by simp)
    have e5 : vs 5 = undef := hC 5 (by simp)
    have e6 : vs 6 = undef := hC 6 (by simp)
    have e7 : vs 7 = .bool false := hC 7 (by simp)
    have e8 : vs 8 = .bool false := hC 8 (by simp)
    have e9 : vs 9 = undef := hC 9 (by simp)
    have e10 : vs 10 = undef := hC 10 (by simp)
    have e11 : vs 11 = undef := hC 11 (by simp)
    have e12 : vs 12 = undef := hC 12 (by simp)
    have e13 : vs 13 = .bool false := hC 13 (by simp)
    have e14 : vs 14 = .bool false := hC 14 (by simp)
    have e21 : vs 21 = .int .i64 (cmpQ (a + c) (b + c)) := hC 21 (by simp)
    have e22 : vs 22 = .int .i64 (cmpQ a b) := hC 22 (by simp)
    have e23 : vs 23 = .bool false := hC 23 (by simp)
    have e24 : vs 24 = .bool false := hC 24 (by simp)
    have E : Fr w [(b6_6, 4, Fq.pair a.num (a.den : Int)), (b6_7, 4, Fq.pair b.num (b.den : Int)), (b6_8, 4, Fq.pair c.num (c.den : Int)), (b3, 4, Fq.raw2 n3 a3 k3 c3 xs3 m3 r3 l3 q3 ys3), (b2, 4, Fq.raw2 n2 a2 k2 c2 xs2 m2 r2 l2 q2 ys2), (b1, 4, Fq.raw2 n1 a1 k1 c1 xs1 m1 r1 l1 q1 ys1)] w50 := E50
    rw [lay_all hL]
    simp only [putAll, dstOf, List.length_cons, List.length_nil, Nat.zero_add, Nat.reduceAdd, List.getElem?_toArray, List.getElem?_cons_zero, List.getElem?_cons_succ, Option.bind_some, Act.put, List.setIfInBounds_toArray, List.set_cons_succ, List.set_cons_zero]
    rw [e0, e1, e2, e3, e4, e5, e6, e7, e8, e9, e10, e11, e12, e13, e14, e21, e22, e23, e24]
    generalize vs 15 = u50_15
    generalize vs 16 = u50_16
    generalize vs 17 = u50_17
    generalize vs 18 = u50_18
    generalize vs 19 = u50_19
    generalize vs 20 = u50_20
    clear e0 e1 e2 e3 e4 e5 e6 e7 e8 e9 e10 e11 e12 e13 e14 e21 e22 e23 e24 hC hn E50 hL vs L nb
    clear T1 TA
    by_cases hc0 : 0 < c.num
    · have TP := hidd (cmpIqgt.2 hc0)
      have TM := hidd (cmpQ_mul (a := a) (b := b) (num_pos hc0))
      clear hc0
      go_upto_region 10 with (fail)
      have B51 : Hid (Rb (a * c) 12) := rb_le (rb_mul Ba.out Bc.out) (by omega)
      have B52 : Hid (Rb (b * c) 12) := rb_le (rb_mul Bb.out Bc.out) (by omega)
      refine region_fr (C := [Fq.pair c.num (c.den : Int), Fq.is (.int .i64 (cmpI c.num 0)), Fq.is (.bool true), Fq.is (.bool true), Fq.pair a.num (a.den : Int), Fq.pair c.num (c.den : Int), Fq.pair (a * c).num ((a * c).den : Int), Fq.pair b.num (b.den : Int), Fq.pair c.num (c.den : Int), Fq.pair (b * c).num ((b * c).den : Int), Fq.is (.int .i64 (cmpQ (a * c) (b * c))), Fq.is (.int .i64 (cmpQ a b)), Fq.is (.bool false), Fq.is (.bool false)]) (ks := [none, none, none, none, none, none]) (new := []) E rfl (by kernel_rfl) rfl rfl (fun hp => ⟨?_, ?_, ?_, ?_, ?_, ?_, ?_, ?_, ?_, ?_, ?_, ?_, ?_, ?_, trivial⟩) ?_
      · exact q_loadRat hp (free_of rfl) trivial (List.mem_iff_getElem?.2 ⟨2, rfl⟩) (.inl rfl) rfl (sq_out rfl rfl (fun _ _ => rfl)) (fun us w hl h => h)
      · exact q_call1 (F := (Fq.pair c.num (c.den : Int)).P) hp (free_of rfl) trivial (enq_Q_Sign) (sq_in 0 rfl rfl (by simp) rfl (fun v w h => h)) (fun v w h => exSignQ h)
      · exact q_one (F := fun v _ => v = .int .i64 (cmpI c.num 0)) hp (free_of rfl) trivial (sq_in 1 rfl rfl (by simp) rfl (fun v w h => h)) (fun ρ w hc h => ⟨.bool true, by simp [execOp, go_sem, h, hc, TP.out], rfl⟩)
      · exact q_move hp (free_of rfl) trivial (sq_in 2 rfl rfl (by simp) rfl (fun v w h => h))
      · exact q_loadRat hp (free_of rfl) (gq_some rfl rfl (by simp) rfl (fun v w h => h)) (List.mem_iff_getElem?.2 ⟨0, rfl⟩) (.inl rfl) rfl (sq_out rfl rfl (fun _ _ => rfl)) (fun us w hl h => h)
      · exact q_loadRat hp (free_of rfl) (gq_some rfl rfl (by simp) rfl (fun v w h => h)) (List.mem_iff_getElem?.2 ⟨2, rfl⟩) (.inl rfl) rfl (sq_out rfl rfl (fun _ _ => rfl)) (fun us w hl h => h)
      · exact q_call2 (F := (Fq.pair a.num (a.den : Int)).P) (G := (Fq.pair c.num (c.den : Int)).P) hp (free_of rfl) (gq_some rfl rfl (by simp) rfl (fun v w h => h)) (enq_Q_Mul) (sq_in 4 rfl rfl (by simp) rfl (fun v w h => h)) (sq_in 5 rfl rfl (by simp) rfl (fun v w h => h)) (fun v v' w h h' => exMulQ h h' (rb_le Ba.out (by omega)) (rb_le Bc.out (by omega)))
      · exact q_loadRat hp (free_of rfl) (gq_some rfl rfl (by simp) rfl (fun v w h => h)) (List.mem_iff_getElem?.2 ⟨1, rfl⟩) (.inl rfl) rfl (sq_out rfl rfl (fun _ _ => rfl)) (fun us w hl h => h)
      · exact q_loadRat hp (free_of rfl) (gq_some rfl rfl (by simp) rfl (fun v w h => h)) (List.mem_iff_getElem?.2 ⟨2, rfl⟩) (.inl rfl) rfl (sq_out rfl rfl (fun _ _ => rfl)) (fun us w hl h => h)
      · exact q_call2 (F := (Fq.pair b.num (b.den : Int)).P) (G := (Fq.pair c.num (c.den : Int)).P) hp (free_of rfl) (gq_some rfl rfl (by simp) rfl (fun v w h => h)) (enq_Q_Mul) (sq_in 7 rfl rfl (by simp) rfl (fun v w h => h)) (sq_in 8 rfl rfl (by simp) rfl (fun v w h => h)) (fun v v' w h h' => exMulQ h h' (rb_le Bb.out (by omega)) (rb_le Bc.out (by omega)))
      · exact q_call2 (F := (Fq.pair (a * c).num ((a * c).den : Int)).P) (G := (Fq.pair (b * c).num ((b * c).den : Int)).P) hp (free_of rfl) (gq_some rfl rfl (by simp) rfl (fun v w h => h)) (enq_Q_Cmp) (sq_in 6 rfl rfl (by simp) rfl (fun v w h => h)) (sq_in 9 rfl rfl (by simp) rfl (fun v w h => h)) (fun v v' w h h' => exCmpQ h h' (rb_le B51.out (by omega)) (rb_le B52.out (by omega)))
      · exact q_move hp (free_of rfl) (gq_some rfl rfl (by simp) rfl (fun v w h => h)) (sq_out rfl rfl (fun _ _ => rfl))
      · exact q_two (F := fun v _ => v = .int .i64 (cmpQ (a * c) (b * c))) (G := fun v _ => v = .int .i64 (cmpQ a b)) hp (free_of rfl) (gq_some rfl rfl (by simp) rfl (fun v w h => h)) (sq_in 10 rfl rfl (by simp) rfl (fun v w h => h)) (sq_in 11 rfl rfl (by simp) rfl (fun v w h => h)) (fun ρ w hc h h' => ⟨.bool false, by simp [execOp, go_sem, h, h', TM.out], rfl⟩)
      · exact q_two (F := fun v _ => v = .bool true) (G := fun v _ => v = .bool false) hp (free_of rfl) trivial (sq_in 3 rfl rfl (by simp) rfl (fun v w h => h)) (sq_in 12 rfl rfl (by simp) rfl (fun v w h => h)) (fun ρ w hc h h' => ⟨_, by simp [execOp, go_sem, h, h'], rfl⟩)
      intro L vs w53 nb hL hC hn E53
      have e1 : vs 1 = .int .i64 (cmpI c.num 0) := hC 1 (by simp)
      have e2 : vs 2 = .bool true := hC 2 (by simp)
      have e3 : vs 3 = .bool true := hC 3 (by simp)
      have e10 : vs 10 = .int .i64 (cmpQ (a * c) (b * c)) := hC 10 (by simp)
      have e11 : vs 11 = .int .i64 (cmpQ a b) := hC 11 (by simp)
      have e12 : vs 12 = .bool false := hC 12 (by simp)
      have e13 : vs 13 = .bool false := hC 13 (by simp)
      have E : Fr w [(b6_6, 4, Fq.pair a.num (a.den : Int)), (b6_7, 4, Fq.pair b.num (b.den : Int)), (b6_8, 4, Fq.pair c.num (c.den : Int)), (b3, 4, Fq.raw2 n3 a3 k3 c3 xs3 m3 r3 l3 q3 ys3), (b2, 4, Fq.raw2 n2 a2 k2 c2 xs2 m2 r2 l2 q2 ys2), (b1, 4, Fq.raw2 n1 a1 k1 c1 xs1 m1 r1 l1 q1 ys1)] w53 := E53
      rw [lay_all hL]
      simp only [putAll, dstOf, List.length_cons, List.length_nil, Nat.zero_add, Nat.reduceAdd, List.getElem?_toArray, List.getElem?_cons_zero, List.getElem?_cons_succ, Option.bind_some, Act.put, List.setIfInBounds_toArray, List.set_cons_succ, List.set_cons_zero]
      rw [e1, e2, e3, e10, e11, e12, e13]
      generalize vs 0 = u53_0
      generalize vs 4 = u53_4
      generalize vs 5 = u53_5
      generalize vs 6 = u53_6
      generalize vs 7 = u53_7
      generalize vs 8 = u53_8
      generalize vs 9 = u53_9
      clear e1 e2 e3 e10 e11 e12 e13 hC hn E53 hL vs L nb
      clear TP TM
      have TF1 := hidd (cmpQ_le.2 (Rat.floor_le a))
      have TF2 := hidd (cmpQ_lt.2 (floor_next a))
      go_upto_region 12 with (fail)
      have B54 : Hid (ab (a.floor) < pw 7) := Int.lt_of_lt_of_le (rb_floor Ba.out) (pw_le (by omega))
      have B55 : Hid (Rb ((a.floor : Int) : Rat) 7) := rb_int B54.out (by omega)
      refine region_fr (C := [Fq.pair a.num (a.den : Int), Fq.num a.floor, Fq.pair ((a.floor : Int) : Rat).num (((a.floor : Int) : Rat).den : Int), Fq.any, Fq.any]) (ks := [none, none, none, none, none, none]) (new := [⟨3, 4, 4, Fq.pair 0 0, Fq.pair ((a.floor : Int) : Rat).num (((a.floor : Int) : Rat).den : Int)⟩]) E rfl (by kernel_rfl) rfl rfl (fun hp => ⟨?_, ?_, ?_, ?_, ?_, trivial⟩) ?_
      · exact q_loadRat hp (free_of rfl) trivial (List.mem_iff_getElem?.2 ⟨0, rfl⟩) (.inl rfl) rfl (sq_out rfl rfl (fun _ _ => rfl)) (fun us w hl h => h)
      · exact q_call1 (F := (Fq.pair a.num (a.den : Int)).P) hp (free_of rfl) trivial (enq_Q_Floor) (sq_in 0 rfl rfl (by simp) rfl (fun v w h => h)) (fun v w h => exFloorQ h (rb_le Ba.out (by omega)))
      · exact q_call1 (F := (Fq.num a.floor).P) hp (free_of rfl) trivial (enq_S_Whole) (sq_in 1 rfl rfl (by simp) rfl (fun v w h => h)) (fun v w h => exSWhole h (Int.lt_of_lt_of_le B54.out (pw_le (by omega))))
      · exact q_allocRat hp (List.mem_iff_getElem?.2 ⟨0, rfl⟩) rfl rfl rfl (Nat.ne_of_beq_eq_false rfl) (fun _ _ => trivial) (old_ne rfl) (newk_ne rfl) (fun w => Pair.zero w)
      · exact q_storeNewRat hp (List.mem_iff_getElem?.2 ⟨0, rfl⟩) rfl rfl (own_ptr rfl rfl (by simp) rfl) (sq_in 2 rfl rfl (by simp) rfl (fun v w h => ratV_pair h)) (fun _ _ => trivial) (old_ne rfl) (newi_ne rfl)
      intro L vs w56 nb hL hC hn E56
      have e3 : vs 3 = .pointer (some ⟨nb 3, 0, none⟩) := hn _ (List.mem_iff_getElem?.2 ⟨0, rfl⟩)
      have E : Fr w [(nb 3, 4, Fq.pair ((a.floor : Int) : Rat).num (((a.floor : Int) : Rat).den : Int)), (b6_6, 4, Fq.pair a.num (a.den : Int)), (b6_7, 4, Fq.pair b.num (b.den : Int)), (b6_8, 4, Fq.pair c.num (c.den : Int)), (b3, 4, Fq.raw2 n3 a3 k3 c3 xs3 m3 r3 l3 q3 ys3), (b2, 4, Fq.raw2 n2 a2 k2 c2 xs2 m2 r2 l2 q2 ys2), (b1, 4, Fq.raw2 n1 a1 k1 c1 xs1 m1 r1 l1 q1 ys1)] w56 := E56
      rw [lay_all hL]
      simp only [putAll, dstOf, List.length_cons, List.length_nil, Nat.zero_add, Nat.reduceAdd, List.getElem?_toArray, List.getElem?_cons_zero, List.getElem?_cons_succ, Option.bind_some, Act.put, List.setIfInBounds_toArray, List.set_cons_succ, List.set_cons_zero]
      rw [e3]
      generalize nb 3 = b56_3 at E ⊢
      generalize vs 0 = u56_0
      generalize vs 1 = u56_1
      generalize vs 2 = u56_2
      clear e3 hC hn E56 hL vs L nb
      go_upto_region 13 with (fail)
      have B57 : Hid (Rb (Rat.divInt (1) (1)) 3) := rb_lit (by decide) (by decide) (by decide)
      have B58 : Hid (Rb (((a.floor : Int) : Rat) + (Rat.divInt (1) (1))) 11) := rb_le (rb_add B55.out B57.out) (by omega)
      refine region_fr (C := [Fq.pair ((a.floor : Int) : Rat).num (((a.floor : Int) : Rat).den : Int), Fq.pair a.num (a.den : Int), Fq.is (.int .i64 (cmpQ ((a.floor : Int) : Rat) a)), Fq.is (.bool true), Fq.is (.bool true), Fq.pair a.num (a.den : Int), Fq.pair ((a.floor : Int) : Rat).num (((a.floor : Int) : Rat).den : Int), Fq.pair (Rat.divInt (1) (1)).num ((Rat.divInt (1) (1)).den : Int), Fq.pair (((a.floor : Int) : Rat) + (Rat.divInt (1) (1))).num ((((a.floor : Int) : Rat) + (Rat.divInt (1) (1))).den : Int), Fq.is (.int .i64 (cmpQ a (((a.floor : Int) : Rat) + (Rat.divInt (1) (1))))), Fq.is (.bool true), Fq.is (.bool true), Fq.is (.bool true), Fq.is (.bool true), Fq.is (.bool true), Fq.is (.bool true)]) (ks := [none, none, none, none, none, none, none]) (new := []) E rfl (by kernel_rfl) rfl rfl (fun hp => ⟨?_, ?_, ?_, ?_, ?_, ?_, ?_, ?_, ?_, ?_, ?_, ?_, ?_, ?_, ?_, ?_, trivial⟩) ?_
      · exact q_loadRat hp (free_of rfl) trivial (List.mem_iff_getElem?.2 ⟨0, rfl⟩) (.inl rfl) rfl (sq_out rfl rfl (fun _ _ => rfl)) (fun us w hl h => h)
      · exact q_loadRat hp (free_of rfl) trivial (List.mem_iff_getElem?.2 ⟨1, rfl⟩) (.inl rfl) rfl (sq_out rfl rfl (fun _ _ => rfl)) (fun us w hl h => h)
      · exact q_call2 (F := (Fq.pair ((a.floor : Int) : Rat).num (((a.floor : Int) : Rat).den : Int)).P) (G := (Fq.pair a.num (a.den : Int)).P) hp (free_of rfl) trivial (enq_Q_Cmp) (sq_in 0 rfl rfl (by simp) rfl (fun v w h => h)) (sq_in 1 rfl rfl (by simp) rfl (fun v w h => h)) (fun v v' w h h' => exCmpQ h h' (rb_le B55.out (by omega)) (rb_le Ba.out (by omega)))
      · exact q_one (F := fun v _ => v = .int .i64 (cmpQ ((a.floor : Int) : Rat) a)) hp (free_of rfl) trivial (sq_in 2 rfl rfl (by simp) rfl (fun v w h => h)) (fun ρ w hc h => ⟨.bool true, by simp [execOp, go_sem, h, hc, TF1.out], rfl⟩)
      · exact q_move hp (free_of rfl) trivial (sq_in 3 rfl rfl (by simp) rfl (fun v w h => h))
      · exact q_loadRat hp (free_of rfl) (gq_some rfl rfl (by simp) rfl (fun v w h => h)) (List.mem_iff_getElem?.2 ⟨1, rfl⟩) (.inl rfl) rfl (sq_out rfl rfl (fun _ _ => rfl)) (fun us w hl h => h)
      · exact q_loadRat hp (free_of rfl) (gq_some rfl rfl (by simp) rfl (fun v w h => h)) (List.mem_iff_getElem?.2 ⟨0, rfl⟩) (.inl rfl) rfl (sq_out rfl rfl (fun _ _ => rfl)) (fun us w hl h => h)
      · exact q_call2 (F := (Fq.is (.int .i64 1)).P) (G := (Fq.is (.int .i64 1)).P) hp (free_of rfl) (gq_some rfl rfl (by simp) rfl (fun v w h => h)) (enq_S_Of) (sq_const (fun _ => rfl)) (sq_const (fun _ => rfl)) (fun v v' w h h' => (by subst h; subst h'; exact exSOf (n := 1) (d := 1) (by decide) (of_lit (by decide)) (of_lit (by decide))))
      · exact q_call2 (F := (Fq.pair ((a.floor : Int) : Rat).num (((a.floor : Int) : Rat).den : Int)).P) (G := (Fq.pair (Rat.divInt (1) (1)).num ((Rat.divInt (1) (1)).den : Int)).P) hp (free_of rfl) (gq_some rfl rfl (by simp) rfl (fun v w h => h)) (enq_Q_Add) (sq_in 6 rfl rfl (by simp) rfl (fun v w h => h)) (sq_in 7 rfl rfl (by simp) rfl (fun v w h => h)) (fun v v' w h h' => exAddQ h h' (rb_le B55.out (by omega)) (rb_le B57.out (by omega)))
      · exact q_call2 (F := (Fq.pair a.num (a.den : Int)).P) (G := (Fq.pair (((a.floor : Int) : Rat) + (Rat.divInt (1) (1))).num ((((a.floor : Int) : Rat) + (Rat.divInt (1) (1))).den : Int)).P) hp (free_of rfl) (gq_some rfl rfl (by simp) rfl (fun v w h => h)) (enq_Q_Cmp) (sq_in 5 rfl rfl (by simp) rfl (fun v w h => h)) (sq_in 8 rfl rfl (by simp) rfl (fun v w h => h)) (fun v v' w h h' => exCmpQ h h' (rb_le Ba.out (by omega)) (rb_le B58.out (by omega)))
      · exact q_one (F := fun v _ => v = .int .i64 (cmpQ a (((a.floor : Int) : Rat) + (Rat.divInt (1) (1))))) hp (free_of rfl) (gq_some rfl rfl (by simp) rfl (fun v w h => h)) (sq_in 9 rfl rfl (by simp) rfl (fun v w h => h)) (fun ρ w hc h => ⟨.bool true, by simp [execOp, go_sem, h, hc, TF2.out], rfl⟩)
      · exact q_two (F := fun v _ => v = .bool true) (G := fun v _ => v = .bool true) hp (free_of rfl) trivial (sq_in 4 rfl rfl (by simp) rfl (fun v w h => h)) (sq_in 10 rfl rfl (by simp) rfl (fun v w h => h)) (fun ρ w hc h h' => ⟨_, by simp [execOp, go_sem, h, h'], rfl⟩)
      · exact q_move hp (free_of rfl) trivial (sq_in 11 rfl rfl (by simp) rfl (fun v w h => h))
      · exact q_move hp (free_of rfl) (gq_some rfl rfl (by simp) rfl (fun v w h => h)) (sq_out rfl rfl (fun _ _ => rfl))
      · exact q_two (F := fun v _ => v = .bool true) (G := fun v _ => v = .bool true) hp (free_of rfl) trivial (sq_in 12 rfl rfl (by simp) rfl (fun v w h => h)) (sq_in 13 rfl rfl (by simp) rfl (fun v w h => h)) (fun ρ w hc h h' => ⟨_, by simp [execOp, go_sem, h, h'], rfl⟩)
      · exact q_assign hp (free_of rfl) trivial (sq_in 14 rfl rfl (by simp) rfl (fun v w h => h))
      intro L vs w59 nb hL hC hn E59
      have e2 : vs 2 = .int .i64 (cmpQ ((a.floor : Int) : Rat) a) := hC 2 (by simp)
      have e3 : vs 3 = .bool true := hC 3 (by simp)
      have e4 : vs 4 = .bool true := hC 4 (by simp)
      have e9 : vs 9 = .int .i64 (cmpQ a (((a.floor : Int) : Rat) + (Rat.divInt (1) (1)))) := hC 9 (by simp)
      have e10 : vs 10 = .bool true := hC 10 (by simp)
      have e11 : vs 11 = .bool true := hC 11 (by simp)
      have e12 : vs 12 = .bool true := hC 12 (by simp)
      have e13 : vs 13 = .bool true := hC 13 (by simp)
      have e14 : vs 14 = .bool true := hC 14 (by simp)
      have e15 : vs 15 = .bool true := hC 15 (by simp)
      have E : Fr w [(b56_3, 4, Fq.pair ((a.floor : Int) : Rat).num (((a.floor : Int) : Rat).den : Int)), (b6_6, 4, Fq.pair a.num (a.den : Int)), (b6_7, 4, Fq.pair b.num (b.den : Int)), (b6_8, 4, Fq.pair c.num (c.den : Int)), (b3, 4, Fq.raw2 n3 a3 k3 c3 xs3 m3 r3 l3 q3 ys3), (b2, 4, Fq.raw2 n2 a2 k2 c2 xs2 m2 r2 l2 q2 ys2), (b1, 4, Fq.raw2 n1 a1 k1 c1 xs1 m1 r1 l1 q1 ys1)] w59 := E59
      rw [lay_all hL]
      simp only [putAll, dstOf, List.length_cons, List.length_nil, Nat.zero_add, Nat.reduceAdd, List.getElem?_toArray, List.getElem?_cons_zero, List.getElem?_cons_succ, Option.bind_some, Act.put, List.setIfInBounds_toArray, List.set_cons_succ, List.set_cons_zero]
      rw [e2, e3, e4, e9, e10, e11, e12, e13, e14, e15]
      generalize vs 0 = u59_0
      generalize vs 1 = u59_1
      generalize vs 5 = u59_5
      generalize vs 6 = u59_6
      generalize vs 7 = u59_7
      generalize vs 8 = u59_8
      clear e2 e3 e4 e9 e10 e11 e12 e13 e14 e15 hC hn E59 hL vs L nb
      clear TF1 TF2
      clear B8 B48 B49 B51 B52 B54 B55 B57 B58 Ba Bb Bc
      go_wp2
      refine bodyPost_ret (v := .bool true) ?_ rfl ⟨rfl, E.below⟩
      simp [results, Try.results4, go_sem]
    · have TP := hidd (mt cmpIqgt.1 hc0)
      clear hc0
      go_upto_region 10 with (fail)
      refine region_fr (C := [Fq.pair c.num (c.den : Int), Fq.is (.int .i64 (cmpI c.num 0)), Fq.is (.bool false), Fq.is (.bool false), Fq.is (undef), Fq.is (undef), Fq.is (undef), Fq.is (undef), Fq.is (undef), Fq.is (undef), Fq.is (undef), Fq.is (undef), Fq.is (undef), Fq.is (.bool false)]) (ks := [none, none, none, none, none, none]) (new := []) E rfl (by kernel_rfl) rfl rfl (fun hp => ⟨?_, ?_, ?_, ?_, ?_, ?_, ?_, ?_, ?_, ?_, ?_, ?_, ?_, ?_, trivial⟩) ?_
      · exact q_loadRat hp (free_of rfl) trivial (List.mem_iff_getElem?.2 ⟨2, rfl⟩) (.inl rfl) rfl (sq_out rfl rfl (fun _ _ => rfl)) (fun us w hl h => h)
      · exact q_call1 (F := (Fq.pair c.num (c.den : Int)).P) hp (free_of rfl) trivial (enq_Q_Sign) (sq_in 0 rfl rfl (by simp) rfl (fun v w h => h)) (fun v w h => exSignQ h)
      · exact q_one (F := fun v _ => v = .int .i64 (cmpI c.num 0)) hp (free_of rfl) trivial (sq_in 1 rfl rfl (by simp) rfl (fun v w h => h)) (fun ρ w hc h => ⟨.bool false, by simp [execOp, go_sem, h, hc, TP.out], rfl⟩)
      · exact q_move hp (free_of rfl) trivial (sq_in 2 rfl rfl (by simp) rfl (fun v w h => h))
      · exact q_skip hp (free_of rfl) rfl (gq_some rfl rfl (by simp) rfl (fun v w h => h)) (fun _ => rfl)
      · exact q_skip hp (free_of rfl) rfl (gq_some rfl rfl (by simp) rfl (fun v w h => h)) (fun _ => rfl)
      · exact q_skip hp (free_of rfl) rfl (gq_some rfl rfl (by simp) rfl (fun v w h => h)) (fun _ => rfl)
      · exact q_skip hp (free_of rfl) rfl (gq_some rfl rfl (by simp) rfl (fun v w h => h)) (fun _ => rfl)
      · exact q_skip hp (free_of rfl) rfl (gq_some rfl rfl (by simp) rfl (fun v w h => h)) (fun _ => rfl)
      · exact q_skip hp (free_of rfl) rfl (gq_some rfl rfl (by simp) rfl (fun v w h => h)) (fun _ => rfl)
      · exact q_skip hp (free_of rfl) rfl (gq_some rfl rfl (by simp) rfl (fun v w h => h)) (fun _ => rfl)
      · exact q_skip hp (free_of rfl) rfl (gq_some rfl rfl (by simp) rfl (fun v w h => h)) (fun _ => rfl)
      · exact q_skip hp (free_of rfl) rfl (gq_some rfl rfl (by simp) rfl (fun v w h => h)) (fun _ => rfl)
      · exact q_two (F := fun v _ => v = .bool false) (G := fun v _ => v = .bool false) hp (free_of rfl) trivial (sq_in 3 rfl rfl (by simp) rfl (fun v w h => h)) (sq_const (fun _ => rfl)) (fun ρ w hc h h' => ⟨_, by simp [execOp, go_sem, h, h'], rfl⟩)
      intro L vs w60 nb hL hC hn E60
      have e1 : vs 1 = .int .i64 (cmpI c.num 0) := hC 1 (by simp)
      have e2 : vs 2 = .bool false := hC 2 (by simp)
      have e3 : vs 3 = .bool false := hC 3 (by simp)
      have e4 : vs 4 = undef := hC 4 (by simp)
      have e5 : vs 5 = undef := hC 5 (by simp)
      have e6 : vs 6 = undef := hC 6 (by simp)
      have e7 : vs 7 = undef := hC 7 (by simp)
      have e8 : vs 8 = undef := hC 8 (by simp)
      have e9 : vs 9 = undef := hC 9 (by simp)
      have e10 : vs 10 = undef := hC 10 (by simp)
      have e11 : vs 11 = undef := hC 11 (by simp)
      have e12 : vs 12 = undef := hC 12 (by simp)
      have e13 : vs 13 = .bool false := hC 13 (by simp)
      have E : Fr w [(b6_6, 4, Fq.pair a.num (a.den : Int)), (b6_7, 4, Fq.pair b.num (b.den : Int)), (b6_8, 4, Fq.pair c.num (c.den : Int)), (b3, 4, Fq.raw2 n3 a3 k3 c3 xs3 m3 r3 l3 q3 ys3), (b2, 4, Fq.raw2 n2 a2 k2 c2 xs2 m2 r2 l2 q2 ys2), (b1, 4, Fq.raw2 n1 a1 k1 c1 xs1 m1 r1 l1 q1 ys1)] w60 := E60
      rw [lay_all hL]
      simp only [putAll, dstOf, List.length_cons, List.length_nil, Nat.zero_add, Nat.reduceAdd, List.getElem?_toArray, List.getElem?_cons_zero, List.getElem?_cons_succ, Option.bind_some, Act.put, List.setIfInBounds_toArray, List.set_cons_succ, List.set_cons_zero]
      rw [e1, e2, e3, e4, e5, e6, e7, e8, e9, e10, e11, e12, e13]
      generalize vs 0 = u60_0
      clear e1 e2 e3 e4 e5 e6 e7 e8 e9 e10 e11 e12 e13 hC hn E60 hL vs L nb
      clear TP
      have TF1 := hidd (cmpQ_le.2 (Rat.floor_le a))
      have TF2 := hidd (cmpQ_lt.2 (floor_next a))
      go_upto_region 12 with (fail)
      have B61 : Hid (ab (a.floor) < pw 7) := Int.lt_of_lt_of_le (rb_floor Ba.out) (pw_le (by omega))
      have B62 : Hid (Rb ((a.floor : Int) : Rat) 7) := rb_int B61.out (by omega)
      refine region_fr (C := [Fq.pair a.num (a.den : Int), Fq.num a.floor, Fq.pair ((a.floor : Int) : Rat).num (((a.floor : Int) : Rat).den : Int), Fq.any, Fq.any]) (ks := [none, none, none, none, none, none]) (new := [⟨3, 4, 4, Fq.pair 0 0, Fq.pair ((a.floor : Int) : Rat).num (((a.floor : Int) : Rat).den : Int)⟩]) E rfl (by kernel_rfl) rfl rfl (fun hp => ⟨?_, ?_, ?_, ?_, ?_, trivial⟩) ?_
      · exact q_loadRat hp (free_of rfl) trivial (List.mem_iff_getElem?.2 ⟨0, rfl⟩) (.inl rfl) rfl (sq_out rfl rfl (fun _ _ => rfl)) (fun us w hl h => h)
      · exact q_call1 (F := (Fq.pair a.num (a.den : Int)).P) hp (free_of rfl) trivial (enq_Q_Floor) (sq_in 0 rfl rfl (by simp) rfl (fun v w h => h)) (fun v w h => exFloorQ h (rb_le Ba.out (by omega)))
      · exact q_call1 (F := (Fq.num a.floor).P) hp (free_of rfl) trivial (enq_S_Whole) (sq_in 1 rfl rfl (by simp) rfl (fun v w h => h)) (fun v w h => exSWhole h (Int.lt_of_lt_of_le B61.out (pw_le (by omega))))
      · exact q_allocRat hp (List.mem_iff_getElem?.2 ⟨0, rfl⟩) rfl rfl rfl (Nat.ne_of_beq_eq_false rfl) (fun _ _ => trivial) (old_ne rfl) (newk_ne rfl) (fun w => Pair.zero w)
      · exact q_storeNewRat hp (List.mem_iff_getElem?.2 ⟨0, rfl⟩) rfl rfl (own_ptr rfl rfl (by simp) rfl) (sq_in 2 rfl rfl (by simp) rfl (fun v w h => ratV_pair h)) (fun _ _ => trivial) (old_ne rfl) (newi_ne rfl)
      intro L vs w63 nb hL hC hn E63
      have e3 : vs 3 = .pointer (some ⟨nb 3, 0, none⟩) := hn _ (List.mem_iff_getElem?.2 ⟨0, rfl⟩)
      have E : Fr w [(nb 3, 4, Fq.pair ((a.floor : Int) : Rat).num (((a.floor : Int) : Rat).den : Int)), (b6_6, 4, Fq.pair a.num (a.den : Int)), (b6_7, 4, Fq.pair b.num (b.den : Int)), (b6_8, 4, Fq.pair c.num (c.den : Int)), (b3, 4, Fq.raw2 n3 a3 k3 c3 xs3 m3 r3 l3 q3 ys3), (b2, 4, Fq.raw2 n2 a2 k2 c2 xs2 m2 r2 l2 q2 ys2), (b1, 4, Fq.raw2 n1 a1 k1 c1 xs1 m1 r1 l1 q1 ys1)] w63 := E63
      rw [lay_all hL]
      simp only [putAll, dstOf, List.length_cons, List.length_nil, Nat.zero_add, Nat.reduceAdd, List.getElem?_toArray, List.getElem?_cons_zero, List.getElem?_cons_succ, Option.bind_some, Act.put, List.setIfInBounds_toArray, List.set_cons_succ, List.set_cons_zero]
      rw [e3]
      generalize nb 3 = b63_3 at E ⊢
      generalize vs 0 = u63_0
      generalize vs 1 = u63_1
      generalize vs 2 = u63_2
      clear e3 hC hn E63 hL vs L nb
      go_upto_region 13 with (fail)
      have B64 : Hid (Rb (Rat.divInt (1) (1)) 3) := rb_lit (by decide) (by decide) (by decide)
      have B65 : Hid (Rb (((a.floor : Int) : Rat) + (Rat.divInt (1) (1))) 11) := rb_le (rb_add B62.out B64.out) (by omega)
      refine region_fr (C := [Fq.pair ((a.floor : Int) : Rat).num (((a.floor : Int) : Rat).den : Int), Fq.pair a.num (a.den : Int), Fq.is (.int .i64 (cmpQ ((a.floor : Int) : Rat) a)), Fq.is (.bool true), Fq.is (.bool true), Fq.pair a.num (a.den : Int), Fq.pair ((a.floor : Int) : Rat).num (((a.floor : Int) : Rat).den : Int), Fq.pair (Rat.divInt (1) (1)).num ((Rat.divInt (1) (1)).den : Int), Fq.pair (((a.floor : Int) : Rat) + (Rat.divInt (1) (1))).num ((((a.floor : Int) : Rat) + (Rat.divInt (1) (1))).den : Int), Fq.is (.int .i64 (cmpQ a (((a.floor : Int) : Rat) + (Rat.divInt (1) (1))))), Fq.is (.bool true), Fq.is (.bool true), Fq.is (.bool true), Fq.is (.bool true), Fq.is (.bool true), Fq.is (.bool true)]) (ks := [none, none, none, none, none, none, none]) (new := []) E rfl (by kernel_rfl) rfl rfl (fun hp => ⟨?_, ?_, ?_, ?_, ?_, ?_, ?_, ?_, ?_, ?_, ?_, ?_, ?_, ?_, ?_, ?_, trivial⟩) ?_
      · exact q_loadRat hp (free_of rfl) trivial (List.mem_iff_getElem?.2 ⟨0, rfl⟩) (.inl rfl) rfl (sq_out rfl rfl (fun _ _ => rfl)) (fun us w hl h => h)
      · exact q_loadRat hp (free_of rfl) trivial (List.mem_iff_getElem?.2 ⟨1, rfl⟩) (.inl rfl) rfl (sq_out rfl rfl (fun _ _ => rfl)) (fun us w hl h => h)
      · exact q_call2 (F := (Fq.pair ((a.floor : Int) : Rat).num (((a.floor : Int) : Rat).den : Int)).P) (G := (Fq.pair a.num (a.den : Int)).P) hp (free_of rfl) trivial (enq_Q_Cmp) (sq_in 0 rfl rfl (by simp) rfl (fun v w h => h)) (sq_in 1 rfl rfl (by simp) rfl (fun v w h => h)) (fun v v' w h h' => exCmpQ h h' (rb_le B62.out (by omega)) (rb_le Ba.out (by omega)))
      · exact q_one (F := fun v _ => v = .int .i64 (cmpQ ((a.floor : Int) : Rat) a)) hp (free_of rfl) trivial (sq_in 2 rfl rfl (by simp) rfl (fun v w h => h)) (fun ρ w hc h => ⟨.bool true, by simp [execOp, go_sem, h, hc, TF1.out], rfl⟩)
      · exact q_move hp (free_of rfl) trivial (sq_in 3 rfl rfl (by simp) rfl (fun v w h => h))
      · exact q_loadRat hp (free_of rfl) (gq_some rfl rfl (by simp) rfl (fun v w h => h)) (List.mem_iff_getElem?.2 ⟨1, rfl⟩) (.inl rfl) rfl (sq_out rfl rfl (fun _ _ => rfl)) (fun us w hl h => h)
      · exact q_loadRat hp (free_of rfl) (gq_some rfl rfl (by simp) rfl (fun v w h => h)) (List.mem_iff_getElem?.2 ⟨0, rfl⟩) (.inl rfl) rfl (sq_out rfl rfl (fun _ _ => rfl)) (fun us w hl h => h)
      · exact q_call2 (F := (Fq.is (.int .i64 1)).P) (G := (Fq.is (.int .i64 1)).P) hp (free_of rfl) (gq_some rfl rfl (by simp) rfl (fun v w h => h)) (enq_S_Of) (sq_const (fun _ => rfl)) (sq_const (fun _ => rfl)) (fun v v' w h h' => (by subst h; subst h'; exact exSOf (n := 1) (d := 1) (by decide) (of_lit (by decide)) (of_lit (by decide))))
      · exact q_call2 (F := (Fq.pair ((a.floor : Int) : Rat).num (((a.floor : Int) : Rat).den : Int)).P) (G := (Fq.pair (Rat.divInt (1) (1)).num ((Rat.divInt (1) (1)).den : Int)).P) hp (free_of rfl) (gq_some rfl rfl (by simp) rfl (fun v w h => h)) (enq_Q_Add) (sq_in 6 rfl rfl (by simp) rfl (fun v w h => h)) (sq_in 7 rfl rfl (by simp) rfl (fun v w h => h)) (fun v v' w h h' => exAddQ h h' (rb_le B62.out (by omega)) (rb_le B64.out (by omega)))
      · exact q_call2 (F := (Fq.pair a.num (a.den : Int)).P) (G := (Fq.pair (((a.floor : Int) : Rat) + (Rat.divInt (1) (1))).num ((((a.floor : Int) : Rat) + (Rat.divInt (1) (1))).den : Int)).P) hp (free_of rfl) (gq_some rfl rfl (by simp) rfl (fun v w h => h)) (enq_Q_Cmp) (sq_in 5 rfl rfl (by simp) rfl (fun v w h => h)) (sq_in 8 rfl rfl (by simp) rfl (fun v w h => h)) (fun v v' w h h' => exCmpQ h h' (rb_le Ba.out (by omega)) (rb_le B65.out (by omega)))
      · exact q_one (F := fun v _ => v = .int .i64 (cmpQ a (((a.floor : Int) : Rat) + (Rat.divInt (1) (1))))) hp (free_of rfl) (gq_some rfl rfl (by simp) rfl (fun v w h => h)) (sq_in 9 rfl rfl (by simp) rfl (fun v w h => h)) (fun ρ w hc h => ⟨.bool true, by simp [execOp, go_sem, h, hc, TF2.out], rfl⟩)
      · exact q_two (F := fun v _ => v = .bool true) (G := fun v _ => v = .bool true) hp (free_of rfl) trivial (sq_in 4 rfl rfl (by simp) rfl (fun v w h => h)) (sq_in 10 rfl rfl (by simp) rfl (fun v w h => h)) (fun ρ w hc h h' => ⟨_, by simp [execOp, go_sem, h, h'], rfl⟩)
      · exact q_move hp (free_of rfl) trivial (sq_in 11 rfl rfl (by simp) rfl (fun v w h => h))
      · exact q_move hp (free_of rfl) (gq_some rfl rfl (by simp) rfl (fun v w h => h)) (sq_out rfl rfl (fun _ _ => rfl))
      · exact q_two (F := fun v _ => v = .bool true) (G := fun v _ => v = .bool true) hp (free_of rfl) trivial (sq_in 12 rfl rfl (by simp) rfl (fun v w h => h)) (sq_in 13 rfl rfl (by simp) rfl (fun v w h => h)) (fun ρ w hc h h' => ⟨_, by simp [execOp, go_sem, h, h'], rfl⟩)
      · exact q_assign hp (free_of rfl) trivial (sq_in 14 rfl rfl (by simp) rfl (fun v w h => h))
      intro L vs w66 nb hL hC hn E66
      have e2 : vs 2 = .int .i64 (cmpQ ((a.floor : Int) : Rat) a) := hC 2 (by simp)
      have e3 : vs 3 = .bool true := hC 3 (by simp)
      have e4 : vs 4 = .bool true := hC 4 (by simp)
      have e9 : vs 9 = .int .i64 (cmpQ a (((a.floor : Int) : Rat) + (Rat.divInt (1) (1)))) := hC 9 (by simp)
      have e10 : vs 10 = .bool true := hC 10 (by simp)
      have e11 : vs 11 = .bool true := hC 11 (by simp)
      have e12 : vs 12 = .bool true := hC 12 (by simp)
      have e13 : vs 13 = .bool true := hC 13 (by simp)
      have e14 : vs 14 = .bool true := hC 14 (by simp)
      have e15 : vs 15 = .bool true := hC 15 (by simp)
      have E : Fr w [(b63_3, 4, Fq.pair ((a.floor : Int) : Rat).num (((a.floor : Int) : Rat).den : Int)), (b6_6, 4, Fq.pair a.num (a.den : Int)), (b6_7, 4, Fq.pair b.num (b.den : Int)), (b6_8, 4, Fq.pair c.num (c.den : Int)), (b3, 4, Fq.raw2 n3 a3 k3 c3 xs3 m3 r3 l3 q3 ys3), (b2, 4, Fq.raw2 n2 a2 k2 c2 xs2 m2 r2 l2 q2 ys2), (b1, 4, Fq.raw2 n1 a1 k1 c1 xs1 m1 r1 l1 q1 ys1)] w66 := E66
      rw [lay_all hL]
      simp only [putAll, dstOf, List.length_cons, List.length_nil, Nat.zero_add, Nat.reduceAdd, List.getElem?_toArray, List.getElem?_cons_zero, List.getElem?_cons_succ, Option.bind_some, Act.put, List.setIfInBounds_toArray, List.set_cons_succ, List.set_cons_zero]
      rw [e2, e3, e4, e9, e10, e11, e12, e13, e14, e15]
      generalize vs 0 = u66_0
      generalize vs 1 = u66_1
      generalize vs 5 = u66_5
      generalize vs 6 = u66_6
      generalize vs 7 = u66_7
      generalize vs 8 = u66_8
      clear e2 e3 e4 e9 e10 e11 e12 e13 e14 e15 hC hn E66 hL vs L nb
      clear TF1 TF2
      clear B8 B48 B49 B61 B62 B64 B65 Ba Bb Bc
      go_wp2
      refine bodyPost_ret (v := .bool true) ?_ rfl ⟨rfl, E.below⟩
      simp [results, Try.results4, go_sem]

end Go.Proofs.Ytlehjhlihahjhaa
