/- Yk, Yr, Yp, Ys. -/
import Derived.Test.YtlehjhlihahjhaaBv5
/- Walk of the law on the field of fractions. -/
namespace Go.Proofs.Ytlehjhlihahjhaa
open Go Go.RowKit

theorem enq_K_examples (args : Array Value) (w : World) : (callFunc 8 args).run Try.prog w = .ok (.enter 8 args) w := enter_of Try.func8 (by kernel_rfl) rfl args w

section
variable {os : List Oper} {Q : Exit → Act → World → Prop} {a : Act} {p : Pq} {B B0 : Nat} {w0 : World}
variable {i s : Nat} {d : Option Tmp} {ty : TypeId} {ps : String} {af : Array Edge} {gd : Option (Nat × Bool)}
/-- Two signs and words, loaded out of their box. -/
theorem q_loadRaw2 {o : Ob} {x : Operand} (hp : p.Ok B B0) (hF : p.Free i) (hg : GdQ os a p B B0 w0 af gd) (ho : o ∈ p.old) (hk : o.F1 = o.F0 ∨ leadsB os 9 o.k i = true) (hm : o.m = 4)
    (hx : SrcQ os a p B B0 w0 af x fun u _ => u = .pointer (some ⟨o.b, 0, none⟩)) (hC : ∀ (us : List Value) (w : World), us.length = o.m → o.F0.P (.agg us.toArray) w → (p.c i).P (.agg us.toArray) w) :
    StepQ os Q a p B B0 w0 i { dst := d, op := .load 26 x, type := ty, pos := ps, after := af, guard := gd } := by
  refine stq_val hp hF hg fun L vs w hG hL hc hd => ?_
  obtain ⟨us, hl, h0, hat, ht, hP⟩ := box_now ho hk hG hL hc
  have e := hx L vs w hG hd
  refine ⟨_, ?_, hC us w hl hP⟩
  rw [hm] at hl
  match us, hl, hat with
  | [p, q, r, s], _, hat =>
    have c0 := (hat 0 (by simp)).1
    have c1 := (hat 1 (by simp)).1
    have c2 := (hat 2 (by simp)).1
    have c3 := (hat 3 (by simp)).1
    simp at c0 c1 c2 c3
    generalize (lay os.toArray L vs os.toArray.size a).eval = ρ at e
    simp [execOp, go_sem, e, c0, c1, c2, c3]
end

set_option maxRecDepth 100000 in
set_option maxHeartbeats 4000000 in
theorem RationalField_any (w : World) (n1 : Bool) (a1 : Option Addr) (k1 c1 : Nat) (xs1 : List Int) (m1 : Bool) (r1 : Option Addr) (l1 q1 : Nat) (ys1 : List Int) (h1 : Sl w a1 k1 c1 xs1) (g1 : Sl w r1 l1 q1 ys1) (hk1 : k1 ≤ 9223372036854775807) (hl1 : l1 ≤ 9223372036854775807) (n2 : Bool) (a2 : Option Addr) (k2 c2 : Nat) (xs2 : List Int) (m2 : Bool) (r2 : Option Addr) (l2 q2 : Nat) (ys2 : List Int) (h2 : Sl w a2 k2 c2 xs2) (g2 : Sl w r2 l2 q2 ys2) (hk2 : k2 ≤ 9223372036854775807) (hl2 : l2 ≤ 9223372036854775807) (n3 : Bool) (a3 : Option Addr) (k3 c3 : Nat) (xs3 : List Int) (m3 : Bool) (r3 : Option Addr) (l3 q3 : Nat) (ys3 : List Int) (h3 : Sl w a3 k3 c3 xs3) (g3 : Sl w r3 l3 q3 ys3) (hk3 : k3 ≤ 9223372036854775807) (hl3 : l3 ≤ 9223372036854775807) :
    Calls Try.prog 3 #[.agg #[.bool n1, .slice a1 k1 c1, .bool m1, .slice r1 l1 q1], .agg #[.bool n2, .slice a2 k2 c2, .bool m2, .slice r2 l2 q2], .agg #[.bool n3, .slice a3 k3 c3, .bool m3, .slice r3 l3 q3]] w fun e w' => e = .returned (.bool true) ∧ Below w.heap.size w w' := by
  obtain ⟨a, ha⟩ : ∃ a, a = madeQ n1 xs1 ys1 m1 6 := ⟨_, rfl⟩
  have Ba : Hid (Rb a 6) := by rw [ha]; exact made_rb h1.digs g1.digs (by omega)
  have Ha := hidd ha
  have K1 := hidd hk1
  have L1 := hidd hl1
  clear ha hk1 hl1
  obtain ⟨b, hb⟩ : ∃ b, b = madeQ n2 xs2 ys2 m2 6 := ⟨_, rfl⟩
  have Bb : Hid (Rb b 6) := by rw [hb]; exact made_rb h2.digs g2.digs (by omega)
  have Hb := hidd hb
  have K2 := hidd hk2
  have L2 := hidd hl2
  clear hb hk2 hl2
  obtain ⟨c, hc⟩ : ∃ c, c = madeQ n3 xs3 ys3 m3 6 := ⟨_, rfl⟩
  have Bc : Hid (Rb c 6) := by rw [hc]; exact made_rb h3.digs g3.digs (by omega)
  have Hc := hidd hc
  have K3 := hidd hk3
  have L3 := hidd hl3
  clear hc hk3 hl3
  obtain ⟨w1, b1, hw1, hb1, hs1, E⟩ := fr_start w (F := Fq.raw2 n1 a1 k1 c1 xs1 m1 r1 l1 q1 ys1) (us := [.bool n1, .slice a1 k1 c1, .bool m1, .slice r1 l1 q1]) 26 rfl (by simp) (tame_rat _ _ _ _ _ _ _ _) (show (Fq.raw2 n1 a1 k1 c1 xs1 m1 r1 l1 q1 ys1).P _ w from ⟨rfl, h1, g1⟩)
  obtain ⟨w2, b2, hw2, hb2, hs2, E⟩ := fr_more E hs1 (F := Fq.raw2 n2 a2 k2 c2 xs2 m2 r2 l2 q2 ys2) (us := [.bool n2, .slice a2 k2 c2, .bool m2, .slice r2 l2 q2]) 26 rfl (by simp) (tame_rat _ _ _ _ _ _ _ _) ((Fq.raw2 n2 a2 k2 c2 xs2 m2 r2 l2 q2 ys2).mono (show (Fq.raw2 n2 a2 k2 c2 xs2 m2 r2 l2 q2 ys2).P _ w from ⟨rfl, h2, g2⟩) E.below)
  obtain ⟨w3, b3, hw3, hb3, hs3, E⟩ := fr_more E hs2 (F := Fq.raw2 n3 a3 k3 c3 xs3 m3 r3 l3 q3 ys3) (us := [.bool n3, .slice a3 k3 c3, .bool m3, .slice r3 l3 q3]) 26 rfl (by simp) (tame_rat _ _ _ _ _ _ _ _) ((Fq.raw2 n3 a3 k3 c3 xs3 m3 r3 l3 q3 ys3).mono (show (Fq.raw2 n3 a3 k3 c3 xs3 m3 r3 l3 q3 ys3).P _ w from ⟨rfl, h3, g3⟩) E.below)
  go_enter Try.func3, Try.ntmps3
  go_upto_region 1 with (fail)
  rw [← hw1]
  rw [← hw2]
  rw [← hw3]
  rw [← hb3]
  rw [← hb2]
  rw [← hb1]
  clear hw1 hw2 hw3 hb1 hb2 hb3 hs3 hs1 hs2
  refine region_fr (C := [Fq.is (.bool true), Fq.is (.bool true)]) (ks := [none, none, none]) (new := []) E rfl (by kernel_rfl) rfl rfl (fun hp => ⟨?_, ?_, trivial⟩) ?_
  · exact q_call0 hp (free_of rfl) trivial (enq_K_examples) (fun w => exExamples w)
  · exact q_assign hp (free_of rfl) trivial (sq_in 0 rfl rfl (by simp) rfl (fun v w h => h))
  intro L vs w4 nb hL hC hn E4
  have e0 : vs 0 = .bool true := hC 0 (by simp)
  have e1 : vs 1 = .bool true := hC 1 (by simp)
  have E : Fr w [(b3, 4, Fq.raw2 n3 a3 k3 c3 xs3 m3 r3 l3 q3 ys3), (b2, 4, Fq.raw2 n2 a2 k2 c2 xs2 m2 r2 l2 q2 ys2), (b1, 4, Fq.raw2 n1 a1 k1 c1 xs1 m1 r1 l1 q1 ys1)] w4 := E4
  rw [lay_all hL]
  simp only [putAll, dstOf, List.length_cons, List.length_nil, Nat.zero_add, Nat.reduceAdd, List.getElem?_toArray, List.getElem?_cons_zero, List.getElem?_cons_succ, Option.bind_some, Act.put, List.setIfInBounds_toArray, List.set_cons_succ, List.set_cons_zero]
  rw [e0, e1]
  clear e0 e1 hC hn E4 hL vs L nb
  go_upto_region 2 with (fail)
  refine region_fr (C := [Fq.is (.bool true), Fq.is (.bool false)]) (ks := [none, none, none]) (new := []) E rfl (by kernel_rfl) rfl rfl (fun hp => ⟨?_, ?_, trivial⟩) ?_
  · exact q_move hp (free_of rfl) trivial (sq_out rfl rfl (fun _ _ => rfl))
  · exact q_one (F := fun v _ => v = .bool true) hp (free_of rfl) trivial (sq_in 0 rfl rfl (by simp) rfl (fun v w h => h)) (fun ρ w _ h => ⟨.bool false, by simp [execOp, go_sem, h], rfl⟩)
  intro L vs w5 nb hL hC hn E5
  have e0 : vs 0 = .bool true := hC 0 (by simp)
  have e1 : vs 1 = .bool false := hC 1 (by simp)
  have E : Fr w [(b3, 4, Fq.raw2 n3 a3 k3 c3 xs3 m3 r3 l3 q3 ys3), (b2, 4, Fq.raw2 n2 a2 k2 c2 xs2 m2 r2 l2 q2 ys2), (b1, 4, Fq.raw2 n1 a1 k1 c1 xs1 m1 r1 l1 q1 ys1)] w5 := E5
  rw [lay_all hL]
  simp only [putAll, dstOf, List.length_cons, List.length_nil, Nat.zero_add, Nat.reduceAdd, List.getElem?_toArray, List.getElem?_cons_zero, List.getElem?_cons_succ, Option.bind_some, Act.put, List.setIfInBounds_toArray, List.set_cons_succ, List.set_cons_zero]
  rw [e0, e1]
  clear e0 e1 hC hn E5 hL vs L nb
  go_upto_region 4 with (fail)
  refine region_fr (C := [Fq.raw2 n1 a1 k1 c1 xs1 m1 r1 l1 q1 ys1, Fq.pair a.num (a.den : Int), Fq.raw2 n2 a2 k2 c2 xs2 m2 r2 l2 q2 ys2, Fq.pair b.num (b.den : Int), Fq.raw2 n3 a3 k3 c3 xs3 m3 r3 l3 q3 ys3, Fq.pair c.num (c.den : Int), Fq.any, Fq.any, Fq.any, Fq.any, Fq.any, Fq.any]) (ks := [none, none, none]) (new := [⟨6, 9, 4, Fq.pair 0 0, Fq.pair a.num (a.den : Int), none⟩, ⟨7, 10, 4, Fq.pair 0 0, Fq.pair b.num (b.den : Int), none⟩, ⟨8, 11, 4, Fq.pair 0 0, Fq.pair c.num (c.den : Int), none⟩]) E rfl (by kernel_rfl) rfl rfl (fun hp => ⟨?_, ?_, ?_, ?_, ?_, ?_, ?_, ?_, ?_, ?_, ?_, ?_, trivial⟩) ?_
  · exact q_loadRaw2 hp (free_of rfl) trivial (List.mem_iff_getElem?.2 ⟨2, rfl⟩) (.inl rfl) rfl (sq_out rfl rfl (fun _ _ => rfl)) (fun us w hl h => h)
  · exact q_call2 (F := (Fq.raw2 n1 a1 k1 c1 xs1 m1 r1 l1 q1 ys1).P) (G := (Fq.is (.int .i64 6)).P) hp (free_of rfl) trivial (enq_S_Made) (sq_in 0 rfl rfl (by simp) rfl (fun v w h => h)) (sq_const (fun _ => rfl)) (fun v v' w h h' => (by obtain ⟨rfl, s1, s2⟩ := h; subst h'; rw [Ha.out]; exact exSMade (j := 6) s1 s2 K1.out L1.out (by omega)))
  · exact q_loadRaw2 hp (free_of rfl) trivial (List.mem_iff_getElem?.2 ⟨1, rfl⟩) (.inl rfl) rfl (sq_out rfl rfl (fun _ _ => rfl)) (fun us w hl h => h)
  · exact q_call2 (F := (Fq.raw2 n2 a2 k2 c2 xs2 m2 r2 l2 q2 ys2).P) (G := (Fq.is (.int .i64 6)).P) hp (free_of rfl) trivial (enq_S_Made) (sq_in 2 rfl rfl (by simp) rfl (fun v w h => h)) (sq_const (fun _ => rfl)) (fun v v' w h h' => (by obtain ⟨rfl, s1, s2⟩ := h; subst h'; rw [Hb.out]; exact exSMade (j := 6) s1 s2 K2.out L2.out (by omega)))
  · exact q_loadRaw2 hp (free_of rfl) trivial (List.mem_iff_getElem?.2 ⟨0, rfl⟩) (.inl rfl) rfl (sq_out rfl rfl (fun _ _ => rfl)) (fun us w hl h => h)
  · exact q_call2 (F := (Fq.raw2 n3 a3 k3 c3 xs3 m3 r3 l3 q3 ys3).P) (G := (Fq.is (.int .i64 6)).P) hp (free_of rfl) trivial (enq_S_Made) (sq_in 4 rfl rfl (by simp) rfl (fun v w h => h)) (sq_const (fun _ => rfl)) (fun v v' w h h' => (by obtain ⟨rfl, s1, s2⟩ := h; subst h'; rw [Hc.out]; exact exSMade (j := 6) s1 s2 K3.out L3.out (by omega)))
  · exact q_allocRat hp (List.mem_iff_getElem?.2 ⟨0, rfl⟩) rfl rfl rfl rfl (Nat.ne_of_beq_eq_false rfl) (fun _ _ => trivial) (old_ne rfl) (newk_ne rfl) (fun w => Pair.zero w)
  · exact q_allocRat hp (List.mem_iff_getElem?.2 ⟨1, rfl⟩) rfl rfl rfl rfl (Nat.ne_of_beq_eq_false rfl) (fun _ _ => trivial) (old_ne rfl) (newk_ne rfl) (fun w => Pair.zero w)
  · exact q_allocRat hp (List.mem_iff_getElem?.2 ⟨2, rfl⟩) rfl rfl rfl rfl (Nat.ne_of_beq_eq_false rfl) (fun _ _ => trivial) (old_ne rfl) (newk_ne rfl) (fun w => Pair.zero w)
  · exact q_storeNewRat hp (List.mem_iff_getElem?.2 ⟨0, rfl⟩) rfl rfl rfl (own_ptr rfl rfl (by simp) rfl) (sq_in 1 rfl rfl (by simp) rfl (fun v w h => ratV_pair h)) (fun _ _ => trivial) (old_ne rfl) (newi_ne rfl)
  · exact q_storeNewRat hp (List.mem_iff_getElem?.2 ⟨1, rfl⟩) rfl rfl rfl (own_ptr rfl rfl (by simp) rfl) (sq_in 3 rfl rfl (by simp) rfl (fun v w h => ratV_pair h)) (fun _ _ => trivial) (old_ne rfl) (newi_ne rfl)
  · exact q_storeNewRat hp (List.mem_iff_getElem?.2 ⟨2, rfl⟩) rfl rfl rfl (own_ptr rfl rfl (by simp) rfl) (sq_in 5 rfl rfl (by simp) rfl (fun v w h => ratV_pair h)) (fun _ _ => trivial) (old_ne rfl) (newi_ne rfl)
  intro L vs w6 nb hL hC hn E6
  have e6 : vs 6 = .pointer (some ⟨nb 6, 0, none⟩) := hn _ (List.mem_iff_getElem?.2 ⟨0, rfl⟩)
  have e7 : vs 7 = .pointer (some ⟨nb 7, 0, none⟩) := hn _ (List.mem_iff_getElem?.2 ⟨1, rfl⟩)
  have e8 : vs 8 = .pointer (some ⟨nb 8, 0, none⟩) := hn _ (List.mem_iff_getElem?.2 ⟨2, rfl⟩)
  have E : Fr w [(nb 6, 4, Fq.pair a.num (a.den : Int)), (nb 7, 4, Fq.pair b.num (b.den : Int)), (nb 8, 4, Fq.pair c.num (c.den : Int)), (b3, 4, Fq.raw2 n3 a3 k3 c3 xs3 m3 r3 l3 q3 ys3), (b2, 4, Fq.raw2 n2 a2 k2 c2 xs2 m2 r2 l2 q2 ys2), (b1, 4, Fq.raw2 n1 a1 k1 c1 xs1 m1 r1 l1 q1 ys1)] w6 := E6
  rw [lay_all hL]
  simp only [putAll, dstOf, List.length_cons, List.length_nil, Nat.zero_add, Nat.reduceAdd, List.getElem?_toArray, List.getElem?_cons_zero, List.getElem?_cons_succ, Option.bind_some, Act.put, List.setIfInBounds_toArray, List.set_cons_succ, List.set_cons_zero]
  rw [e6, e7, e8]
  generalize nb 6 = b6_6 at E ⊢
  generalize nb 7 = b6_7 at E ⊢
  generalize nb 8 = b6_8 at E ⊢
  generalize vs 0 = u6_0
  generalize vs 1 = u6_1
  generalize vs 2 = u6_2
  generalize vs 3 = u6_3
  generalize vs 4 = u6_4
  generalize vs 5 = u6_5
  clear e6 e7 e8 hC hn E6 hL vs L nb
  go_upto_region 5 with (fail)
  have B7 : Hid (Rb (a + b) 13) := rb_le (rb_add Ba.out Bb.out) (by omega)
  have B8 : Hid (Rb (a * b) 12) := rb_le (rb_mul Ba.out Bb.out) (by omega)
  refine region_fr (C := [Fq.pair a.num (a.den : Int), Fq.pair b.num (b.den : Int), Fq.pair (a + b).num ((a + b).den : Int), Fq.pair a.num (a.den : Int), Fq.pair b.num (b.den : Int), Fq.pair (a * b).num ((a * b).den : Int), Fq.any, Fq.any, Fq.any, Fq.any]) (ks := [none, none, none, none, none, none]) (new := [⟨6, 8, 4, Fq.pair 0 0, Fq.pair (a + b).num ((a + b).den : Int), none⟩, ⟨7, 9, 4, Fq.pair 0 0, Fq.pair (a * b).num ((a * b).den : Int), none⟩]) E rfl (by kernel_rfl) rfl rfl (fun hp => ⟨?_, ?_, ?_, ?_, ?_, ?_, ?_, ?_, ?_, ?_, trivial⟩) ?_
  · exact q_loadRat hp (free_of rfl) trivial (List.mem_iff_getElem?.2 ⟨0, rfl⟩) (.inl rfl) rfl (sq_out rfl rfl (fun _ _ => rfl)) (fun us w hl h => h)
  · exact q_loadRat hp (free_of rfl) trivial (List.mem_iff_getElem?.2 ⟨1, rfl⟩) (.inl rfl) rfl (sq_out rfl rfl (fun _ _ => rfl)) (fun us w hl h => h)
  · exact q_call2 (F := (Fq.pair a.num (a.den : Int)).P) (G := (Fq.pair b.num (b.den : Int)).P) hp (free_of rfl) trivial (enq_Q_Add) (sq_in 0 rfl rfl (by simp) rfl (fun v w h => h)) (sq_in 1 rfl rfl (by simp) rfl (fun v w h => h)) (fun v v' w h h' => exAddQ h h' (rb_le Ba.out (by omega)) (rb_le Bb.out (by omega)))
  · exact q_loadRat hp (free_of rfl) trivial (List.mem_iff_getElem?.2 ⟨0, rfl⟩) (.inl rfl) rfl (sq_out rfl rfl (fun _ _ => rfl)) (fun us w hl h => h)
  · exact q_loadRat hp (free_of rfl) trivial (List.mem_iff_getElem?.2 ⟨1, rfl⟩) (.inl rfl) rfl (sq_out rfl rfl (fun _ _ => rfl)) (fun us w hl h => h)
  · exact q_call2 (F := (Fq.pair a.num (a.den : Int)).P) (G := (Fq.pair b.num (b.den : Int)).P) hp (free_of rfl) trivial (enq_Q_Mul) (sq_in 3 rfl rfl (by simp) rfl (fun v w h => h)) (sq_in 4 rfl rfl (by simp) rfl (fun v w h => h)) (fun v v' w h h' => exMulQ h h' (rb_le Ba.out (by omega)) (rb_le Bb.out (by omega)))
  · exact q_allocRat hp (List.mem_iff_getElem?.2 ⟨0, rfl⟩) rfl rfl rfl rfl (Nat.ne_of_beq_eq_false rfl) (fun _ _ => trivial) (old_ne rfl) (newk_ne rfl) (fun w => Pair.zero w)
  · exact q_allocRat hp (List.mem_iff_getElem?.2 ⟨1, rfl⟩) rfl rfl rfl rfl (Nat.ne_of_beq_eq_false rfl) (fun _ _ => trivial) (old_ne rfl) (newk_ne rfl) (fun w => Pair.zero w)
  · exact q_storeNewRat hp (List.mem_iff_getElem?.2 ⟨0, rfl⟩) rfl rfl rfl (own_ptr rfl rfl (by simp) rfl) (sq_in 2 rfl rfl (by simp) rfl (fun v w h => ratV_pair h)) (fun _ _ => trivial) (old_ne rfl) (newi_ne rfl)
  · exact q_storeNewRat hp (List.mem_iff_getElem?.2 ⟨1, rfl⟩) rfl rfl rfl (own_ptr rfl rfl (by simp) rfl) (sq_in 5 rfl rfl (by simp) rfl (fun v w h => ratV_pair h)) (fun _ _ => trivial) (old_ne rfl) (newi_ne rfl)
  intro L vs w9 nb hL hC hn E9
  have e6 : vs 6 = .pointer (some ⟨nb 6, 0, none⟩) := hn _ (List.mem_iff_getElem?.2 ⟨0, rfl⟩)
  have e7 : vs 7 = .pointer (some ⟨nb 7, 0, none⟩) := hn _ (List.mem_iff_getElem?.2 ⟨1, rfl⟩)
  have E : Fr w [(nb 6, 4, Fq.pair (a + b).num ((a + b).den : Int)), (nb 7, 4, Fq.pair (a * b).num ((a * b).den : Int)), (b6_6, 4, Fq.pair a.num (a.den : Int)), (b6_7, 4, Fq.pair b.num (b.den : Int)), (b6_8, 4, Fq.pair c.num (c.den : Int)), (b3, 4, Fq.raw2 n3 a3 k3 c3 xs3 m3 r3 l3 q3 ys3), (b2, 4, Fq.raw2 n2 a2 k2 c2 xs2 m2 r2 l2 q2 ys2), (b1, 4, Fq.raw2 n1 a1 k1 c1 xs1 m1 r1 l1 q1 ys1)] w9 := E9
  rw [lay_all hL]
  simp only [putAll, dstOf, List.length_cons, List.length_nil, Nat.zero_add, Nat.reduceAdd, List.getElem?_toArray, List.getElem?_cons_zero, List.getElem?_cons_succ, Option.bind_some, Act.put, List.setIfInBounds_toArray, List.set_cons_succ, List.set_cons_zero]
  rw [e6, e7]
  generalize nb 6 = b9_6 at E ⊢
  generalize nb 7 = b9_7 at E ⊢
  generalize vs 0 = u9_0
  generalize vs 1 = u9_1
  generalize vs 2 = u9_2
  generalize vs 3 = u9_3
  generalize vs 4 = u9_4
  generalize vs 5 = u9_5
  clear e6 e7 hC hn E9 hL vs L nb
  go_upto_region 6 with (fail)
  have B10 : Hid (Rb (b + a) 13) := rb_le (rb_add Bb.out Ba.out) (by omega)
  have B11 : Hid (Rb (b * a) 12) := rb_le (rb_mul Bb.out Ba.out) (by omega)
  have B12 : Hid (Rb ((a + b) - b) 20) := rb_le (rb_sub B7.out Bb.out) (by omega)
  refine region_fr (C := [Fq.pair (a + b).num ((a + b).den : Int), Fq.pair b.num (b.den : Int), Fq.pair a.num (a.den : Int), Fq.pair (b + a).num ((b + a).den : Int), Fq.is (.bool true), Fq.is (.bool false), Fq.is (.bool false), Fq.pair (a * b).num ((a * b).den : Int), Fq.pair b.num (b.den : Int), Fq.pair a.num (a.den : Int), Fq.pair (b * a).num ((b * a).den : Int), Fq.is (.bool true), Fq.is (.bool false), Fq.is (.bool false), Fq.is (.bool false), Fq.pair (a + b).num ((a + b).den : Int), Fq.pair b.num (b.den : Int), Fq.pair ((a + b) - b).num (((a + b) - b).den : Int), Fq.pair a.num (a.den : Int), Fq.is (.bool true), Fq.is (.bool false), Fq.is (.bool false)]) (ks := [none, none, none, none, none, none, none, none]) (new := []) E rfl (by kernel_rfl) rfl rfl (fun hp => ⟨?_, ?_, ?_, ?_, ?_, ?_, ?_, ?_, ?_, ?_, ?_, ?_, ?_, ?_, ?_, ?_, ?_, ?_, ?_, ?_, ?_, ?_, trivial⟩) ?_
  · exact q_loadRat hp (free_of rfl) trivial (List.mem_iff_getElem?.2 ⟨0, rfl⟩) (.inl rfl) rfl (sq_out rfl rfl (fun _ _ => rfl)) (fun us w hl h => h)
  · exact q_loadRat hp (free_of rfl) trivial (List.mem_iff_getElem?.2 ⟨3, rfl⟩) (.inl rfl) rfl (sq_out rfl rfl (fun _ _ => rfl)) (fun us w hl h => h)
  · exact q_loadRat hp (free_of rfl) trivial (List.mem_iff_getElem?.2 ⟨2, rfl⟩) (.inl rfl) rfl (sq_out rfl rfl (fun _ _ => rfl)) (fun us w hl h => h)
  · exact q_call2 (F := (Fq.pair b.num (b.den : Int)).P) (G := (Fq.pair a.num (a.den : Int)).P) hp (free_of rfl) trivial (enq_Q_Add) (sq_in 1 rfl rfl (by simp) rfl (fun v w h => h)) (sq_in 2 rfl rfl (by simp) rfl (fun v w h => h)) (fun v v' w h h' => exAddQ h h' (rb_le Bb.out (by omega)) (rb_le Ba.out (by omega)))
  · exact q_call2 (F := (Fq.pair (a + b).num ((a + b).den : Int)).P) (G := (Fq.pair (b + a).num ((b + a).den : Int)).P) hp (free_of rfl) trivial (enq_S_Same) (sq_in 0 rfl rfl (by simp) rfl (fun v w h => h)) (sq_in 3 rfl rfl (by simp) rfl (fun v w h => h)) (fun v v' w h h' => exSSameQ h h' (Rat.add_comm a b))
  · exact q_one (F := fun v _ => v = .bool true) hp (free_of rfl) trivial (sq_in 4 rfl rfl (by simp) rfl (fun v w h => h)) (fun ρ w _ h => ⟨.bool false, by simp [execOp, go_sem, h], rfl⟩)
  · exact q_move hp (free_of rfl) trivial (sq_in 5 rfl rfl (by simp) rfl (fun v w h => h))
  · exact q_loadRat hp (free_of rfl) (gq_some rfl rfl (by simp) rfl (fun v w h => h)) (List.mem_iff_getElem?.2 ⟨1, rfl⟩) (.inl rfl) rfl (sq_out rfl rfl (fun _ _ => rfl)) (fun us w hl h => h)
  · exact q_loadRat hp (free_of rfl) (gq_some rfl rfl (by simp) rfl (fun v w h => h)) (List.mem_iff_getElem?.2 ⟨3, rfl⟩) (.inl rfl) rfl (sq_out rfl rfl (fun _ _ => rfl)) (fun us w hl h => h)
  · exact q_loadRat hp (free_of rfl) (gq_some rfl rfl (by simp) rfl (fun v w h => h)) (List.mem_iff_getElem?.2 ⟨2, rfl⟩) (.inl rfl) rfl (sq_out rfl rfl (fun _ _ => rfl)) (fun us w hl h => h)
  · exact q_call2 (F := (Fq.pair b.num (b.den : Int)).P) (G := (Fq.pair a.num (a.den : Int)).P) hp (free_of rfl) (gq_some rfl rfl (by simp) rfl (fun v w h => h)) (enq_Q_Mul) (sq_in 8 rfl rfl (by simp) rfl (fun v w h => h)) (sq_in 9 rfl rfl (by simp) rfl (fun v w h => h)) (fun v v' w h h' => exMulQ h h' (rb_le Bb.out (by omega)) (rb_le Ba.out (by omega)))
  · exact q_call2 (F := (Fq.pair (a * b).num ((a * b).den : Int)).P) (G := (Fq.pair (b * a).num ((b * a).den : Int)).P) hp (free_of rfl) (gq_some rfl rfl (by simp) rfl (fun v w h => h)) (enq_S_Same) (sq_in 7 rfl rfl (by simp) rfl (fun v w h => h)) (sq_in 10 rfl rfl (by simp) rfl (fun v w h => h)) (fun v v' w h h' => exSSameQ h h' (Rat.mul_comm a b))
  · exact q_one (F := fun v _ => v = .bool true) hp (free_of rfl) (gq_some rfl rfl (by simp) rfl (fun v w h => h)) (sq_in 11 rfl rfl (by simp) rfl (fun v w h => h)) (fun ρ w _ h => ⟨.bool false, by simp [execOp, go_sem, h], rfl⟩)
  · exact q_two (F := fun v _ => v = .bool false) (G := fun v _ => v = .bool false) hp (free_of rfl) trivial (sq_in 6 rfl rfl (by simp) rfl (fun v w h => h)) (sq_in 12 rfl rfl (by simp) rfl (fun v w h => h)) (fun ρ w hc h h' => ⟨_, by simp [execOp, go_sem, h, h'], rfl⟩)
  · exact q_move hp (free_of rfl) trivial (sq_in 13 rfl rfl (by simp) rfl (fun v w h => h))
  · exact q_loadRat hp (free_of rfl) (gq_some rfl rfl (by simp) rfl (fun v w h => h)) (List.mem_iff_getElem?.2 ⟨0, rfl⟩) (.inl rfl) rfl (sq_out rfl rfl (fun _ _ => rfl)) (fun us w hl h => h)
  · exact q_loadRat hp (free_of rfl) (gq_some rfl rfl (by simp) rfl (fun v w h => h)) (List.mem_iff_getElem?.2 ⟨3, rfl⟩) (.inl rfl) rfl (sq_out rfl rfl (fun _ _ => rfl)) (fun us w hl h => h)
  · exact q_call2 (F := (Fq.pair (a + b).num ((a + b).den : Int)).P) (G := (Fq.pair b.num (b.den : Int)).P) hp (free_of rfl) (gq_some rfl rfl (by simp) rfl (fun v w h => h)) (enq_Q_Sub) (sq_in 15 rfl rfl (by simp) rfl (fun v w h => h)) (sq_in 16 rfl rfl (by simp) rfl (fun v w h => h)) (fun v v' w h h' => exSubQ h h' (rb_le B7.out (by omega)) (rb_le Bb.out (by omega)))
  · exact q_loadRat hp (free_of rfl) (gq_some rfl rfl (by simp) rfl (fun v w h => h)) (List.mem_iff_getElem?.2 ⟨2, rfl⟩) (.inl rfl) rfl (sq_out rfl rfl (fun _ _ => rfl)) (fun us w hl h => h)
  · exact q_call2 (F := (Fq.pair ((a + b) - b).num (((a + b) - b).den : Int)).P) (G := (Fq.pair a.num (a.den : Int)).P) hp (free_of rfl) (gq_some rfl rfl (by simp) rfl (fun v w h => h)) (enq_S_Same) (sq_in 17 rfl rfl (by simp) rfl (fun v w h => h)) (sq_in 18 rfl rfl (by simp) rfl (fun v w h => h)) (fun v v' w h h' => exSSameQ h h' Rat.add_sub_cancel)
  · exact q_one (F := fun v _ => v = .bool true) hp (free_of rfl) (gq_some rfl rfl (by simp) rfl (fun v w h => h)) (sq_in 19 rfl rfl (by simp) rfl (fun v w h => h)) (fun ρ w _ h => ⟨.bool false, by simp [execOp, go_sem, h], rfl⟩)
  · exact q_two (F := fun v _ => v = .bool false) (G := fun v _ => v = .bool false) hp (free_of rfl) trivial (sq_in 14 rfl rfl (by simp) rfl (fun v w h => h)) (sq_in 20 rfl rfl (by simp) rfl (fun v w h => h)) (fun ρ w hc h h' => ⟨_, by simp [execOp, go_sem, h, h'], rfl⟩)
  intro L vs w13 nb hL hC hn E13
  have e4 : vs 4 = .bool true := hC 4 (by simp)
  have e5 : vs 5 = .bool false := hC 5 (by simp)
  have e6 : vs 6 = .bool false := hC 6 (by simp)
  have e11 : vs 11 = .bool true := hC 11 (by simp)
  have e12 : vs 12 = .bool false := hC 12 (by simp)
  have e13 : vs 13 = .bool false := hC 13 (by simp)
  have e14 : vs 14 = .bool false := hC 14 (by simp)
  have e19 : vs 19 = .bool true := hC 19 (by simp)
  have e20 : vs 20 = .bool false := hC 20 (by simp)
  have e21 : vs 21 = .bool false := hC 21 (by simp)
  have E : Fr w [(b9_6, 4, Fq.pair (a + b).num ((a + b).den : Int)), (b9_7, 4, Fq.pair (a * b).num ((a * b).den : Int)), (b6_6, 4, Fq.pair a.num (a.den : Int)), (b6_7, 4, Fq.pair b.num (b.den : Int)), (b6_8, 4, Fq.pair c.num (c.den : Int)), (b3, 4, Fq.raw2 n3 a3 k3 c3 xs3 m3 r3 l3 q3 ys3), (b2, 4, Fq.raw2 n2 a2 k2 c2 xs2 m2 r2 l2 q2 ys2), (b1, 4, Fq.raw2 n1 a1 k1 c1 xs1 m1 r1 l1 q1 ys1)] w13 := E13
  rw [lay_all hL]
  simp only [putAll, dstOf, List.length_cons, List.length_nil, Nat.zero_add, Nat.reduceAdd, List.getElem?_toArray, List.getElem?_cons_zero, List.getElem?_cons_succ, Option.bind_some, Act.put, List.setIfInBounds_toArray, List.set_cons_succ, List.set_cons_zero]
  rw [e4, e5, e6, e11, e12, e13, e14, e19, e20, e21]
  generalize vs 0 = u13_0
  generalize vs 1 = u13_1
  generalize vs 2 = u13_2
  generalize vs 3 = u13_3
  generalize vs 7 = u13_7
  generalize vs 8 = u13_8
  generalize vs 9 = u13_9
  generalize vs 10 = u13_10
  generalize vs 15 = u13_15
  generalize vs 16 = u13_16
  generalize vs 17 = u13_17
  generalize vs 18 = u13_18
  clear e4 e5 e6 e11 e12 e13 e14 e19 e20 e21 hC hn E13 hL vs L nb
  go_upto_region 8 with (fail)
  have B14 : Hid (Rb ((a + b) + c) 20) := rb_le (rb_add B7.out Bc.out) (by omega)
  have B15 : Hid (Rb (b + c) 13) := rb_le (rb_add Bb.out Bc.out) (by omega)
  have B16 : Hid (Rb (a + (b + c)) 20) := rb_le (rb_add Ba.out B15.out) (by omega)
  have B17 : Hid (Rb ((a * b) * c) 18) := rb_le (rb_mul B8.out Bc.out) (by omega)
  have B18 : Hid (Rb (b * c) 12) := rb_le (rb_mul Bb.out Bc.out) (by omega)
  have B19 : Hid (Rb (a * (b * c)) 18) := rb_le (rb_mul Ba.out B18.out) (by omega)
  refine region_fr (C := [Fq.pair (a + b).num ((a + b).den : Int), Fq.pair c.num (c.den : Int), Fq.pair ((a + b) + c).num (((a + b) + c).den : Int), Fq.pair a.num (a.den : Int), Fq.pair b.num (b.den : Int), Fq.pair c.num (c.den : Int), Fq.pair (b + c).num ((b + c).den : Int), Fq.pair (a + (b + c)).num ((a + (b + c)).den : Int), Fq.is (.bool true), Fq.is (.bool false), Fq.is (.bool false), Fq.pair (a * b).num ((a * b).den : Int), Fq.pair c.num (c.den : Int), Fq.pair ((a * b) * c).num (((a * b) * c).den : Int), Fq.pair a.num (a.den : Int), Fq.pair b.num (b.den : Int), Fq.pair c.num (c.den : Int), Fq.pair (b * c).num ((b * c).den : Int), Fq.pair (a * (b * c)).num ((a * (b * c)).den : Int), Fq.is (.bool true), Fq.is (.bool false), Fq.is (.bool false)]) (ks := [none, none, none, none, none, none, none, none]) (new := []) E rfl (by kernel_rfl) rfl rfl (fun hp => ⟨?_, ?_, ?_, ?_, ?_, ?_, ?_, ?_, ?_, ?_, ?_, ?_, ?_, ?_, ?_, ?_, ?_, ?_, ?_, ?_, ?_, ?_, trivial⟩) ?_
  · exact q_loadRat hp (free_of rfl) trivial (List.mem_iff_getElem?.2 ⟨0, rfl⟩) (.inl rfl) rfl (sq_out rfl rfl (fun _ _ => rfl)) (fun us w hl h => h)
  · exact q_loadRat hp (free_of rfl) trivial (List.mem_iff_getElem?.2 ⟨4, rfl⟩) (.inl rfl) rfl (sq_out rfl rfl (fun _ _ => rfl)) (fun us w hl h => h)
  · exact q_call2 (F := (Fq.pair (a + b).num ((a + b).den : Int)).P) (G := (Fq.pair c.num (c.den : Int)).P) hp (free_of rfl) trivial (enq_Q_Add) (sq_in 0 rfl rfl (by simp) rfl (fun v w h => h)) (sq_in 1 rfl rfl (by simp) rfl (fun v w h => h)) (fun v v' w h h' => exAddQ h h' (rb_le B7.out (by omega)) (rb_le Bc.out (by omega)))
  · exact q_loadRat hp (free_of rfl) trivial (List.mem_iff_getElem?.2 ⟨2, rfl⟩) (.inl rfl) rfl (sq_out rfl rfl (fun _ _ => rfl)) (fun us w hl h => h)
  · exact q_loadRat hp (free_of rfl) trivial (List.mem_iff_getElem?.2 ⟨3, rfl⟩) (.inl rfl) rfl (sq_out rfl rfl (fun _ _ => rfl)) (fun us w hl h => h)
  · exact q_loadRat hp (free_of rfl) trivial (List.mem_iff_getElem?.2 ⟨4, rfl⟩) (.inl rfl) rfl (sq_out rfl rfl (fun _ _ => rfl)) (fun us w hl h => h)
  · exact q_call2 (F := (Fq.pair b.num (b.den : Int)).P) (G := (Fq.pair c.num (c.den : Int)).P) hp (free_of rfl) trivial (enq_Q_Add) (sq_in 4 rfl rfl (by simp) rfl (fun v w h => h)) (sq_in 5 rfl rfl (by simp) rfl (fun v w h => h)) (fun v v' w h h' => exAddQ h h' (rb_le Bb.out (by omega)) (rb_le Bc.out (by omega)))
  · exact q_call2 (F := (Fq.pair a.num (a.den : Int)).P) (G := (Fq.pair (b + c).num ((b + c).den : Int)).P) hp (free_of rfl) trivial (enq_Q_Add) (sq_in 3 rfl rfl (by simp) rfl (fun v w h => h)) (sq_in 6 rfl rfl (by simp) rfl (fun v w h => h)) (fun v v' w h h' => exAddQ h h' (rb_le Ba.out (by omega)) (rb_le B15.out (by omega)))
  · exact q_call2 (F := (Fq.pair ((a + b) + c).num (((a + b) + c).den : Int)).P) (G := (Fq.pair (a + (b + c)).num ((a + (b + c)).den : Int)).P) hp (free_of rfl) trivial (enq_S_Same) (sq_in 2 rfl rfl (by simp) rfl (fun v w h => h)) (sq_in 7 rfl rfl (by simp) rfl (fun v w h => h)) (fun v v' w h h' => exSSameQ h h' (Rat.add_assoc a b c))
  · exact q_one (F := fun v _ => v = .bool true) hp (free_of rfl) trivial (sq_in 8 rfl rfl (by simp) rfl (fun v w h => h)) (fun ρ w _ h => ⟨.bool false, by simp [execOp, go_sem, h], rfl⟩)
  · exact q_move hp (free_of rfl) trivial (sq_in 9 rfl rfl (by simp) rfl (fun v w h => h))
  · exact q_loadRat hp (free_of rfl) (gq_some rfl rfl (by simp) rfl (fun v w h => h)) (List.mem_iff_getElem?.2 ⟨1, rfl⟩) (.inl rfl) rfl (sq_out rfl rfl (fun _ _ => rfl)) (fun us w hl h => h)
  · exact q_loadRat hp (free_of rfl) (gq_some rfl rfl (by simp) rfl (fun v w h => h)) (List.mem_iff_getElem?.2 ⟨4, rfl⟩) (.inl rfl) rfl (sq_out rfl rfl (fun _ _ => rfl)) (fun us w hl h => h)
  · exact q_call2 (F := (Fq.pair (a * b).num ((a * b).den : Int)).P) (G := (Fq.pair c.num (c.den : Int)).P) hp (free_of rfl) (gq_some rfl rfl (by simp) rfl (fun v w h => h)) (enq_Q_Mul) (sq_in 11 rfl rfl (by simp) rfl (fun v w h => h)) (sq_in 12 rfl rfl (by simp) rfl (fun v w h => h)) (fun v v' w h h' => exMulQ h h' (rb_le B8.out (by omega)) (rb_le Bc.out (by omega)))
  · exact q_loadRat hp (free_of rfl) (gq_some rfl rfl (by simp) rfl (fun v w h => h)) (List.mem_iff_getElem?.2 ⟨2, rfl⟩) (.inl rfl) rfl (sq_out rfl rfl (fun _ _ => rfl)) (fun us w hl h => h)
  · exact q_loadRat hp (free_of rfl) (gq_some rfl rfl (by simp) rfl (fun v w h => h)) (List.mem_iff_getElem?.2 ⟨3, rfl⟩) (.inl rfl) rfl (sq_out rfl rfl (fun _ _ => rfl)) (fun us w hl h => h)
  · exact q_loadRat hp (free_of rfl) (gq_some rfl rfl (by simp) rfl (fun v w h => h)) (List.mem_iff_getElem?.2 ⟨4, rfl⟩) (.inl rfl) rfl (sq_out rfl rfl (fun _ _ => rfl)) (fun us w hl h => h)
  · exact q_call2 (F := (Fq.pair b.num (b.den : Int)).P) (G := (Fq.pair c.num (c.den : Int)).P) hp (free_of rfl) (gq_some rfl rfl (by simp) rfl (fun v w h => h)) (enq_Q_Mul) (sq_in 15 rfl rfl (by simp) rfl (fun v w h => h)) (sq_in 16 rfl rfl (by simp) rfl (fun v w h => h)) (fun v v' w h h' => exMulQ h h' (rb_le Bb.out (by omega)) (rb_le Bc.out (by omega)))
  · exact q_call2 (F := (Fq.pair a.num (a.den : Int)).P) (G := (Fq.pair (b * c).num ((b * c).den : Int)).P) hp (free_of rfl) (gq_some rfl rfl (by simp) rfl (fun v w h => h)) (enq_Q_Mul) (sq_in 14 rfl rfl (by simp) rfl (fun v w h => h)) (sq_in 17 rfl rfl (by simp) rfl (fun v w h => h)) (fun v v' w h h' => exMulQ h h' (rb_le Ba.out (by omega)) (rb_le B18.out (by omega)))
  · exact q_call2 (F := (Fq.pair ((a * b) * c).num (((a * b) * c).den : Int)).P) (G := (Fq.pair (a * (b * c)).num ((a * (b * c)).den : Int)).P) hp (free_of rfl) (gq_some rfl rfl (by simp) rfl (fun v w h => h)) (enq_S_Same) (sq_in 13 rfl rfl (by simp) rfl (fun v w h => h)) (sq_in 18 rfl rfl (by simp) rfl (fun v w h => h)) (fun v v' w h h' => exSSameQ h h' (Rat.mul_assoc a b c))
  · exact q_one (F := fun v _ => v = .bool true) hp (free_of rfl) (gq_some rfl rfl (by simp) rfl (fun v w h => h)) (sq_in 19 rfl rfl (by simp) rfl (fun v w h => h)) (fun ρ w _ h => ⟨.bool false, by simp [execOp, go_sem, h], rfl⟩)
  · exact q_two (F := fun v _ => v = .bool false) (G := fun v _ => v = .bool false) hp (free_of rfl) trivial (sq_in 10 rfl rfl (by simp) rfl (fun v w h => h)) (sq_in 20 rfl rfl (by simp) rfl (fun v w h => h)) (fun ρ w hc h h' => ⟨_, by simp [execOp, go_sem, h, h'], rfl⟩)
  intro L vs w20 nb hL hC hn E20
  have e8 : vs 8 = .bool true := hC 8 (by simp)
  have e9 : vs 9 = .bool false := hC 9 (by simp)
  have e10 : vs 10 = .bool false := hC 10 (by simp)
  have e19 : vs 19 = .bool true := hC 19 (by simp)
  have e20 : vs 20 = .bool false := hC 20 (by simp)
  have e21 : vs 21 = .bool false := hC 21 (by simp)
  have E : Fr w [(b9_6, 4, Fq.pair (a + b).num ((a + b).den : Int)), (b9_7, 4, Fq.pair (a * b).num ((a * b).den : Int)), (b6_6, 4, Fq.pair a.num (a.den : Int)), (b6_7, 4, Fq.pair b.num (b.den : Int)), (b6_8, 4, Fq.pair c.num (c.den : Int)), (b3, 4, Fq.raw2 n3 a3 k3 c3 xs3 m3 r3 l3 q3 ys3), (b2, 4, Fq.raw2 n2 a2 k2 c2 xs2 m2 r2 l2 q2 ys2), (b1, 4, Fq.raw2 n1 a1 k1 c1 xs1 m1 r1 l1 q1 ys1)] w20 := E20
  rw [lay_all hL]
  simp only [putAll, dstOf, List.length_cons, List.length_nil, Nat.zero_add, Nat.reduceAdd, List.getElem?_toArray, List.getElem?_cons_zero, List.getElem?_cons_succ, Option.bind_some, Act.put, List.setIfInBounds_toArray, List.set_cons_succ, List.set_cons_zero]
  rw [e8, e9, e10, e19, e20, e21]
  generalize vs 0 = u20_0
  generalize vs 1 = u20_1
  generalize vs 2 = u20_2
  generalize vs 3 = u20_3
  generalize vs 4 = u20_4
  generalize vs 5 = u20_5
  generalize vs 6 = u20_6
  generalize vs 7 = u20_7
  generalize vs 11 = u20_11
  generalize vs 12 = u20_12
  generalize vs 13 = u20_13
  generalize vs 14 = u20_14
  generalize vs 15 = u20_15
  generalize vs 16 = u20_16
  generalize vs 17 = u20_17
  generalize vs 18 = u20_18
  clear e8 e9 e10 e19 e20 e21 hC hn E20 hL vs L nb
  go_upto_region 10 with (fail)
  have B21 : Hid (Rb ((a + b) * c) 19) := rb_le (rb_mul B7.out Bc.out) (by omega)
  have B22 : Hid (Rb (a * c) 12) := rb_le (rb_mul Ba.out Bc.out) (by omega)
  have B23 : Hid (Rb ((a * c) + (b * c)) 25) := rb_le (rb_add B22.out B18.out) (by omega)
  refine region_fr (C := [Fq.pair (a + b).num ((a + b).den : Int), Fq.pair c.num (c.den : Int), Fq.pair ((a + b) * c).num (((a + b) * c).den : Int), Fq.pair a.num (a.den : Int), Fq.pair c.num (c.den : Int), Fq.pair (a * c).num ((a * c).den : Int), Fq.pair b.num (b.den : Int), Fq.pair c.num (c.den : Int), Fq.pair (b * c).num ((b * c).den : Int), Fq.pair ((a * c) + (b * c)).num (((a * c) + (b * c)).den : Int), Fq.is (.bool true), Fq.is (.bool false)]) (ks := [none, none, none, none, none, none, none, none]) (new := []) E rfl (by kernel_rfl) rfl rfl (fun hp => ⟨?_, ?_, ?_, ?_, ?_, ?_, ?_, ?_, ?_, ?_, ?_, ?_, trivial⟩) ?_
  · exact q_loadRat hp (free_of rfl) trivial (List.mem_iff_getElem?.2 ⟨0, rfl⟩) (.inl rfl) rfl (sq_out rfl rfl (fun _ _ => rfl)) (fun us w hl h => h)
  · exact q_loadRat hp (free_of rfl) trivial (List.mem_iff_getElem?.2 ⟨4, rfl⟩) (.inl rfl) rfl (sq_out rfl rfl (fun _ _ => rfl)) (fun us w hl h => h)
  · exact q_call2 (F := (Fq.pair (a + b).num ((a + b).den : Int)).P) (G := (Fq.pair c.num (c.den : Int)).P) hp (free_of rfl) trivial (enq_Q_Mul) (sq_in 0 rfl rfl (by simp) rfl (fun v w h => h)) (sq_in 1 rfl rfl (by simp) rfl (fun v w h => h)) (fun v v' w h h' => exMulQ h h' (rb_le B7.out (by omega)) (rb_le Bc.out (by omega)))
  · exact q_loadRat hp (free_of rfl) trivial (List.mem_iff_getElem?.2 ⟨2, rfl⟩) (.inl rfl) rfl (sq_out rfl rfl (fun _ _ => rfl)) (fun us w hl h => h)
  · exact q_loadRat hp (free_of rfl) trivial (List.mem_iff_getElem?.2 ⟨4, rfl⟩) (.inl rfl) rfl (sq_out rfl rfl (fun _ _ => rfl)) (fun us w hl h => h)
  · exact q_call2 (F := (Fq.pair a.num (a.den : Int)).P) (G := (Fq.pair c.num (c.den : Int)).P) hp (free_of rfl) trivial (enq_Q_Mul) (sq_in 3 rfl rfl (by simp) rfl (fun v w h => h)) (sq_in 4 rfl rfl (by simp) rfl (fun v w h => h)) (fun v v' w h h' => exMulQ h h' (rb_le Ba.out (by omega)) (rb_le Bc.out (by omega)))
  · exact q_loadRat hp (free_of rfl) trivial (List.mem_iff_getElem?.2 ⟨3, rfl⟩) (.inl rfl) rfl (sq_out rfl rfl (fun _ _ => rfl)) (fun us w hl h => h)
  · exact q_loadRat hp (free_of rfl) trivial (List.mem_iff_getElem?.2 ⟨4, rfl⟩) (.inl rfl) rfl (sq_out rfl rfl (fun _ _ => rfl)) (fun us w hl h => h)
  · exact q_call2 (F := (Fq.pair b.num (b.den : Int)).P) (G := (Fq.pair c.num (c.den : Int)).P) hp (free_of rfl) trivial (enq_Q_Mul) (sq_in 6 rfl rfl (by simp) rfl (fun v w h => h)) (sq_in 7 rfl rfl (by simp) rfl (fun v w h => h)) (fun v v' w h h' => exMulQ h h' (rb_le Bb.out (by omega)) (rb_le Bc.out (by omega)))
  · exact q_call2 (F := (Fq.pair (a * c).num ((a * c).den : Int)).P) (G := (Fq.pair (b * c).num ((b * c).den : Int)).P) hp (free_of rfl) trivial (enq_Q_Add) (sq_in 5 rfl rfl (by simp) rfl (fun v w h => h)) (sq_in 8 rfl rfl (by simp) rfl (fun v w h => h)) (fun v v' w h h' => exAddQ h h' (rb_le B22.out (by omega)) (rb_le B18.out (by omega)))
  · exact q_call2 (F := (Fq.pair ((a + b) * c).num (((a + b) * c).den : Int)).P) (G := (Fq.pair ((a * c) + (b * c)).num (((a * c) + (b * c)).den : Int)).P) hp (free_of rfl) trivial (enq_S_Same) (sq_in 2 rfl rfl (by simp) rfl (fun v w h => h)) (sq_in 9 rfl rfl (by simp) rfl (fun v w h => h)) (fun v v' w h h' => exSSameQ h h' (Rat.add_mul a b c))
  · exact q_one (F := fun v _ => v = .bool true) hp (free_of rfl) trivial (sq_in 10 rfl rfl (by simp) rfl (fun v w h => h)) (fun ρ w _ h => ⟨.bool false, by simp [execOp, go_sem, h], rfl⟩)
  intro L vs w24 nb hL hC hn E24
  have e10 : vs 10 = .bool true := hC 10 (by simp)
  have e11 : vs 11 = .bool false := hC 11 (by simp)
  have E : Fr w [(b9_6, 4, Fq.pair (a + b).num ((a + b).den : Int)), (b9_7, 4, Fq.pair (a * b).num ((a * b).den : Int)), (b6_6, 4, Fq.pair a.num (a.den : Int)), (b6_7, 4, Fq.pair b.num (b.den : Int)), (b6_8, 4, Fq.pair c.num (c.den : Int)), (b3, 4, Fq.raw2 n3 a3 k3 c3 xs3 m3 r3 l3 q3 ys3), (b2, 4, Fq.raw2 n2 a2 k2 c2 xs2 m2 r2 l2 q2 ys2), (b1, 4, Fq.raw2 n1 a1 k1 c1 xs1 m1 r1 l1 q1 ys1)] w24 := E24
  rw [lay_all hL]
  simp only [putAll, dstOf, List.length_cons, List.length_nil, Nat.zero_add, Nat.reduceAdd, List.getElem?_toArray, List.getElem?_cons_zero, List.getElem?_cons_succ, Option.bind_some, Act.put, List.setIfInBounds_toArray, List.set_cons_succ, List.set_cons_zero]
  rw [e10, e11]
  generalize vs 0 = u24_0
  generalize vs 1 = u24_1
  generalize vs 2 = u24_2
  generalize vs 3 = u24_3
  generalize vs 4 = u24_4
  generalize vs 5 = u24_5
  generalize vs 6 = u24_6
  generalize vs 7 = u24_7
  generalize vs 8 = u24_8
  generalize vs 9 = u24_9
  clear e10 e11 hC hn E24 hL vs L nb
  by_cases hb0 : b = 0
  · have T : Hid (cmpI b.num 0 = 0) := cmpIq0.2 (Rat.num_eq_zero.2 hb0)
    go_upto_region 12 with (fail)
    refine region_fr (C := [Fq.pair (a * b).num ((a * b).den : Int), Fq.pair b.num (b.den : Int), Fq.tup2 (Fq.pair 0 0) (Fq.is (.int .i64 4)), Fq.tup2 (Fq.pair 0 0) (Fq.is (.int .i64 4)), Fq.pair 0 0, Fq.is (.int .i64 4), Fq.any, Fq.any, Fq.is (.int .i64 4)]) (ks := [none, none, none, none, none, none, none, none]) (new := [⟨6, 7, 4, Fq.pair 0 0, Fq.pair 0 0, none⟩]) E rfl (by kernel_rfl) rfl rfl (fun hp => ⟨?_, ?_, ?_, ?_, ?_, ?_, ?_, ?_, ?_, trivial⟩) ?_
    · exact q_loadRat hp (free_of rfl) trivial (List.mem_iff_getElem?.2 ⟨1, rfl⟩) (.inl rfl) rfl (sq_out rfl rfl (fun _ _ => rfl)) (fun us w hl h => h)
    · exact q_loadRat hp (free_of rfl) trivial (List.mem_iff_getElem?.2 ⟨3, rfl⟩) (.inl rfl) rfl (sq_out rfl rfl (fun _ _ => rfl)) (fun us w hl h => h)
    · exact q_call2 (F := (Fq.pair (a * b).num ((a * b).den : Int)).P) (G := (Fq.pair b.num (b.den : Int)).P) hp (free_of rfl) trivial (enq_Q_Div) (sq_in 0 rfl rfl (by simp) rfl (fun v w h => h)) (sq_in 1 rfl rfl (by simp) rfl (fun v w h => h)) (fun v v' w h h' => exDivZ h h' hb0 (rb_le B8.out (by omega)) (rb_le Bb.out (by omega)))
    · exact q_move hp (free_of rfl) trivial (sq_in 2 rfl rfl (by simp) rfl (fun v w h => h))
    · exact q_extract2 hp (free_of rfl) trivial (sq_in 3 rfl rfl (by simp) rfl (fun v w h => h)) (fun v1 v2 w h1 h2 => ⟨_, rfl, h1⟩)
    · exact q_extract2 hp (free_of rfl) trivial (sq_in 3 rfl rfl (by simp) rfl (fun v w h => h)) (fun v1 v2 w h1 h2 => ⟨_, rfl, h2⟩)
    · exact q_allocRat hp (List.mem_iff_getElem?.2 ⟨0, rfl⟩) rfl rfl rfl rfl (Nat.ne_of_beq_eq_false rfl) (fun _ _ => trivial) (old_ne rfl) (newk_ne rfl) (fun w => Pair.zero w)
    · exact q_storeNewRat hp (List.mem_iff_getElem?.2 ⟨0, rfl⟩) rfl rfl rfl (own_ptr rfl rfl (by simp) rfl) (sq_in 4 rfl rfl (by simp) rfl (fun v w h => ratV_pair h)) (fun _ _ => trivial) (old_ne rfl) (newi_ne rfl)
    · exact q_assign hp (free_of rfl) trivial (sq_in 5 rfl rfl (by simp) rfl (fun v w h => h))
    intro L vs w25 nb hL hC hn E25
    have e5 : vs 5 = .int .i64 4 := hC 5 (by simp)
    have e8 : vs 8 = .int .i64 4 := hC 8 (by simp)
    have e6 : vs 6 = .pointer (some ⟨nb 6, 0, none⟩) := hn _ (List.mem_iff_getElem?.2 ⟨0, rfl⟩)
    have E : Fr w [(nb 6, 4, Fq.pair 0 0), (b9_6, 4, Fq.pair (a + b).num ((a + b).den : Int)), (b9_7, 4, Fq.pair (a * b).num ((a * b).den : Int)), (b6_6, 4, Fq.pair a.num (a.den : Int)), (b6_7, 4, Fq.pair b.num (b.den : Int)), (b6_8, 4, Fq.pair c.num (c.den : Int)), (b3, 4, Fq.raw2 n3 a3 k3 c3 xs3 m3 r3 l3 q3 ys3), (b2, 4, Fq.raw2 n2 a2 k2 c2 xs2 m2 r2 l2 q2 ys2), (b1, 4, Fq.raw2 n1 a1 k1 c1 xs1 m1 r1 l1 q1 ys1)] w25 := E25
    rw [lay_all hL]
    simp only [putAll, dstOf, List.length_cons, List.length_nil, Nat.zero_add, Nat.reduceAdd, List.getElem?_toArray, List.getElem?_cons_zero, List.getElem?_cons_succ, Option.bind_some, Act.put, List.setIfInBounds_toArray, List.set_cons_succ, List.set_cons_zero]
    rw [e5, e8, e6]
    generalize nb 6 = b25_6 at E ⊢
    generalize vs 0 = u25_0
    generalize vs 1 = u25_1
    generalize vs 2 = u25_2
    generalize vs 3 = u25_3
    generalize vs 4 = u25_4
    clear e5 e8 e6 hC hn E25 hL vs L nb
    go_upto_region 13 with (fail)
    refine region_fr (C := [Fq.pair b.num (b.den : Int), Fq.is (.int .i64 (cmpI b.num 0)), Fq.is (.bool true)]) (ks := [none, none, none, none, none, none, none, none, none]) (new := []) E rfl (by kernel_rfl) rfl rfl (fun hp => ⟨?_, ?_, ?_, trivial⟩) ?_
    · exact q_loadRat hp (free_of rfl) trivial (List.mem_iff_getElem?.2 ⟨4, rfl⟩) (.inl rfl) rfl (sq_out rfl rfl (fun _ _ => rfl)) (fun us w hl h => h)
    · exact q_call1 (F := (Fq.pair b.num (b.den : Int)).P) hp (free_of rfl) trivial (enq_Q_Sign) (sq_in 0 rfl rfl (by simp) rfl (fun v w h => h)) (fun v w h => exSignQ h)
    · exact q_one (F := fun v _ => v = .int .i64 (cmpI b.num 0)) hp (free_of rfl) trivial (sq_in 1 rfl rfl (by simp) rfl (fun v w h => h)) (fun ρ w hc h => ⟨.bool true, by simp [execOp, go_sem, h, hc, T.out], rfl⟩)
    intro L vs w26 nb hL hC hn E26
    have e1 : vs 1 = .int .i64 (cmpI b.num 0) := hC 1 (by simp)
    have e2 : vs 2 = .bool true := hC 2 (by simp)
    have E : Fr w [(b25_6, 4, Fq.pair 0 0), (b9_6, 4, Fq.pair (a + b).num ((a + b).den : Int)), (b9_7, 4, Fq.pair (a * b).num ((a * b).den : Int)), (b6_6, 4, Fq.pair a.num (a.den : Int)), (b6_7, 4, Fq.pair b.num (b.den : Int)), (b6_8, 4, Fq.pair c.num (c.den : Int)), (b3, 4, Fq.raw2 n3 a3 k3 c3 xs3 m3 r3 l3 q3 ys3), (b2, 4, Fq.raw2 n2 a2 k2 c2 xs2 m2 r2 l2 q2 ys2), (b1, 4, Fq.raw2 n1 a1 k1 c1 xs1 m1 r1 l1 q1 ys1)] w26 := E26
    rw [lay_all hL]
    simp only [putAll, dstOf, List.length_cons, List.length_nil, Nat.zero_add, Nat.reduceAdd, List.getElem?_toArray, List.getElem?_cons_zero, List.getElem?_cons_succ, Option.bind_some, Act.put, List.setIfInBounds_toArray, List.set_cons_succ, List.set_cons_zero]
    rw [e1, e2]
    generalize vs 0 = u26_0
    clear e1 e2 hC hn E26 hL vs L nb
    clear T
    go_upto_region 14 with (fail)
    refine region_fr (C := [Fq.is (.int .i64 4), Fq.is (.bool true), Fq.is (.bool true), Fq.is (.bool true), Fq.is (.bool true), Fq.is (.bool true)]) (ks := [none, none, none, none, none, none, none, none, none]) (new := []) E rfl (by kernel_rfl) rfl rfl (fun hp => ⟨?_, ?_, ?_, ?_, ?_, ?_, trivial⟩) ?_
    · exact q_move hp (free_of rfl) trivial (sq_out rfl rfl (fun _ _ => rfl))
    · exact q_one (F := fun v _ => v = .int .i64 4) hp (free_of rfl) trivial (sq_in 0 rfl rfl (by simp) rfl (fun v w h => h)) (fun ρ w hc h => ⟨.bool true, by simp [execOp, go_sem, h, hc], rfl⟩)
    · exact q_move hp (free_of rfl) trivial (sq_in 1 rfl rfl (by simp) rfl (fun v w h => h))
    · exact q_move hp (free_of rfl) (gq_some rfl rfl (by simp) rfl (fun v w h => h)) (sq_out rfl rfl (fun _ _ => rfl))
    · exact q_two (F := fun v _ => v = .bool true) (G := fun v _ => v = .bool true) hp (free_of rfl) trivial (sq_in 2 rfl rfl (by simp) rfl (fun v w h => h)) (sq_in 3 rfl rfl (by simp) rfl (fun v w h => h)) (fun ρ w hc h h' => ⟨_, by simp [execOp, go_sem, h, h'], rfl⟩)
    · exact q_assign hp (free_of rfl) trivial (sq_in 4 rfl rfl (by simp) rfl (fun v w h => h))
    intro L vs w27 nb hL hC hn E27
    have e0 : vs 0 = .int .i64 4 := hC 0 (by simp)
    have e1 : vs 1 = .bool true := hC 1 (by simp)
    have e2 : vs 2 = .bool true := hC 2 (by simp)
    have e3 : vs 3 = .bool true := hC 3 (by simp)
    have e4 : vs 4 = .bool true := hC 4 (by simp)
    have e5 : vs 5 = .bool true := hC 5 (by simp)
    have E : Fr w [(b25_6, 4, Fq.pair 0 0), (b9_6, 4, Fq.pair (a + b).num ((a + b).den : Int)), (b9_7, 4, Fq.pair (a * b).num ((a * b).den : Int)), (b6_6, 4, Fq.pair a.num (a.den : Int)), (b6_7, 4, Fq.pair b.num (b.den : Int)), (b6_8, 4, Fq.pair c.num (c.den : Int)), (b3, 4, Fq.raw2 n3 a3 k3 c3 xs3 m3 r3 l3 q3 ys3), (b2, 4, Fq.raw2 n2 a2 k2 c2 xs2 m2 r2 l2 q2 ys2), (b1, 4, Fq.raw2 n1 a1 k1 c1 xs1 m1 r1 l1 q1 ys1)] w27 := E27
    rw [lay_all hL]
    simp only [putAll, dstOf, List.length_cons, List.length_nil, Nat.zero_add, Nat.reduceAdd, List.getElem?_toArray, List.getElem?_cons_zero, List.getElem?_cons_succ, Option.bind_some, Act.put, List.setIfInBounds_toArray, List.set_cons_succ, List.set_cons_zero]
    rw [e0, e1, e2, e3, e4, e5]
    clear e0 e1 e2 e3 e4 e5 hC hn E27 hL vs L nb
    clear B7 B8 B10 B11 B12 B14 B15 B16 B17 B18 B19 B21 B22 B23 Ba Bb Bc
    go_wp2
    refine bodyPost_ret (v := .bool true) ?_ rfl ⟨rfl, E.below⟩
    simp [results, Try.results3, go_sem]
  · have T : Hid (¬ cmpI b.num 0 = 0) := fun e => hb0 (Rat.num_eq_zero.1 (cmpIq0.1 e))
    go_upto_region 12 with (fail)
    have B28 : Hid (Rb ((a * b) / b) 18) := rb_le (rb_div hb0 B8.out Bb.out) (by omega)
    refine region_fr (C := [Fq.pair (a * b).num ((a * b).den : Int), Fq.pair b.num (b.den : Int), Fq.tup2 (Fq.pair ((a * b) / b).num (((a * b) / b).den : Int)) (Fq.is (.int .i64 0)), Fq.tup2 (Fq.pair ((a * b) / b).num (((a * b) / b).den : Int)) (Fq.is (.int .i64 0)), Fq.pair ((a * b) / b).num (((a * b) / b).den : Int), Fq.is (.int .i64 0), Fq.any, Fq.any, Fq.is (.int .i64 0)]) (ks := [none, none, none, none, none, none, none, none]) (new := [⟨6, 7, 4, Fq.pair 0 0, Fq.pair ((a * b) / b).num (((a * b) / b).den : Int), none⟩]) E rfl (by kernel_rfl) rfl rfl (fun hp => ⟨?_, ?_, ?_, ?_, ?_, ?_, ?_, ?_, ?_, trivial⟩) ?_
    · exact q_loadRat hp (free_of rfl) trivial (List.mem_iff_getElem?.2 ⟨1, rfl⟩) (.inl rfl) rfl (sq_out rfl rfl (fun _ _ => rfl)) (fun us w hl h => h)
    · exact q_loadRat hp (free_of rfl) trivial (List.mem_iff_getElem?.2 ⟨3, rfl⟩) (.inl rfl) rfl (sq_out rfl rfl (fun _ _ => rfl)) (fun us w hl h => h)
    · exact q_call2 (F := (Fq.pair (a * b).num ((a * b).den : Int)).P) (G := (Fq.pair b.num (b.den : Int)).P) hp (free_of rfl) trivial (enq_Q_Div) (sq_in 0 rfl rfl (by simp) rfl (fun v w h => h)) (sq_in 1 rfl rfl (by simp) rfl (fun v w h => h)) (fun v v' w h h' => exDivP h h' hb0 (rb_le B8.out (by omega)) (rb_le Bb.out (by omega)))
    · exact q_move hp (free_of rfl) trivial (sq_in 2 rfl rfl (by simp) rfl (fun v w h => h))
    · exact q_extract2 hp (free_of rfl) trivial (sq_in 3 rfl rfl (by simp) rfl (fun v w h => h)) (fun v1 v2 w h1 h2 => ⟨_, rfl, h1⟩)
    · exact q_extract2 hp (free_of rfl) trivial (sq_in 3 rfl rfl (by simp) rfl (fun v w h => h)) (fun v1 v2 w h1 h2 => ⟨_, rfl, h2⟩)
    · exact q_allocRat hp (List.mem_iff_getElem?.2 ⟨0, rfl⟩) rfl rfl rfl rfl (Nat.ne_of_beq_eq_false rfl) (fun _ _ => trivial) (old_ne rfl) (newk_ne rfl) (fun w => Pair.zero w)
    · exact q_storeNewRat hp (List.mem_iff_getElem?.2 ⟨0, rfl⟩) rfl rfl rfl (own_ptr rfl rfl (by simp) rfl) (sq_in 4 rfl rfl (by simp) rfl (fun v w h => ratV_pair h)) (fun _ _ => trivial) (old_ne rfl) (newi_ne rfl)
    · exact q_assign hp (free_of rfl) trivial (sq_in 5 rfl rfl (by simp) rfl (fun v w h => h))
    intro L vs w29 nb hL hC hn E29
    have e5 : vs 5 = .int .i64 0 := hC 5 (by simp)
    have e8 : vs 8 = .int .i64 0 := hC 8 (by simp)
    have e6 : vs 6 = .pointer (some ⟨nb 6, 0, none⟩) := hn _ (List.mem_iff_getElem?.2 ⟨0, rfl⟩)
    have E : Fr w [(nb 6, 4, Fq.pair ((a * b) / b).num (((a * b) / b).den : Int)), (b9_6, 4, Fq.pair (a + b).num ((a + b).den : Int)), (b9_7, 4, Fq.pair (a * b).num ((a * b).den : Int)), (b6_6, 4, Fq.pair a.num (a.den : Int)), (b6_7, 4, Fq.pair b.num (b.den : Int)), (b6_8, 4, Fq.pair c.num (c.den : Int)), (b3, 4, Fq.raw2 n3 a3 k3 c3 xs3 m3 r3 l3 q3 ys3), (b2, 4, Fq.raw2 n2 a2 k2 c2 xs2 m2 r2 l2 q2 ys2), (b1, 4, Fq.raw2 n1 a1 k1 c1 xs1 m1 r1 l1 q1 ys1)] w29 := E29
    rw [lay_all hL]
    simp only [putAll, dstOf, List.length_cons, List.length_nil, Nat.zero_add, Nat.reduceAdd, List.getElem?_toArray, List.getElem?_cons_zero, List.getElem?_cons_succ, Option.bind_some, Act.put, List.setIfInBounds_toArray, List.set_cons_succ, List.set_cons_zero]
    rw [e5, e8, e6]
    generalize nb 6 = b29_6 at E ⊢
    generalize vs 0 = u29_0
    generalize vs 1 = u29_1
    generalize vs 2 = u29_2
    generalize vs 3 = u29_3
    generalize vs 4 = u29_4
    clear e5 e8 e6 hC hn E29 hL vs L nb
    go_upto_region 13 with (fail)
    refine region_fr (C := [Fq.pair b.num (b.den : Int), Fq.is (.int .i64 (cmpI b.num 0)), Fq.is (.bool false)]) (ks := [none, none, none, none, none, none, none, none, none]) (new := []) E rfl (by kernel_rfl) rfl rfl (fun hp => ⟨?_, ?_, ?_, trivial⟩) ?_
    · exact q_loadRat hp (free_of rfl) trivial (List.mem_iff_getElem?.2 ⟨4, rfl⟩) (.inl rfl) rfl (sq_out rfl rfl (fun _ _ => rfl)) (fun us w hl h => h)
    · exact q_call1 (F := (Fq.pair b.num (b.den : Int)).P) hp (free_of rfl) trivial (enq_Q_Sign) (sq_in 0 rfl rfl (by simp) rfl (fun v w h => h)) (fun v w h => exSignQ h)
    · exact q_one (F := fun v _ => v = .int .i64 (cmpI b.num 0)) hp (free_of rfl) trivial (sq_in 1 rfl rfl (by simp) rfl (fun v w h => h)) (fun ρ w hc h => ⟨.bool false, by simp [execOp, go_sem, h, hc, T.out], rfl⟩)
    intro L vs w30 nb hL hC hn E30
    have e1 : vs 1 = .int .i64 (cmpI b.num 0) := hC 1 (by simp)
    have e2 : vs 2 = .bool false := hC 2 (by simp)
    have E : Fr w [(b29_6, 4, Fq.pair ((a * b) / b).num (((a * b) / b).den : Int)), (b9_6, 4, Fq.pair (a + b).num ((a + b).den : Int)), (b9_7, 4, Fq.pair (a * b).num ((a * b).den : Int)), (b6_6, 4, Fq.pair a.num (a.den : Int)), (b6_7, 4, Fq.pair b.num (b.den : Int)), (b6_8, 4, Fq.pair c.num (c.den : Int)), (b3, 4, Fq.raw2 n3 a3 k3 c3 xs3 m3 r3 l3 q3 ys3), (b2, 4, Fq.raw2 n2 a2 k2 c2 xs2 m2 r2 l2 q2 ys2), (b1, 4, Fq.raw2 n1 a1 k1 c1 xs1 m1 r1 l1 q1 ys1)] w30 := E30
    rw [lay_all hL]
    simp only [putAll, dstOf, List.length_cons, List.length_nil, Nat.zero_add, Nat.reduceAdd, List.getElem?_toArray, List.getElem?_cons_zero, List.getElem?_cons_succ, Option.bind_some, Act.put, List.setIfInBounds_toArray, List.set_cons_succ, List.set_cons_zero]
    rw [e1, e2]
    generalize vs 0 = u30_0
    clear e1 e2 hC hn E30 hL vs L nb
    clear T
    go_upto_region 15 with (fail)
    refine region_fr (C := [Fq.is (.int .i64 0), Fq.is (.bool true), Fq.is (.bool true), Fq.pair ((a * b) / b).num (((a * b) / b).den : Int), Fq.pair a.num (a.den : Int), Fq.is (.bool true), Fq.is (.bool true), Fq.is (.bool true), Fq.is (.bool true), Fq.is (.bool true), Fq.is (.bool true)]) (ks := [none, none, none, none, none, none, none, none, none]) (new := []) E rfl (by kernel_rfl) rfl rfl (fun hp => ⟨?_, ?_, ?_, ?_, ?_, ?_, ?_, ?_, ?_, ?_, ?_, trivial⟩) ?_
    · exact q_move hp (free_of rfl) trivial (sq_out rfl rfl (fun _ _ => rfl))
    · exact q_one (F := fun v _ => v = .int .i64 0) hp (free_of rfl) trivial (sq_in 0 rfl rfl (by simp) rfl (fun v w h => h)) (fun ρ w hc h => ⟨.bool true, by simp [execOp, go_sem, h, hc], rfl⟩)
    · exact q_move hp (free_of rfl) trivial (sq_in 1 rfl rfl (by simp) rfl (fun v w h => h))
    · exact q_loadRat hp (free_of rfl) (gq_some rfl rfl (by simp) rfl (fun v w h => h)) (List.mem_iff_getElem?.2 ⟨0, rfl⟩) (.inl rfl) rfl (sq_out rfl rfl (fun _ _ => rfl)) (fun us w hl h => h)
    · exact q_loadRat hp (free_of rfl) (gq_some rfl rfl (by simp) rfl (fun v w h => h)) (List.mem_iff_getElem?.2 ⟨3, rfl⟩) (.inl rfl) rfl (sq_out rfl rfl (fun _ _ => rfl)) (fun us w hl h => h)
    · exact q_call2 (F := (Fq.pair ((a * b) / b).num (((a * b) / b).den : Int)).P) (G := (Fq.pair a.num (a.den : Int)).P) hp (free_of rfl) (gq_some rfl rfl (by simp) rfl (fun v w h => h)) (enq_S_Same) (sq_in 3 rfl rfl (by simp) rfl (fun v w h => h)) (sq_in 4 rfl rfl (by simp) rfl (fun v w h => h)) (fun v v' w h h' => exSSameQ h h' (Rat.mul_div_cancel hb0))
    · exact q_two (F := fun v _ => v = .bool true) (G := fun v _ => v = .bool true) hp (free_of rfl) trivial (sq_in 2 rfl rfl (by simp) rfl (fun v w h => h)) (sq_in 5 rfl rfl (by simp) rfl (fun v w h => h)) (fun ρ w hc h h' => ⟨_, by simp [execOp, go_sem, h, h'], rfl⟩)
    · exact q_move hp (free_of rfl) trivial (sq_in 6 rfl rfl (by simp) rfl (fun v w h => h))
    · exact q_move hp (free_of rfl) (gq_some rfl rfl (by simp) rfl (fun v w h => h)) (sq_out rfl rfl (fun _ _ => rfl))
    · exact q_two (F := fun v _ => v = .bool true) (G := fun v _ => v = .bool true) hp (free_of rfl) trivial (sq_in 7 rfl rfl (by simp) rfl (fun v w h => h)) (sq_in 8 rfl rfl (by simp) rfl (fun v w h => h)) (fun ρ w hc h h' => ⟨_, by simp [execOp, go_sem, h, h'], rfl⟩)
    · exact q_assign hp (free_of rfl) trivial (sq_in 9 rfl rfl (by simp) rfl (fun v w h => h))
    intro L vs w31 nb hL hC hn E31
    have e0 : vs 0 = .int .i64 0 := hC 0 (by simp)
    have e1 : vs 1 = .bool true := hC 1 (by simp)
    have e2 : vs 2 = .bool true := hC 2 (by simp)
    have e5 : vs 5 = .bool true := hC 5 (by simp)
    have e6 : vs 6 = .bool true := hC 6 (by simp)
    have e7 : vs 7 = .bool true := hC 7 (by simp)
    have e8 : vs 8 = .bool true := hC 8 (by simp)
    have e9 : vs 9 = .bool true := hC 9 (by simp)
    have e10 : vs 10 = .bool true := hC 10 (by simp)
    have E : Fr w [(b29_6, 4, Fq.pair ((a * b) / b).num (((a * b) / b).den : Int)), (b9_6, 4, Fq.pair (a + b).num ((a + b).den : Int)), (b9_7, 4, Fq.pair (a * b).num ((a * b).den : Int)), (b6_6, 4, Fq.pair a.num (a.den : Int)), (b6_7, 4, Fq.pair b.num (b.den : Int)), (b6_8, 4, Fq.pair c.num (c.den : Int)), (b3, 4, Fq.raw2 n3 a3 k3 c3 xs3 m3 r3 l3 q3 ys3), (b2, 4, Fq.raw2 n2 a2 k2 c2 xs2 m2 r2 l2 q2 ys2), (b1, 4, Fq.raw2 n1 a1 k1 c1 xs1 m1 r1 l1 q1 ys1)] w31 := E31
    rw [lay_all hL]
    simp only [putAll, dstOf, List.length_cons, List.length_nil, Nat.zero_add, Nat.reduceAdd, List.getElem?_toArray, List.getElem?_cons_zero, List.getElem?_cons_succ, Option.bind_some, Act.put, List.setIfInBounds_toArray, List.set_cons_succ, List.set_cons_zero]
    rw [e0, e1, e2, e5, e6, e7, e8, e9, e10]
    generalize vs 3 = u31_3
    generalize vs 4 = u31_4
    clear e0 e1 e2 e5 e6 e7 e8 e9 e10 hC hn E31 hL vs L nb
    clear B7 B8 B10 B11 B12 B14 B15 B16 B17 B18 B19 B21 B22 B23 B28 Ba Bb Bc
    go_wp2
    refine bodyPost_ret (v := .bool true) ?_ rfl ⟨rfl, E.below⟩
    simp [results, Try.results3, go_sem]

end Go.Proofs.Ytlehjhlihahjhaa

/- Steps of a region over slices of fractions. -/
namespace Go.Proofs.Ytlehjhlihahjhaa
open Go Go.RowKit

/-- Fractions, one behind the other. -/
def Rats (w : World) (us : List Value) (qs : List (Int × Int)) : Prop :=
  us.length = qs.length * 4 ∧ ∀ i n d, qs[i]? = some (n, d) → Pair w (.agg #[us.getD (i * 4) undef, us.getD (i * 4 + 1) undef, us.getD (i * 4 + 2) undef, us.getD (i * 4 + 3) undef]) n d
def Fq.rats (qs : List (Int × Int)) : Fq := ⟨fun v w => ∃ us : List Value, v = .agg us.toArray ∧ Rats w us qs,
  fun ⟨us, e, hl, h⟩ hb => ⟨us, e, hl, fun i n d hi => (h i n d hi).mono hb⟩, fun ⟨us, e, hl, h⟩ ha ht hl2 => ⟨us, e, hl, fun i n d hi => (Fq.pair n d).put (h i n d hi) ha ht hl2⟩⟩

section
variable {os : List Oper} {Q : Exit → Act → World → Prop} {a : Act} {p : Pq} {B B0 : Nat} {w0 : World}
variable {i s : Nat} {d : Option Tmp} {ty : TypeId} {ps : String} {af : Array Edge} {gd : Option (Nat × Bool)}

/-- A value of one cell, loaded. -/
theorem q_loadSl {o : Ob} {off : Nat} {x : Operand} {v : Value} (hp : p.Ok B B0) (hF : p.Free i) (hg : GdQ os a p B B0 w0 af gd) (ho : o ∈ p.old) (hk : o.F1 = o.F0 ∨ leadsB os 9 o.k i = true) (hoff : off + 1 ≤ o.m)
    (hx : SrcQ os a p B B0 w0 af x fun u _ => u = .pointer (some ⟨o.b, off, none⟩)) (hC : ∀ (us : List Value) (w : World), us.length = o.m → o.F0.P (.agg us.toArray) w → us.getD off undef = v ∧ (p.c i).P v w) :
    StepQ os Q a p B B0 w0 i { dst := d, op := .load 22 x, type := ty, pos := ps, after := af, guard := gd } := by
  refine stq_val hp hF hg fun L vs w hG hL hc hd => ?_
  obtain ⟨us, hl, h0, hat, ht, hP⟩ := box_now ho hk hG hL hc
  have e := hx L vs w hG hd
  have c0 := (hat off (by omega)).1
  obtain ⟨e2, hP2⟩ := hC us w hl hP
  refine ⟨_, ?_, hP2⟩
  rw [e2] at c0
  generalize (lay os.toArray L vs os.toArray.size a).eval = ρ at e
  simp [execOp, go_sem, e, c0]

/-- The length of a slice. -/
theorem q_lenW {x : Operand} {ad : Option Addr} {k c : Nat} (hp : p.Ok B B0) (hF : p.Free i) (hg : GdQ os a p B B0 w0 af gd) (hx : SrcQ os a p B B0 w0 af x fun v _ => v = .slice ad k c) (hC : ∀ w, (p.c i).P (.int .i64 k) w) :
    StepQ os Q a p B B0 w0 i { dst := d, op := .call { callee := .builtin .len, args := #[x], argTypes := #[22] }, type := ty, pos := ps, after := af, guard := gd } :=
  q_one hp hF hg hx fun ρ w _ h => ⟨.int .i64 k, by simp [go_sem, h], hC w⟩
theorem q_lenR {x : Operand} {ad : Option Addr} {k c : Nat} (hp : p.Ok B B0) (hF : p.Free i) (hg : GdQ os a p B B0 w0 af gd) (hx : SrcQ os a p B B0 w0 af x fun v _ => v = .slice ad k c) (hC : ∀ w, (p.c i).P (.int .i64 k) w) :
    StepQ os Q a p B B0 w0 i { dst := d, op := .call { callee := .builtin .len, args := #[x], argTypes := #[44] }, type := ty, pos := ps, after := af, guard := gd } :=
  q_one hp hF hg hx fun ρ w _ h => ⟨.int .i64 k, by simp [go_sem, h], hC w⟩

/-- An element's address. -/
theorem q_index {b l k : Nat} {x y : Operand} (hp : p.Ok B B0) (hF : p.Free i) (hg : GdQ os a p B B0 w0 af gd) (hx : SrcQ os a p B B0 w0 af x fun v _ => v = .slice (some ⟨b, 0, none⟩) l l) (hy : SrcQ os a p B B0 w0 af y fun v _ => v = .int .i64 k) (hk : k < l)
    (hC : ∀ w, (p.c i).P (.pointer (some ⟨b, k * 4, none⟩)) w) :
    StepQ os Q a p B B0 w0 i { dst := d, op := .indexAddr 44 x y, type := ty, pos := ps, after := af, guard := gd } :=
  q_two hp hF hg hx hy fun ρ w _ h h' => ⟨_, by
    have h0 : (k : Int) < (l : Int) := by omega
    have h1 : (0 : Int) ≤ (k : Int) := by omega
    simp [execOp, go_sem, h, h', h0, h1], hC w⟩

/-- A fraction, loaded out of a part of a box. -/
theorem q_loadRatAt {o : Ob} {off : Nat} {x : Operand} (hp : p.Ok B B0) (hF : p.Free i) (hg : GdQ os a p B B0 w0 af gd) (ho : o ∈ p.old) (hk : o.F1 = o.F0 ∨ leadsB os 9 o.k i = true) (hoff : off + 4 ≤ o.m)
    (hx : SrcQ os a p B B0 w0 af x fun u _ => u = .pointer (some ⟨o.b, off, none⟩)) (hC : ∀ (us : List Value) (w : World), us.length = o.m → o.F0.P (.agg us.toArray) w → (p.c i).P (.agg #[us.getD off undef, us.getD (off + 1) undef, us.getD (off + 2) undef, us.getD (off + 3) undef]) w) :
    StepQ os Q a p B B0 w0 i { dst := d, op := .load 31 x, type := ty, pos := ps, after := af, guard := gd } := by
  refine stq_val hp hF hg fun L vs w hG hL hc hd => ?_
  obtain ⟨us, hl, h0, hat, ht, hP⟩ := box_now ho hk hG hL hc
  have e := hx L vs w hG hd
  have c0 := (hat off (by omega)).1
  have c1 := (hat (off + 1) (by omega)).1
  have c2 := (hat (off + 2) (by omega)).1
  have c3 := (hat (off + 3) (by omega)).1
  refine ⟨_, ?_, hC us w hl hP⟩
  generalize (lay os.toArray L vs os.toArray.size a).eval = ρ at e
  generalize us.getD off undef = u0 at c0 ⊢
  generalize us.getD (off + 1) undef = u1 at c1 ⊢
  generalize us.getD (off + 2) undef = u2 at c2 ⊢
  generalize us.getD (off + 3) undef = u3 at c3 ⊢
  simp [execOp, go_sem, e, c0, c1, c2, c3]

theorem ld_rats {qs : List (Int × Int)} {k : Nat} {n d : Int} {us : List Value} {w : World} (hk : qs[k]? = some (n, d)) (h : (Fq.rats qs).P (.agg us.toArray) w) : Pair w (.agg #[us.getD (k * 4) undef, us.getD (k * 4 + 1) undef, us.getD (k * 4 + 2) undef, us.getD (k * 4 + 3) undef]) n d := by
  obtain ⟨us', e, _, h⟩ := h
  injection e with e
  have e2 := congrArg Array.toList e
  simp at e2
  subst e2
  exact h k n d hk

/-- A value is passed on inside the region. -/
theorem stepS_assign {same : List (Nat × Nat)} {j : Nat} (hp : p.Ok B B0) (hF : p.Free i) (ha : apartB (os.map (·.dst)) = true) (hj : (os.map (·.dst))[j]? = some (some s)) (hs : s < a.tmps.size) (hdep : depA af j = true) (hC : ∀ v w, (p.c i).P v w)
    (hsm : same.all (fun x => x.1 != i || x.2 == j) = true) (hne : j ≠ i) : StepS os Q a p B B0 w0 same i { dst := d, op := .assign (.tmp s), type := ty, pos := ps, after := af, guard := none } := by
  intro hio L vs w hG hL hd hc
  have hLj := depA_of hdep hd
  have he := lay_in (vs := vs) ha hLj hj hs
  refine wpOp_step hio fun K' hK => ?_
  have hwn : Region.wanted ({ dst := d, op := .assign (.tmp s), type := ty, pos := ps, after := af, guard := none } : Oper) (yielded os.toArray (lay os.toArray L vs os.toArray.size a).tmps) = true := rfl
  rw [if_pos hwn]
  have e : (execOp (lay os.toArray L vs os.toArray.size a).eval ({ dst := d, op := .assign (.tmp s), type := ty, pos := ps, after := af, guard := none } : Oper)).run Try.prog w = .ok (.value (vs j)) w := by
    generalize (lay os.toArray L vs os.toArray.size a).eval = ρ at he
    simp [execOp, go_sem, he]
  unfold Oper.wp
  rw [e]
  refine hK _ _ ⟨_, rfl, hG.1.plain hp hF (Below.refl _ _) (hC _ _), fun x hx h1 => ?_⟩
  by_cases hx1 : x.1 = i
  · have h2 : x.2 = j := by
      have := List.all_eq_true.1 hsm x hx
      simpa [hx1] using this
    rw [hx1, h2, up_same, up_ne _ _ hne, up_ne _ _ hne]
    exact ⟨hLj, rfl⟩
  · rw [up_ne _ _ hx1] at h1
    obtain ⟨h2, h3⟩ := hG.2 x hx h1
    have hx2 : x.2 ≠ i := fun e => by rw [e, hL] at h2; cases h2
    rw [up_ne _ _ hx1, up_ne _ _ hx2, up_ne _ _ hx2]
    exact ⟨h2, h3⟩

/-- A slice is built of four fractions. -/
theorem q_buildRats4 {n0 : Nb} {x y z t : Operand} {n1 d1 n2 d2 n3 d3 n4 d4 : Int} (hp : p.Ok B B0) (hi : n0 ∈ p.new) (hii : n0.i = i) (hki : n0.k = i) (hsl : n0.s = some 4) (hm : n0.m = 16) (hF1 : n0.F1 = Fq.rats [(n1, d1), (n2, d2), (n3, d3), (n4, d4)])
    (hx : SrcQ os a p B B0 w0 af x fun v w => Pair w v n1 d1) (hy : SrcQ os a p B B0 w0 af y fun v w => Pair w v n2 d2) (hz : SrcQ os a p B B0 w0 af z fun v w => Pair w v n3 d3) (ht : SrcQ os a p B B0 w0 af t fun v w => Pair w v n4 d4)
    (hC : ∀ v w', (p.c i).P v w') (h1 : ∀ o ∈ p.old, o.k ≠ i) (h2 : ∀ n ∈ p.new, n.i ≠ i → n.k ≠ i) :
    StepQ os Q a p B B0 w0 i { dst := d, op := .buildSlice 44 4 #[(0, x), (1, y), (2, z), (3, t)], type := ty, pos := ps, after := af, guard := none } := by
  intro hio L vs w hG hL hd hc
  have p1 := hx L vs w hG hd
  have p2 := hy L vs w hG hd
  have p3 := hz L vs w hG hd
  have p4 := ht L vs w hG hd
  obtain ⟨m1, a1, k1, c1, m1', a1', k1', c1', e1, _⟩ := ratV_pair p1
  obtain ⟨m2, a2, k2, c2, m2', a2', k2', c2', e2, _⟩ := ratV_pair p2
  obtain ⟨m3, a3, k3, c3, m3', a3', k3', c3', e3, _⟩ := ratV_pair p3
  obtain ⟨m4, a4, k4, c4, m4', a4', k4', c4', e4, _⟩ := ratV_pair p4
  rw [e1] at p1
  rw [e2] at p2
  rw [e3] at p3
  rw [e4] at p4
  obtain ⟨us, hus⟩ : ∃ us : List Value, us = [.bool m1, .slice a1 k1 c1, .bool m1', .slice a1' k1' c1', .bool m2, .slice a2 k2 c2, .bool m2', .slice a2' k2' c2', .bool m3, .slice a3 k3 c3, .bool m3', .slice a3' k3' c3', .bool m4, .slice a4 k4 c4, .bool m4', .slice a4' k4' c4'] := ⟨_, rfl⟩
  have hwn : Region.wanted ({ dst := d, op := .buildSlice 44 4 #[(0, x), (1, y), (2, z), (3, t)], type := ty, pos := ps, after := af, guard := none } : Oper) (yielded os.toArray (lay os.toArray L vs os.toArray.size a).tmps) = true := rfl
  refine wpOp_step hio fun K' hK => ?_
  rw [if_pos hwn]
  have e : (execOp (lay os.toArray L vs os.toArray.size a).eval ({ dst := d, op := .buildSlice 44 4 #[(0, x), (1, y), (2, z), (3, t)], type := ty, pos := ps, after := af, guard := none } : Oper)).run Try.prog w = .ok (.value (.slice (some ⟨w.heap.size, 0, none⟩) 4 4)) (w.alloc (.cells us.toArray 31)) := by
    generalize (lay os.toArray L vs os.toArray.size a).eval = ρ at e1 e2 e3 e4
    simp [execOp, go_sem, e1, e2, e3, e4, hus]
  unfold Oper.wp
  rw [e]
  have hb := alloc_below w (.cells us.toArray 31)
  subst hii
  have hnow : n0.now (up L n0.i true) = n0.F1 := by
    unfold Nb.now
    rw [hsl]
    rfl
  have hlay := hG.lay hp hi (F := n0.F1) hnow hC h1 h2 31 (us := us) (by rw [hus, hm]; rfl) (by omega) (by
      rw [hus]
      intro u hu q e
      simp at hu
      rcases hu with rfl | rfl | rfl | rfl | rfl | rfl | rfl | rfl | rfl | rfl | rfl | rfl | rfl | rfl | rfl | rfl <;> cases e) (by
      rw [hF1]
      refine ⟨us, rfl, by rw [hus]; rfl, fun k n d hk => ?_⟩
      match k, hk with
      | 0, hk => injection hk with hk; injection hk with q1 q2; subst q1; subst q2; have hm := p1.mono hb; rw [hus] at hm; rw [hus]; exact hm
      | 1, hk => injection hk with hk; injection hk with q1 q2; subst q1; subst q2; have hm := p2.mono hb; rw [hus] at hm; rw [hus]; exact hm
      | 2, hk => injection hk with hk; injection hk with q1 q2; subst q1; subst q2; have hm := p3.mono hb; rw [hus] at hm; rw [hus]; exact hm
      | 3, hk => injection hk with hk; injection hk with q1 q2; subst q1; subst q2; have hm := p4.mono hb; rw [hus] at hm; rw [hus]; exact hm
      | k + 4, hk => simp at hk)
  have hptr : n0.ptr w.heap.size = .slice (some ⟨w.heap.size, 0, none⟩) 4 4 := by unfold Nb.ptr; rw [hsl]
  rw [hptr] at hlay
  exact hK _ _ ⟨_, rfl, hlay⟩

end

theorem ld_sl1 {n n' : Bool} {a a' : Option Addr} {k c k' c' : Nat} {xs xs' : List Int} {us : List Value} {w : World} (hl : us.length = 4) (h : (Fq.raw2 n a k c xs n' a' k' c' xs').P (.agg us.toArray) w) : us.getD 1 undef = .slice a k c := by
  match us, hl with
  | [p, q, r, s], _ =>
    obtain ⟨e, h1, h2⟩ := h
    injection e with e
    have e2 := congrArg Array.toList e
    simp at e2
    obtain ⟨rfl, rfl, rfl, rfl⟩ := e2
    rfl
theorem ld_sl2 {n n' : Bool} {a a' : Option Addr} {k c k' c' : Nat} {xs xs' : List Int} {us : List Value} {w : World} (hl : us.length = 4) (h : (Fq.raw2 n a k c xs n' a' k' c' xs').P (.agg us.toArray) w) : us.getD 3 undef = .slice a' k' c' := by
  match us, hl with
  | [p, q, r, s], _ =>
    obtain ⟨e, h1, h2⟩ := h
    injection e with e
    have e2 := congrArg Array.toList e
    simp at e2
    obtain ⟨rfl, rfl, rfl, rfl⟩ := e2
    rfl

theorem newks_ne {C : List Fq} {bs : List (Nat × Nat × Fq)} {ks : List (Option (Nat × Fq))} {new : List Nb} {len i : Nat} (h : new.all (fun n => n.i == i || n.k != i) = true) : ∀ n ∈ (plq C bs ks new len).new, n.i ≠ i → n.k ≠ i := fun n hn hi e => by
  have := List.all_eq_true.1 h n hn
  simp [e, hi] at this

end Go.Proofs.Ytlehjhlihahjhaa

/- Walks: Valid of fractions of any shape. -/
namespace Go.Proofs.Ytlehjhlihahjhaa
open Go Go.RowKit

theorem exValidRaw {w : World} {v : Value} {n : Bool} {a : Option Addr} {k c : Nat} {xs : List Int} {t : Bool} (h : (Fq.raw n a k c xs).P v w) (hk : k ≤ 1000) (ht : validB n xs = t) : Calls Try.prog 46 #[v] w fun e w' => ∃ v', e = .returned v' ∧ Below w.heap.size w w' ∧ v' = .bool t := by
  obtain ⟨rfl, hs⟩ := h
  refine (Valid_any w n a k c xs hs (by omega)).mono fun e w' hh => ⟨_, hh.1, hh.2, ?_⟩
  rw [ht]
theorem exRValidRaw {w : World} {v : Value} {n : Bool} {a : Option Addr} {k c : Nat} {xs : List Int} {t : Bool} (h : (Fq.raw n a k c xs).P v w) (hk : k ≤ 1000) (ht : validB n xs = t) : Calls Try.prog 44 #[v] w fun e w' => ∃ v', e = .returned v' ∧ Below w.heap.size w w' ∧ v' = .bool t := by
  obtain ⟨rfl, hs⟩ := h
  refine (rValid_any w n a k c xs hs (by omega)).mono fun e w' hh => ⟨_, hh.1, hh.2, ?_⟩
  rw [ht]

set_option maxRecDepth 100000 in
set_option maxHeartbeats 4000000 in
theorem exValidT {w : World} {v : Value} {n d : Int} (h : Pair w v n d) (hn : ab n < pw 100) (hd : ab d < pw 100) (hd0 : 0 < d) (hg : Int.gcd n d = 1) :
    Calls Try.prog 21 #[v] w fun e w' => ∃ v', e = .returned v' ∧ Below w.heap.size w w' ∧ v' = .bool true := by
  replace hn := hidd hn
  replace hd := hidd hd
  obtain ⟨n0, ao0, k0, c0, n0', ao0', k0', c0', rfl, _⟩ := ratV_pair h
  obtain ⟨w1, b1, hw1, hb1, hs1, E⟩ := fr_start w (F := Fq.pair n d) (us := [.bool n0, .slice ao0 k0 c0, .bool n0', .slice ao0' k0' c0']) 31 rfl (by simp) (tame_rat _ _ _ _ _ _ _ _) h
  go_enter Try.func21, Try.ntmps21
  go_upto_region 1 with (fail)
  rw [← hw1]
  rw [← hb1]
  clear hw1 hb1 hs1
  have T : Hid (0 < cmpI d 0) := cmpIqgt.2 hd0
  have B2 : Hid (ab ((Int.gcd n d : Int)) < pw 100) := ab_gcdB hn.out hd.out (by omega) (by omega)
  refine region_fr (C := [Fq.is (.pointer (some ⟨b1, 0, none⟩)), Fq.num n, Fq.is (.bool true), Fq.is (.bool true), Fq.is (.pointer (some ⟨b1, 2, none⟩)), Fq.num d, Fq.is (.bool true), Fq.is (.bool true), Fq.is (.bool true), Fq.is (.pointer (some ⟨b1, 2, none⟩)), Fq.num d, Fq.is (.int .i64 (cmpI d 0)), Fq.is (.bool true), Fq.is (.bool true), Fq.is (.bool true), Fq.is (.pointer (some ⟨b1, 0, none⟩)), Fq.num n, Fq.is (.pointer (some ⟨b1, 2, none⟩)), Fq.num d, Fq.num (Int.gcd n d : Int), Fq.is (.bool true), Fq.is (.bool true), Fq.is (.bool true)]) (ks := [none]) (new := []) E rfl (by kernel_rfl) rfl rfl (fun hp => ⟨?_, ?_, ?_, ?_, ?_, ?_, ?_, ?_, ?_, ?_, ?_, ?_, ?_, ?_, ?_, ?_, ?_, ?_, ?_, ?_, ?_, ?_, ?_, trivial⟩) ?_
  · exact q_addr (b := b1) (off := 0) (off' := 0) hp (free_of rfl) trivial (sq_out rfl rfl (fun _ _ => rfl)) (fun ρ w h => by simp [execOp, go_sem, h]) (fun _ => rfl)
  · exact q_loadInt (off := 0) hp (free_of rfl) trivial (List.mem_iff_getElem?.2 ⟨0, rfl⟩) (.inl rfl) (Nat.le_of_ble_eq_true rfl) (sq_in 0 rfl rfl (by simp) rfl (fun v w h => h)) (fun us w hl h => ld_pn hl h)
  · exact q_call1 (F := (Fq.num n).P) hp (free_of rfl) trivial (enq_Valid) (sq_in 1 rfl rfl (by simp) rfl (fun v w h => h)) (fun v w h => exIsValid h)
  · exact q_move hp (free_of rfl) trivial (sq_in 2 rfl rfl (by simp) rfl (fun v w h => h))
  · exact q_addr (b := b1) (off := 0) (off' := 2) hp (free_of rfl) (gq_some rfl rfl (by simp) rfl (fun v w h => h)) (sq_out rfl rfl (fun _ _ => rfl)) (fun ρ w h => by simp [execOp, go_sem, h]) (fun _ => rfl)
  · exact q_loadInt (off := 2) hp (free_of rfl) (gq_some rfl rfl (by simp) rfl (fun v w h => h)) (List.mem_iff_getElem?.2 ⟨0, rfl⟩) (.inl rfl) (Nat.le_of_ble_eq_true rfl) (sq_in 4 rfl rfl (by simp) rfl (fun v w h => h)) (fun us w hl h => ld_pd hl h)
  · exact q_call1 (F := (Fq.num d).P) hp (free_of rfl) (gq_some rfl rfl (by simp) rfl (fun v w h => h)) (enq_Valid) (sq_in 5 rfl rfl (by simp) rfl (fun v w h => h)) (fun v w h => exIsValid h)
  · exact q_two (F := fun v _ => v = .bool true) (G := fun v _ => v = .bool true) hp (free_of rfl) trivial (sq_in 3 rfl rfl (by simp) rfl (fun v w h => h)) (sq_in 6 rfl rfl (by simp) rfl (fun v w h => h)) (fun ρ w hc h h' => ⟨_, by simp [execOp, go_sem, h, h'], rfl⟩)
  · exact q_move hp (free_of rfl) trivial (sq_in 7 rfl rfl (by simp) rfl (fun v w h => h))
  · exact q_addr (b := b1) (off := 0) (off' := 2) hp (free_of rfl) (gq_some rfl rfl (by simp) rfl (fun v w h => h)) (sq_out rfl rfl (fun _ _ => rfl)) (fun ρ w h => by simp [execOp, go_sem, h]) (fun _ => rfl)
  · exact q_loadInt (off := 2) hp (free_of rfl) (gq_some rfl rfl (by simp) rfl (fun v w h => h)) (List.mem_iff_getElem?.2 ⟨0, rfl⟩) (.inl rfl) (Nat.le_of_ble_eq_true rfl) (sq_in 9 rfl rfl (by simp) rfl (fun v w h => h)) (fun us w hl h => ld_pd hl h)
  · exact q_call1 (F := (Fq.num d).P) hp (free_of rfl) (gq_some rfl rfl (by simp) rfl (fun v w h => h)) (enq_Sign) (sq_in 10 rfl rfl (by simp) rfl (fun v w h => h)) (fun v w h => exSign h)
  · exact q_one (F := fun v _ => v = .int .i64 (cmpI d 0)) hp (free_of rfl) (gq_some rfl rfl (by simp) rfl (fun v w h => h)) (sq_in 11 rfl rfl (by simp) rfl (fun v w h => h)) (fun ρ w hc h => ⟨.bool true, by simp [execOp, go_sem, h, hc, T.out], rfl⟩)
  · exact q_two (F := fun v _ => v = .bool true) (G := fun v _ => v = .bool true) hp (free_of rfl) trivial (sq_in 8 rfl rfl (by simp) rfl (fun v w h => h)) (sq_in 12 rfl rfl (by simp) rfl (fun v w h => h)) (fun ρ w hc h h' => ⟨_, by simp [execOp, go_sem, h, h'], rfl⟩)
  · exact q_move hp (free_of rfl) trivial (sq_in 13 rfl rfl (by simp) rfl (fun v w h => h))
  · exact q_addr (b := b1) (off := 0) (off' := 0) hp (free_of rfl) (gq_some rfl rfl (by simp) rfl (fun v w h => h)) (sq_out rfl rfl (fun _ _ => rfl)) (fun ρ w h => by simp [execOp, go_sem, h]) (fun _ => rfl)
  · exact q_loadInt (off := 0) hp (free_of rfl) (gq_some rfl rfl (by simp) rfl (fun v w h => h)) (List.mem_iff_getElem?.2 ⟨0, rfl⟩) (.inl rfl) (Nat.le_of_ble_eq_true rfl) (sq_in 15 rfl rfl (by simp) rfl (fun v w h => h)) (fun us w hl h => ld_pn hl h)
  · exact q_addr (b := b1) (off := 0) (off' := 2) hp (free_of rfl) (gq_some rfl rfl (by simp) rfl (fun v w h => h)) (sq_out rfl rfl (fun _ _ => rfl)) (fun ρ w h => by simp [execOp, go_sem, h]) (fun _ => rfl)
  · exact q_loadInt (off := 2) hp (free_of rfl) (gq_some rfl rfl (by simp) rfl (fun v w h => h)) (List.mem_iff_getElem?.2 ⟨0, rfl⟩) (.inl rfl) (Nat.le_of_ble_eq_true rfl) (sq_in 17 rfl rfl (by simp) rfl (fun v w h => h)) (fun us w hl h => ld_pd hl h)
  · exact q_call2 (F := (Fq.num n).P) (G := (Fq.num d).P) hp (free_of rfl) (gq_some rfl rfl (by simp) rfl (fun v w h => h)) (enq_Gcd) (sq_in 16 rfl rfl (by simp) rfl (fun v w h => h)) (sq_in 18 rfl rfl (by simp) rfl (fun v w h => h)) (fun v v' w h h' => exK (GcdV h h') B2.out (by omega))
  · exact q_call1 (F := (Fq.num (Int.gcd n d : Int)).P) hp (free_of rfl) (gq_some rfl rfl (by simp) rfl (fun v w h => h)) (enq_Q_isOne) (sq_in 19 rfl rfl (by simp) rfl (fun v w h => h)) (fun v w h => exIsOneB h (decide_eq_true (by omega)))
  · exact q_two (F := fun v _ => v = .bool true) (G := fun v _ => v = .bool true) hp (free_of rfl) trivial (sq_in 14 rfl rfl (by simp) rfl (fun v w h => h)) (sq_in 20 rfl rfl (by simp) rfl (fun v w h => h)) (fun ρ w hc h h' => ⟨_, by simp [execOp, go_sem, h, h'], rfl⟩)
  · exact q_assign hp (free_of rfl) trivial (sq_in 21 rfl rfl (by simp) rfl (fun v w h => h))
  intro L vs w3 nb hL hC hn E3
  have e0 : vs 0 = .pointer (some ⟨b1, 0, none⟩) := hC 0 (by simp)
  have e2 : vs 2 = .bool true := hC 2 (by simp)
  have e3 : vs 3 = .bool true := hC 3 (by simp)
  have e4 : vs 4 = .pointer (some ⟨b1, 2, none⟩) := hC 4 (by simp)
  have e6 : vs 6 = .bool true := hC 6 (by simp)
  have e7 : vs 7 = .bool true := hC 7 (by simp)
  have e8 : vs 8 = .bool true := hC 8 (by simp)
  have e9 : vs 9 = .pointer (some ⟨b1, 2, none⟩) := hC 9 (by simp)
  have e11 : vs 11 = .int .i64 (cmpI d 0) := hC 11 (by simp)
  have e12 : vs 12 = .bool true := hC 12 (by simp)
  have e13 : vs 13 = .bool true := hC 13 (by simp)
  have e14 : vs 14 = .bool true := hC 14 (by simp)
  have e15 : vs 15 = .pointer (some ⟨b1, 0, none⟩) := hC 15 (by simp)
  have e17 : vs 17 = .pointer (some ⟨b1, 2, none⟩) := hC 17 (by simp)
  have e20 : vs 20 = .bool true := hC 20 (by simp)
  have e21 : vs 21 = .bool true := hC 21 (by simp)
  have e22 : vs 22 = .bool true := hC 22 (by simp)
  have E : Fr w [(b1, 4, Fq.pair n d)] w3 := E3
  rw [lay_all hL]
  simp only [putAll, dstOf, List.length_cons, List.length_nil, Nat.zero_add, Nat.reduceAdd, List.getElem?_toArray, List.getElem?_cons_zero, List.getElem?_cons_succ, Option.bind_some, Act.put, List.setIfInBounds_toArray, List.set_cons_succ, List.set_cons_zero]
  rw [e0, e2, e3, e4, e6, e7, e8, e9, e11, e12, e13, e14, e15, e17, e20, e21, e22]
  generalize vs 1 = u3_1
  generalize vs 5 = u3_5
  generalize vs 10 = u3_10
  generalize vs 16 = u3_16
  generalize vs 18 = u3_18
  generalize vs 19 = u3_19
  clear e0 e2 e3 e4 e6 e7 e8 e9 e11 e12 e13 e14 e15 e17 e20 e21 e22 hC hn E3 hL vs L nb
  clear B2 hn hd
  go_wp2
  refine bodyPost_ret (v := .bool true) ?_ rfl (by first | exact ⟨_, rfl, E.below, rfl⟩ | exact ⟨_, rfl, E.below⟩ | exact ⟨rfl, E.below⟩)
  simp [results, Try.results21, go_sem]

set_option maxRecDepth 100000 in
set_option maxHeartbeats 4000000 in
theorem exSValidT {w : World} {v : Value} {n d : Int} (h : Pair w v n d) (hn : ab n < pw 100) (hd : ab d < pw 100) (hd0 : 0 < d) (hg : Int.gcd n d = 1) :
    Calls Try.prog 20 #[v] w fun e w' => ∃ v', e = .returned v' ∧ Below w.heap.size w w' ∧ v' = .bool true := by
  replace hn := hidd hn
  replace hd := hidd hd
  obtain ⟨n0, ao0, k0, c0, n0', ao0', k0', c0', rfl, _⟩ := ratV_pair h
  obtain ⟨w1, b1, hw1, hb1, hs1, E⟩ := fr_start w (F := Fq.pair n d) (us := [.bool n0, .slice ao0 k0 c0, .bool n0', .slice ao0' k0' c0']) 31 rfl (by simp) (tame_rat _ _ _ _ _ _ _ _) h
  go_enter Try.func20, Try.ntmps20
  go_upto_region 1 with (fail)
  rw [← hw1]
  rw [← hb1]
  clear hw1 hb1 hs1
  have T : Hid (0 < cmpI d 0) := cmpIqgt.2 hd0
  have B2 : Hid (ab ((Int.gcd n d : Int)) < pw 100) := ab_gcdB hn.out hd.out (by omega) (by omega)
  have B3 : Hid (ab ((1)) < pw 3) := ab_lit (by decide)
  refine region_fr (C := [Fq.is (.pointer (some ⟨b1, 0, none⟩)), Fq.num n, Fq.is (.bool true), Fq.is (.bool true), Fq.is (.pointer (some ⟨b1, 2, none⟩)), Fq.num d, Fq.is (.bool true), Fq.is (.bool true), Fq.is (.bool true), Fq.is (.pointer (some ⟨b1, 2, none⟩)), Fq.num d, Fq.is (.int .i64 (cmpI d 0)), Fq.is (.bool true), Fq.is (.bool true), Fq.is (.bool true), Fq.is (.pointer (some ⟨b1, 0, none⟩)), Fq.num n, Fq.is (.pointer (some ⟨b1, 2, none⟩)), Fq.num d, Fq.num (Int.gcd n d : Int), Fq.num (1), Fq.is (.bool true), Fq.is (.bool true), Fq.is (.bool true)]) (ks := [none]) (new := []) E rfl (by kernel_rfl) rfl rfl (fun hp => ⟨?_, ?_, ?_, ?_, ?_, ?_, ?_, ?_, ?_, ?_, ?_, ?_, ?_, ?_, ?_, ?_, ?_, ?_, ?_, ?_, ?_, ?_, ?_, ?_, trivial⟩) ?_
  · exact q_addr (b := b1) (off := 0) (off' := 0) hp (free_of rfl) trivial (sq_out rfl rfl (fun _ _ => rfl)) (fun ρ w h => by simp [execOp, go_sem, h]) (fun _ => rfl)
  · exact q_loadInt (off := 0) hp (free_of rfl) trivial (List.mem_iff_getElem?.2 ⟨0, rfl⟩) (.inl rfl) (Nat.le_of_ble_eq_true rfl) (sq_in 0 rfl rfl (by simp) rfl (fun v w h => h)) (fun us w hl h => ld_pn hl h)
  · exact q_call1 (F := (Fq.num n).P) hp (free_of rfl) trivial (enq_R_Valid) (sq_in 1 rfl rfl (by simp) rfl (fun v w h => h)) (fun v w h => exRIsValid h)
  · exact q_move hp (free_of rfl) trivial (sq_in 2 rfl rfl (by simp) rfl (fun v w h => h))
  · exact q_addr (b := b1) (off := 0) (off' := 2) hp (free_of rfl) (gq_some rfl rfl (by simp) rfl (fun v w h => h)) (sq_out rfl rfl (fun _ _ => rfl)) (fun ρ w h => by simp [execOp, go_sem, h]) (fun _ => rfl)
  · exact q_loadInt (off := 2) hp (free_of rfl) (gq_some rfl rfl (by simp) rfl (fun v w h => h)) (List.mem_iff_getElem?.2 ⟨0, rfl⟩) (.inl rfl) (Nat.le_of_ble_eq_true rfl) (sq_in 4 rfl rfl (by simp) rfl (fun v w h => h)) (fun us w hl h => ld_pd hl h)
  · exact q_call1 (F := (Fq.num d).P) hp (free_of rfl) (gq_some rfl rfl (by simp) rfl (fun v w h => h)) (enq_R_Valid) (sq_in 5 rfl rfl (by simp) rfl (fun v w h => h)) (fun v w h => exRIsValid h)
  · exact q_two (F := fun v _ => v = .bool true) (G := fun v _ => v = .bool true) hp (free_of rfl) trivial (sq_in 3 rfl rfl (by simp) rfl (fun v w h => h)) (sq_in 6 rfl rfl (by simp) rfl (fun v w h => h)) (fun ρ w hc h h' => ⟨_, by simp [execOp, go_sem, h, h'], rfl⟩)
  · exact q_move hp (free_of rfl) trivial (sq_in 7 rfl rfl (by simp) rfl (fun v w h => h))
  · exact q_addr (b := b1) (off := 0) (off' := 2) hp (free_of rfl) (gq_some rfl rfl (by simp) rfl (fun v w h => h)) (sq_out rfl rfl (fun _ _ => rfl)) (fun ρ w h => by simp [execOp, go_sem, h]) (fun _ => rfl)
  · exact q_loadInt (off := 2) hp (free_of rfl) (gq_some rfl rfl (by simp) rfl (fun v w h => h)) (List.mem_iff_getElem?.2 ⟨0, rfl⟩) (.inl rfl) (Nat.le_of_ble_eq_true rfl) (sq_in 9 rfl rfl (by simp) rfl (fun v w h => h)) (fun us w hl h => ld_pd hl h)
  · exact q_call1 (F := (Fq.num d).P) hp (free_of rfl) (gq_some rfl rfl (by simp) rfl (fun v w h => h)) (enq_R_Sign) (sq_in 10 rfl rfl (by simp) rfl (fun v w h => h)) (fun v w h => exRSign h)
  · exact q_one (F := fun v _ => v = .int .i64 (cmpI d 0)) hp (free_of rfl) (gq_some rfl rfl (by simp) rfl (fun v w h => h)) (sq_in 11 rfl rfl (by simp) rfl (fun v w h => h)) (fun ρ w hc h => ⟨.bool true, by simp [execOp, go_sem, h, hc, T.out], rfl⟩)
  · exact q_two (F := fun v _ => v = .bool true) (G := fun v _ => v = .bool true) hp (free_of rfl) trivial (sq_in 8 rfl rfl (by simp) rfl (fun v w h => h)) (sq_in 12 rfl rfl (by simp) rfl (fun v w h => h)) (fun ρ w hc h h' => ⟨_, by simp [execOp, go_sem, h, h'], rfl⟩)
  · exact q_move hp (free_of rfl) trivial (sq_in 13 rfl rfl (by simp) rfl (fun v w h => h))
  · exact q_addr (b := b1) (off := 0) (off' := 0) hp (free_of rfl) (gq_some rfl rfl (by simp) rfl (fun v w h => h)) (sq_out rfl rfl (fun _ _ => rfl)) (fun ρ w h => by simp [execOp, go_sem, h]) (fun _ => rfl)
  · exact q_loadInt (off := 0) hp (free_of rfl) (gq_some rfl rfl (by simp) rfl (fun v w h => h)) (List.mem_iff_getElem?.2 ⟨0, rfl⟩) (.inl rfl) (Nat.le_of_ble_eq_true rfl) (sq_in 15 rfl rfl (by simp) rfl (fun v w h => h)) (fun us w hl h => ld_pn hl h)
  · exact q_addr (b := b1) (off := 0) (off' := 2) hp (free_of rfl) (gq_some rfl rfl (by simp) rfl (fun v w h => h)) (sq_out rfl rfl (fun _ _ => rfl)) (fun ρ w h => by simp [execOp, go_sem, h]) (fun _ => rfl)
  · exact q_loadInt (off := 2) hp (free_of rfl) (gq_some rfl rfl (by simp) rfl (fun v w h => h)) (List.mem_iff_getElem?.2 ⟨0, rfl⟩) (.inl rfl) (Nat.le_of_ble_eq_true rfl) (sq_in 17 rfl rfl (by simp) rfl (fun v w h => h)) (fun us w hl h => ld_pd hl h)
  · exact q_call2 (F := (Fq.num n).P) (G := (Fq.num d).P) hp (free_of rfl) (gq_some rfl rfl (by simp) rfl (fun v w h => h)) (enq_R_Gcd) (sq_in 16 rfl rfl (by simp) rfl (fun v w h => h)) (sq_in 18 rfl rfl (by simp) rfl (fun v w h => h)) (fun v v' w h h' => exRGcd h h' (Int.lt_of_lt_of_le hn.out (pw_le (by omega))) (Int.lt_of_lt_of_le hd.out (pw_le (by omega))))
  · exact q_call1 (F := (Fq.is (.int .i64 1)).P) hp (free_of rfl) (gq_some rfl rfl (by simp) rfl (fun v w h => h)) (enq_R_Of) (sq_const (fun _ => rfl)) (fun v w h => (by subst h; exact rOfK w (1) (by omega) (by omega)))
  · exact q_call2 (F := (Fq.num (Int.gcd n d : Int)).P) (G := (Fq.num (1)).P) hp (free_of rfl) (gq_some rfl rfl (by simp) rfl (fun v w h => h)) (enq_R_Same) (sq_in 19 rfl rfl (by simp) rfl (fun v w h => h)) (sq_in 20 rfl rfl (by simp) rfl (fun v w h => h)) (fun v v' w h h' => exRSameB h h' (decide_eq_true (by omega)))
  · exact q_two (F := fun v _ => v = .bool true) (G := fun v _ => v = .bool true) hp (free_of rfl) trivial (sq_in 14 rfl rfl (by simp) rfl (fun v w h => h)) (sq_in 21 rfl rfl (by simp) rfl (fun v w h => h)) (fun ρ w hc h h' => ⟨_, by simp [execOp, go_sem, h, h'], rfl⟩)
  · exact q_assign hp (free_of rfl) trivial (sq_in 22 rfl rfl (by simp) rfl (fun v w h => h))
  intro L vs w4 nb hL hC hn E4
  have e0 : vs 0 = .pointer (some ⟨b1, 0, none⟩) := hC 0 (by simp)
  have e2 : vs 2 = .bool true := hC 2 (by simp)
  have e3 : vs 3 = .bool true := hC 3 (by simp)
  have e4 : vs 4 = .pointer (some ⟨b1, 2, none⟩) := hC 4 (by simp)
  have e6 : vs 6 = .bool true := hC 6 (by simp)
  have e7 : vs 7 = .bool true := hC 7 (by simp)
  have e8 : vs 8 = .bool true := hC 8 (by simp)
  have e9 : vs 9 = .pointer (some ⟨b1, 2, none⟩) := hC 9 (by simp)
  have e11 : vs 11 = .int .i64 (cmpI d 0) := hC 11 (by simp)
  have e12 : vs 12 = .bool true := hC 12 (by simp)
  have e13 : vs 13 = .bool true := hC 13 (by simp)
  have e14 : vs 14 = .bool true := hC 14 (by simp)
  have e15 : vs 15 = .pointer (some ⟨b1, 0, none⟩) := hC 15 (by simp)
  have e17 : vs 17 = .pointer (some ⟨b1, 2, none⟩) := hC 17 (by simp)
  have e21 : vs 21 = .bool true := hC 21 (by simp)
  have e22 : vs 22 = .bool true := hC 22 (by simp)
  have e23 : vs 23 = .bool true := hC 23 (by simp)
  have E : Fr w [(b1, 4, Fq.pair n d)] w4 := E4
  rw [lay_all hL]
  simp only [putAll, dstOf, List.length_cons, List.length_nil, Nat.zero_add, Nat.reduceAdd, List.getElem?_toArray, List.getElem?_cons_zero, List.getElem?_cons_succ, Option.bind_some, Act.put, List.setIfInBounds_toArray, List.set_cons_succ, List.set_cons_zero]
  rw [e0, e2, e3, e4, e6, e7, e8, e9, e11, e12, e13, e14, e15, e17, e21, e22, e23]
  generalize vs 1 = u4_1
  generalize vs 5 = u4_5
  generalize vs 10 = u4_10
  generalize vs 16 = u4_16
  generalize vs 18 = u4_18
  generalize vs 19 = u4_19
  generalize vs 20 = u4_20
  clear e0 e2 e3 e4 e6 e7 e8 e9 e11 e12 e13 e14 e15 e17 e21 e22 e23 hC hn E4 hL vs L nb
  clear B2 B3 hn hd
  go_wp2
  refine bodyPost_ret (v := .bool true) ?_ rfl (by first | exact ⟨_, rfl, E.below, rfl⟩ | exact ⟨_, rfl, E.below⟩ | exact ⟨rfl, E.below⟩)
  simp [results, Try.results20, go_sem]

set_option maxRecDepth 100000 in
set_option maxHeartbeats 4000000 in
theorem exSValidG {w : World} {v : Value} {n d : Int} (h : Pair w v n d) (hn : ab n < pw 100) (hd : ab d < pw 100) (hd0 : 0 < d) (hg : Int.gcd n d ≠ 1) :
    Calls Try.prog 20 #[v] w fun e w' => ∃ v', e = .returned v' ∧ Below w.heap.size w w' ∧ v' = .bool false := by
  replace hn := hidd hn
  replace hd := hidd hd
  obtain ⟨n0, ao0, k0, c0, n0', ao0', k0', c0', rfl, _⟩ := ratV_pair h
  obtain ⟨w1, b1, hw1, hb1, hs1, E⟩ := fr_start w (F := Fq.pair n d) (us := [.bool n0, .slice ao0 k0 c0, .bool n0', .slice ao0' k0' c0']) 31 rfl (by simp) (tame_rat _ _ _ _ _ _ _ _) h
  go_enter Try.func20, Try.ntmps20
  go_upto_region 1 with (fail)
  rw [← hw1]
  rw [← hb1]
  clear hw1 hb1 hs1
  have T : Hid (0 < cmpI d 0) := cmpIqgt.2 hd0
  have B2 : Hid (ab ((Int.gcd n d : Int)) < pw 100) := ab_gcdB hn.out hd.out (by omega) (by omega)
  have B3 : Hid (ab ((1)) < pw 3) := ab_lit (by decide)
  refine region_fr (C := [Fq.is (.pointer (some ⟨b1, 0, none⟩)), Fq.num n, Fq.is (.bool true), Fq.is (.bool true), Fq.is (.pointer (some ⟨b1, 2, none⟩)), Fq.num d, Fq.is (.bool true), Fq.is (.bool true), Fq.is (.bool true), Fq.is (.pointer (some ⟨b1, 2, none⟩)), Fq.num d, Fq.is (.int .i64 (cmpI d 0)), Fq.is (.bool true), Fq.is (.bool true), Fq.is (.bool true), Fq.is (.pointer (some ⟨b1, 0, none⟩)), Fq.num n, Fq.is (.pointer (some ⟨b1, 2, none⟩)), Fq.num d, Fq.num (Int.gcd n d : Int), Fq.num (1), Fq.is (.bool false), Fq.is (.bool false), Fq.is (.bool false)]) (ks := [none]) (new := []) E rfl (by kernel_rfl) rfl rfl (fun hp => ⟨?_, ?_, ?_, ?_, ?_, ?_, ?_, ?_, ?_, ?_, ?_, ?_, ?_, ?_, ?_, ?_, ?_, ?_, ?_, ?_, ?_, ?_, ?_, ?_, trivial⟩) ?_
  · exact q_addr (b := b1) (off := 0) (off' := 0) hp (free_of rfl) trivial (sq_out rfl rfl (fun _ _ => rfl)) (fun ρ w h => by simp [execOp, go_sem, h]) (fun _ => rfl)
  · exact q_loadInt (off := 0) hp (free_of rfl) trivial (List.mem_iff_getElem?.2 ⟨0, rfl⟩) (.inl rfl) (Nat.le_of_ble_eq_true rfl) (sq_in 0 rfl rfl (by simp) rfl (fun v w h => h)) (fun us w hl h => ld_pn hl h)
  · exact q_call1 (F := (Fq.num n).P) hp (free_of rfl) trivial (enq_R_Valid) (sq_in 1 rfl rfl (by simp) rfl (fun v w h => h)) (fun v w h => exRIsValid h)
  · exact q_move hp (free_of rfl) trivial (sq_in 2 rfl rfl (by simp) rfl (fun v w h => h))
  · exact q_addr (b := b1) (off := 0) (off' := 2) hp (free_of rfl) (gq_some rfl rfl (by simp) rfl (fun v w h => h)) (sq_out rfl rfl (fun _ _ => rfl)) (fun ρ w h => by simp [execOp, go_sem, h]) (fun _ => rfl)
  · exact q_loadInt (off := 2) hp (free_of rfl) (gq_some rfl rfl (by simp) rfl (fun v w h => h)) (List.mem_iff_getElem?.2 ⟨0, rfl⟩) (.inl rfl) (Nat.le_of_ble_eq_true rfl) (sq_in 4 rfl rfl (by simp) rfl (fun v w h => h)) (fun us w hl h => ld_pd hl h)
  · exact q_call1 (F := (Fq.num d).P) hp (free_of rfl) (gq_some rfl rfl (by simp) rfl (fun v w h => h)) (enq_R_Valid) (sq_in 5 rfl rfl (by simp) rfl (fun v w h => h)) (fun v w h => exRIsValid h)
  · exact q_two (F := fun v _ => v = .bool true) (G := fun v _ => v = .bool true) hp (free_of rfl) trivial (sq_in 3 rfl rfl (by simp) rfl (fun v w h => h)) (sq_in 6 rfl rfl (by simp) rfl (fun v w h => h)) (fun ρ w hc h h' => ⟨_, by simp [execOp, go_sem, h, h'], rfl⟩)
  · exact q_move hp (free_of rfl) trivial (sq_in 7 rfl rfl (by simp) rfl (fun v w h => h))
  · exact q_addr (b := b1) (off := 0) (off' := 2) hp (free_of rfl) (gq_some rfl rfl (by simp) rfl (fun v w h => h)) (sq_out rfl rfl (fun _ _ => rfl)) (fun ρ w h => by simp [execOp, go_sem, h]) (fun _ => rfl)
  · exact q_loadInt (off := 2) hp (free_of rfl) (gq_some rfl rfl (by simp) rfl (fun v w h => h)) (List.mem_iff_getElem?.2 ⟨0, rfl⟩) (.inl rfl) (Nat.le_of_ble_eq_true rfl) (sq_in 9 rfl rfl (by simp) rfl (fun v w h => h)) (fun us w hl h => ld_pd hl h)
  · exact q_call1 (F := (Fq.num d).P) hp (free_of rfl) (gq_some rfl rfl (by simp) rfl (fun v w h => h)) (enq_R_Sign) (sq_in 10 rfl rfl (by simp) rfl (fun v w h => h)) (fun v w h => exRSign h)
  · exact q_one (F := fun v _ => v = .int .i64 (cmpI d 0)) hp (free_of rfl) (gq_some rfl rfl (by simp) rfl (fun v w h => h)) (sq_in 11 rfl rfl (by simp) rfl (fun v w h => h)) (fun ρ w hc h => ⟨.bool true, by simp [execOp, go_sem, h, hc, T.out], rfl⟩)
  · exact q_two (F := fun v _ => v = .bool true) (G := fun v _ => v = .bool true) hp (free_of rfl) trivial (sq_in 8 rfl rfl (by simp) rfl (fun v w h => h)) (sq_in 12 rfl rfl (by simp) rfl (fun v w h => h)) (fun ρ w hc h h' => ⟨_, by simp [execOp, go_sem, h, h'], rfl⟩)
  · exact q_move hp (free_of rfl) trivial (sq_in 13 rfl rfl (by simp) rfl (fun v w h => h))
  · exact q_addr (b := b1) (off := 0) (off' := 0) hp (free_of rfl) (gq_some rfl rfl (by simp) rfl (fun v w h => h)) (sq_out rfl rfl (fun _ _ => rfl)) (fun ρ w h => by simp [execOp, go_sem, h]) (fun _ => rfl)
  · exact q_loadInt (off := 0) hp (free_of rfl) (gq_some rfl rfl (by simp) rfl (fun v w h => h)) (List.mem_iff_getElem?.2 ⟨0, rfl⟩) (.inl rfl) (Nat.le_of_ble_eq_true rfl) (sq_in 15 rfl rfl (by simp) rfl (fun v w h => h)) (fun us w hl h => ld_pn hl h)
  · exact q_addr (b := b1) (off := 0) (off' := 2) hp (free_of rfl) (gq_some rfl rfl (by simp) rfl (fun v w h => h)) (sq_out rfl rfl (fun _ _ => rfl)) (fun ρ w h => by simp [execOp, go_sem, h]) (fun _ => rfl)
  · exact q_loadInt (off := 2) hp (free_of rfl) (gq_some rfl rfl (by simp) rfl (fun v w h => h)) (List.mem_iff_getElem?.2 ⟨0, rfl⟩) (.inl rfl) (Nat.le_of_ble_eq_true rfl) (sq_in 17 rfl rfl (by simp) rfl (fun v w h => h)) (fun us w hl h => ld_pd hl h)
  · exact q_call2 (F := (Fq.num n).P) (G := (Fq.num d).P) hp (free_of rfl) (gq_some rfl rfl (by simp) rfl (fun v w h => h)) (enq_R_Gcd) (sq_in 16 rfl rfl (by simp) rfl (fun v w h => h)) (sq_in 18 rfl rfl (by simp) rfl (fun v w h => h)) (fun v v' w h h' => exRGcd h h' (Int.lt_of_lt_of_le hn.out (pw_le (by omega))) (Int.lt_of_lt_of_le hd.out (pw_le (by omega))))
  · exact q_call1 (F := (Fq.is (.int .i64 1)).P) hp (free_of rfl) (gq_some rfl rfl (by simp) rfl (fun v w h => h)) (enq_R_Of) (sq_const (fun _ => rfl)) (fun v w h => (by subst h; exact rOfK w (1) (by omega) (by omega)))
  · exact q_call2 (F := (Fq.num (Int.gcd n d : Int)).P) (G := (Fq.num (1)).P) hp (free_of rfl) (gq_some rfl rfl (by simp) rfl (fun v w h => h)) (enq_R_Same) (sq_in 19 rfl rfl (by simp) rfl (fun v w h => h)) (sq_in 20 rfl rfl (by simp) rfl (fun v w h => h)) (fun v v' w h h' => exRSameB h h' (decide_eq_false (by omega)))
  · exact q_two (F := fun v _ => v = .bool true) (G := fun v _ => v = .bool false) hp (free_of rfl) trivial (sq_in 14 rfl rfl (by simp) rfl (fun v w h => h)) (sq_in 21 rfl rfl (by simp) rfl (fun v w h => h)) (fun ρ w hc h h' => ⟨_, by simp [execOp, go_sem, h, h'], rfl⟩)
  · exact q_assign hp (free_of rfl) trivial (sq_in 22 rfl rfl (by simp) rfl (fun v w h => h))
  intro L vs w4 nb hL hC hn E4
  have e0 : vs 0 = .pointer (some ⟨b1, 0, none⟩) := hC 0 (by simp)
  have e2 : vs 2 = .bool true := hC 2 (by simp)
  have e3 : vs 3 = .bool true := hC 3 (by simp)
  have e4 : vs 4 = .pointer (some ⟨b1, 2, none⟩) := hC 4 (by simp)
  have e6 : vs 6 = .bool true := hC 6 (by simp)
  have e7 : vs 7 = .bool true := hC 7 (by simp)
  have e8 : vs 8 = .bool true := hC 8 (by simp)
  have e9 : vs 9 = .pointer (some ⟨b1, 2, none⟩) := hC 9 (by simp)
  have e11 : vs 11 = .int .i64 (cmpI d 0) := hC 11 (by simp)
  have e12 : vs 12 = .bool true := hC 12 (by simp)
  have e13 : vs 13 = .bool true := hC 13 (by simp)
  have e14 : vs 14 = .bool true := hC 14 (by simp)
  have e15 : vs 15 = .pointer (some ⟨b1, 0, none⟩) := hC 15 (by simp)
  have e17 : vs 17 = .pointer (some ⟨b1, 2, none⟩) := hC 17 (by simp)
  have e21 : vs 21 = .bool false := hC 21 (by simp)
  have e22 : vs 22 = .bool false := hC 22 (by simp)
  have e23 : vs 23 = .bool false := hC 23 (by simp)
  have E : Fr w [(b1, 4, Fq.pair n d)] w4 := E4
  rw [lay_all hL]
  simp only [putAll, dstOf, List.length_cons, List.length_nil, Nat.zero_add, Nat.reduceAdd, List.getElem?_toArray, List.getElem?_cons_zero, List.getElem?_cons_succ, Option.bind_some, Act.put, List.setIfInBounds_toArray, List.set_cons_succ, List.set_cons_zero]
  rw [e0, e2, e3, e4, e6, e7, e8, e9, e11, e12, e13, e14, e15, e17, e21, e22, e23]
  generalize vs 1 = u4_1
  generalize vs 5 = u4_5
  generalize vs 10 = u4_10
  generalize vs 16 = u4_16
  generalize vs 18 = u4_18
  generalize vs 19 = u4_19
  generalize vs 20 = u4_20
  clear e0 e2 e3 e4 e6 e7 e8 e9 e11 e12 e13 e14 e15 e17 e21 e22 e23 hC hn E4 hL vs L nb
  clear B2 B3 hn hd
  go_wp2
  refine bodyPost_ret (v := .bool false) ?_ rfl (by first | exact ⟨_, rfl, E.below, rfl⟩ | exact ⟨_, rfl, E.below⟩ | exact ⟨rfl, E.below⟩)
  simp [results, Try.results20, go_sem]

set_option maxRecDepth 100000 in
set_option maxHeartbeats 4000000 in
theorem exSValidN {w : World} {v : Value} {n d : Int} (h : Pair w v n d) (hd0 : ¬ 0 < d) :
    Calls Try.prog 20 #[v] w fun e w' => ∃ v', e = .returned v' ∧ Below w.heap.size w w' ∧ v' = .bool false := by
  obtain ⟨n0, ao0, k0, c0, n0', ao0', k0', c0', rfl, _⟩ := ratV_pair h
  obtain ⟨w1, b1, hw1, hb1, hs1, E⟩ := fr_start w (F := Fq.pair n d) (us := [.bool n0, .slice ao0 k0 c0, .bool n0', .slice ao0' k0' c0']) 31 rfl (by simp) (tame_rat _ _ _ _ _ _ _ _) h
  go_enter Try.func20, Try.ntmps20
  go_upto_region 1 with (fail)
  rw [← hw1]
  rw [← hb1]
  clear hw1 hb1 hs1
  have T : Hid (¬ 0 < cmpI d 0) := fun e => hd0 (cmpIqgt.1 e)
  refine region_fr (C := [Fq.is (.pointer (some ⟨b1, 0, none⟩)), Fq.num n, Fq.is (.bool true), Fq.is (.bool true), Fq.is (.pointer (some ⟨b1, 2, none⟩)), Fq.num d, Fq.is (.bool true), Fq.is (.bool true), Fq.is (.bool true), Fq.is (.pointer (some ⟨b1, 2, none⟩)), Fq.num d, Fq.is (.int .i64 (cmpI d 0)), Fq.is (.bool false), Fq.is (.bool false), Fq.is (.bool false), Fq.is (undef), Fq.is (undef), Fq.is (undef), Fq.is (undef), Fq.is (undef), Fq.is (undef), Fq.is (undef), Fq.is (.bool false), Fq.is (.bool false)]) (ks := [none]) (new := []) E rfl (by kernel_rfl) rfl rfl (fun hp => ⟨?_, ?_, ?_, ?_, ?_, ?_, ?_, ?_, ?_, ?_, ?_, ?_, ?_, ?_, ?_, ?_, ?_, ?_, ?_, ?_, ?_, ?_, ?_, ?_, trivial⟩) ?_
  · exact q_addr (b := b1) (off := 0) (off' := 0) hp (free_of rfl) trivial (sq_out rfl rfl (fun _ _ => rfl)) (fun ρ w h => by simp [execOp, go_sem, h]) (fun _ => rfl)
  · exact q_loadInt (off := 0) hp (free_of rfl) trivial (List.mem_iff_getElem?.2 ⟨0, rfl⟩) (.inl rfl) (Nat.le_of_ble_eq_true rfl) (sq_in 0 rfl rfl (by simp) rfl (fun v w h => h)) (fun us w hl h => ld_pn hl h)
  · exact q_call1 (F := (Fq.num n).P) hp (free_of rfl) trivial (enq_R_Valid) (sq_in 1 rfl rfl (by simp) rfl (fun v w h => h)) (fun v w h => exRIsValid h)
  · exact q_move hp (free_of rfl) trivial (sq_in 2 rfl rfl (by simp) rfl (fun v w h => h))
  · exact q_addr (b := b1) (off := 0) (off' := 2) hp (free_of rfl) (gq_some rfl rfl (by simp) rfl (fun v w h => h)) (sq_out rfl rfl (fun _ _ => rfl)) (fun ρ w h => by simp [execOp, go_sem, h]) (fun _ => rfl)
  · exact q_loadInt (off := 2) hp (free_of rfl) (gq_some rfl rfl (by simp) rfl (fun v w h => h)) (List.mem_iff_getElem?.2 ⟨0, rfl⟩) (.inl rfl) (Nat.le_of_ble_eq_true rfl) (sq_in 4 rfl rfl (by simp) rfl (fun v w h => h)) (fun us w hl h => ld_pd hl h)
  · exact q_call1 (F := (Fq.num d).P) hp (free_of rfl) (gq_some rfl rfl (by simp) rfl (fun v w h => h)) (enq_R_Valid) (sq_in 5 rfl rfl (by simp) rfl (fun v w h => h)) (fun v w h => exRIsValid h)
  · exact q_two (F := fun v _ => v = .bool true) (G := fun v _ => v = .bool true) hp (free_of rfl) trivial (sq_in 3 rfl rfl (by simp) rfl (fun v w h => h)) (sq_in 6 rfl rfl (by simp) rfl (fun v w h => h)) (fun ρ w hc h h' => ⟨_, by simp [execOp, go_sem, h, h'], rfl⟩)
  · exact q_move hp (free_of rfl) trivial (sq_in 7 rfl rfl (by simp) rfl (fun v w h => h))
  · exact q_addr (b := b1) (off := 0) (off' := 2) hp (free_of rfl) (gq_some rfl rfl (by simp) rfl (fun v w h => h)) (sq_out rfl rfl (fun _ _ => rfl)) (fun ρ w h => by simp [execOp, go_sem, h]) (fun _ => rfl)
  · exact q_loadInt (off := 2) hp (free_of rfl) (gq_some rfl rfl (by simp) rfl (fun v w h => h)) (List.mem_iff_getElem?.2 ⟨0, rfl⟩) (.inl rfl) (Nat.le_of_ble_eq_true rfl) (sq_in 9 rfl rfl (by simp) rfl (fun v w h => h)) (fun us w hl h => ld_pd hl h)
  · exact q_call1 (F := (Fq.num d).P) hp (free_of rfl) (gq_some rfl rfl (by simp) rfl (fun v w h => h)) (enq_R_Sign) (sq_in 10 rfl rfl (by simp) rfl (fun v w h => h)) (fun v w h => exRSign h)
  · exact q_one (F := fun v _ => v = .int .i64 (cmpI d 0)) hp (free_of rfl) (gq_some rfl rfl (by simp) rfl (fun v w h => h)) (sq_in 11 rfl rfl (by simp) rfl (fun v w h => h)) (fun ρ w hc h => ⟨.bool false, by simp [execOp, go_sem, h, hc, T.out], rfl⟩)
  · exact q_two (F := fun v _ => v = .bool true) (G := fun v _ => v = .bool false) hp (free_of rfl) trivial (sq_in 8 rfl rfl (by simp) rfl (fun v w h => h)) (sq_in 12 rfl rfl (by simp) rfl (fun v w h => h)) (fun ρ w hc h h' => ⟨_, by simp [execOp, go_sem, h, h'], rfl⟩)
  · exact q_move hp (free_of rfl) trivial (sq_in 13 rfl rfl (by simp) rfl (fun v w h => h))
  · exact q_skip hp (free_of rfl) rfl (gq_some rfl rfl (by simp) rfl (fun v w h => h)) (fun _ => rfl)
  · exact q_skip hp (free_of rfl) rfl (gq_some rfl rfl (by simp) rfl (fun v w h => h)) (fun _ => rfl)
  · exact q_skip hp (free_of rfl) rfl (gq_some rfl rfl (by simp) rfl (fun v w h => h)) (fun _ => rfl)
  · exact q_skip hp (free_of rfl) rfl (gq_some rfl rfl (by simp) rfl (fun v w h => h)) (fun _ => rfl)
  · exact q_skip hp (free_of rfl) rfl (gq_some rfl rfl (by simp) rfl (fun v w h => h)) (fun _ => rfl)
  · exact q_skip hp (free_of rfl) rfl (gq_some rfl rfl (by simp) rfl (fun v w h => h)) (fun _ => rfl)
  · exact q_skip hp (free_of rfl) rfl (gq_some rfl rfl (by simp) rfl (fun v w h => h)) (fun _ => rfl)
  · exact q_two (F := fun v _ => v = .bool false) (G := fun v _ => v = .bool false) hp (free_of rfl) trivial (sq_in 14 rfl rfl (by simp) rfl (fun v w h => h)) (sq_const (fun _ => rfl)) (fun ρ w hc h h' => ⟨_, by simp [execOp, go_sem, h, h'], rfl⟩)
  · exact q_assign hp (free_of rfl) trivial (sq_in 22 rfl rfl (by simp) rfl (fun v w h => h))
  intro L vs w2 nb hL hC hn E2
  have e0 : vs 0 = .pointer (some ⟨b1, 0, none⟩) := hC 0 (by simp)
  have e2 : vs 2 = .bool true := hC 2 (by simp)
  have e3 : vs 3 = .bool true := hC 3 (by simp)
  have e4 : vs 4 = .pointer (some ⟨b1, 2, none⟩) := hC 4 (by simp)
  have e6 : vs 6 = .bool true := hC 6 (by simp)
  have e7 : vs 7 = .bool true := hC 7 (by simp)
  have e8 : vs 8 = .bool true := hC 8 (by simp)
  have e9 : vs 9 = .pointer (some ⟨b1, 2, none⟩) := hC 9 (by simp)
  have e11 : vs 11 = .int .i64 (cmpI d 0) := hC 11 (by simp)
  have e12 : vs 12 = .bool false := hC 12 (by simp)
  have e13 : vs 13 = .bool false := hC 13 (by simp)
  have e14 : vs 14 = .bool false := hC 14 (by simp)
  have e15 : vs 15 = undef := hC 15 (by simp)
  have e16 : vs 16 = undef := hC 16 (by simp)
  have e17 : vs 17 = undef := hC 17 (by simp)
  have e18 : vs 18 = undef := hC 18 (by simp)
  have e19 : vs 19 = undef := hC 19 (by simp)
  have e20 : vs 20 = undef := hC 20 (by simp)
  have e21 : vs 21 = undef := hC 21 (by simp)
  have e22 : vs 22 = .bool false := hC 22 (by simp)
  have e23 : vs 23 = .bool false := hC 23 (by simp)
  have E : Fr w [(b1, 4, Fq.pair n d)] w2 := E2
  rw [lay_all hL]
  simp only [putAll, dstOf, List.length_cons, List.length_nil, Nat.zero_add, Nat.reduceAdd, List.getElem?_toArray, List.getElem?_cons_zero, List.getElem?_cons_succ, Option.bind_some, Act.put, List.setIfInBounds_toArray, List.set_cons_succ, List.set_cons_zero]
  rw [e0, e2, e3, e4, e6, e7, e8, e9, e11, e12, e13, e14, e15, e16, e17, e18, e19, e20, e21, e22, e23]
  generalize vs 1 = u2_1
  generalize vs 5 = u2_5
  generalize vs 10 = u2_10
  clear e0 e2 e3 e4 e6 e7 e8 e9 e11 e12 e13 e14 e15 e16 e17 e18 e19 e20 e21 e22 e23 hC hn E2 hL vs L nb
  go_wp2
  refine bodyPost_ret (v := .bool false) ?_ rfl (by first | exact ⟨_, rfl, E.below, rfl⟩ | exact ⟨_, rfl, E.below⟩ | exact ⟨rfl, E.below⟩)
  simp [results, Try.results20, go_sem]


/-- Whether a fraction is valid: two signs and words. -/
def validQ (n : Bool) (xs : List Int) (m : Bool) (ys : List Int) : Bool :=
  validB n xs && validB m ys && decide (0 < sgn m (val ys)) && decide (Int.gcd (sgn n (val xs)) (sgn m (val ys)) = 1)

theorem raw_num {w : World} {n : Bool} {a : Option Addr} {k c : Nat} {xs : List Int} (hs : Sl w a k c xs) (hk : k ≤ 900000) (hv : validB n xs = true) : Num w (.agg #[.bool n, .slice a k c]) (sgn n (val xs)) := by
  have hl := hs.len
  refine ⟨n, a, k, c, xs, rfl, hs, hk, rfl, ⟨hs.digs, ?_⟩, ?_⟩
  · unfold validB at hv
    split at hv
    · rename_i h; exact .inl h
    · rename_i h
      right
      rw [bne_iff_ne] at hv
      have hg := (hs.digs.getD (xs.length - 1)).1
      have h3 := val_take_succ xs (xs.length - 1)
      rw [show xs.length - 1 + 1 = xs.length by omega, List.take_length] at h3
      have h4 := val_nonneg (hs.digs.take (xs.length - 1))
      have h5 := pw_pos (xs.length - 1)
      have h6 : 1 * pw (xs.length - 1) ≤ xs.getD (xs.length - 1) 0 * pw (xs.length - 1) := Int.mul_le_mul_of_nonneg_right (by omega) (by omega)
      rw [Int.mul_comm (xs.getD (xs.length - 1) 0)] at h6
      omega
  · rintro rfl h0
    unfold validB at hv
    rw [if_pos (by omega)] at hv
    cases hv

theorem raw_ab {n : Bool} {xs : List Int} {k : Nat} (hd : Digs xs) (hl : xs.length ≤ k) : ab (sgn n (val xs)) < pw k := by
  have h := Num.ofMade (neg := n) (m := k) hd
  rwa [List.take_of_length_le hl] at h

section
variable {w : World} {v : Value} {n : Bool} {a : Option Addr} {k c : Nat} {xs : List Int} {m : Bool} {r : Option Addr} {l q : Nat} {ys : List Int}

set_option maxRecDepth 100000 in
set_option maxHeartbeats 4000000 in
theorem exQValidA (h : (Fq.raw2 n a k c xs m r l q ys).P v w) (hk : k ≤ 100) (h1 : validB n xs = false) :
    Calls Try.prog 21 #[v] w fun e w' => ∃ v', e = .returned v' ∧ Below w.heap.size w w' ∧ v' = .bool false := by
  obtain ⟨rfl, hs, hs2⟩ := h
  obtain ⟨w1, b1, hw1, hb1, hs1, E⟩ := fr_start w (F := Fq.raw2 n a k c xs m r l q ys) (us := [.bool n, .slice a k c, .bool m, .slice r l q]) 31 rfl (by simp) (tame_rat _ _ _ _ _ _ _ _) (show (Fq.raw2 n a k c xs m r l q ys).P _ w from ⟨rfl, hs, hs2⟩)
  go_enter Try.func21, Try.ntmps21
  go_upto_region 1 with (fail)
  rw [← hw1]
  rw [← hb1]
  clear hw1 hb1 hs1
  refine region_fr (C := [Fq.is (.pointer (some ⟨b1, 0, none⟩)), Fq.raw n a k c xs, Fq.is (.bool false), Fq.is (.bool false), Fq.is (undef), Fq.is (undef), Fq.is (undef), Fq.is (.bool false), Fq.is (.bool false), Fq.is (undef), Fq.is (undef), Fq.is (undef), Fq.is (undef), Fq.is (.bool false), Fq.is (.bool false), Fq.is (undef), Fq.is (undef), Fq.is (undef), Fq.is (undef), Fq.is (undef), Fq.is (undef), Fq.is (.bool false), Fq.is (.bool false)]) (ks := [none]) (new := []) E rfl (by kernel_rfl) rfl rfl (fun hp => ⟨?_, ?_, ?_, ?_, ?_, ?_, ?_, ?_, ?_, ?_, ?_, ?_, ?_, ?_, ?_, ?_, ?_, ?_, ?_, ?_, ?_, ?_, ?_, trivial⟩) ?_
  · exact q_addr (b := b1) (off := 0) (off' := 0) hp (free_of rfl) trivial (sq_out rfl rfl (fun _ _ => rfl)) (fun ρ w h => by simp [execOp, go_sem, h]) (fun _ => rfl)
  · exact q_loadInt (off := 0) hp (free_of rfl) trivial (List.mem_iff_getElem?.2 ⟨0, rfl⟩) (.inl rfl) (Nat.le_of_ble_eq_true rfl) (sq_in 0 rfl rfl (by simp) rfl (fun v w h => h)) (fun us w hl h => ld_raw1 hl h)
  · exact q_call1 (F := (Fq.raw n a k c xs).P) hp (free_of rfl) trivial (enq_Valid) (sq_in 1 rfl rfl (by simp) rfl (fun v w h => h)) (fun v w h => exValidRaw h (by omega) h1)
  · exact q_move hp (free_of rfl) trivial (sq_in 2 rfl rfl (by simp) rfl (fun v w h => h))
  · exact q_skip hp (free_of rfl) rfl (gq_some rfl rfl (by simp) rfl (fun v w h => h)) (fun _ => rfl)
  · exact q_skip hp (free_of rfl) rfl (gq_some rfl rfl (by simp) rfl (fun v w h => h)) (fun _ => rfl)
  · exact q_skip hp (free_of rfl) rfl (gq_some rfl rfl (by simp) rfl (fun v w h => h)) (fun _ => rfl)
  · exact q_two (F := fun v _ => v = .bool false) (G := fun v _ => v = .bool false) hp (free_of rfl) trivial (sq_in 3 rfl rfl (by simp) rfl (fun v w h => h)) (sq_const (fun _ => rfl)) (fun ρ w hc h h' => ⟨_, by simp [execOp, go_sem, h, h'], rfl⟩)
  · exact q_move hp (free_of rfl) trivial (sq_in 7 rfl rfl (by simp) rfl (fun v w h => h))
  · exact q_skip hp (free_of rfl) rfl (gq_some rfl rfl (by simp) rfl (fun v w h => h)) (fun _ => rfl)
  · exact q_skip hp (free_of rfl) rfl (gq_some rfl rfl (by simp) rfl (fun v w h => h)) (fun _ => rfl)
  · exact q_skip hp (free_of rfl) rfl (gq_some rfl rfl (by simp) rfl (fun v w h => h)) (fun _ => rfl)
  · exact q_skip hp (free_of rfl) rfl (gq_some rfl rfl (by simp) rfl (fun v w h => h)) (fun _ => rfl)
  · exact q_two (F := fun v _ => v = .bool false) (G := fun v _ => v = .bool false) hp (free_of rfl) trivial (sq_in 8 rfl rfl (by simp) rfl (fun v w h => h)) (sq_const (fun _ => rfl)) (fun ρ w hc h h' => ⟨_, by simp [execOp, go_sem, h, h'], rfl⟩)
  · exact q_move hp (free_of rfl) trivial (sq_in 13 rfl rfl (by simp) rfl (fun v w h => h))
  · exact q_skip hp (free_of rfl) rfl (gq_some rfl rfl (by simp) rfl (fun v w h => h)) (fun _ => rfl)
  · exact q_skip hp (free_of rfl) rfl (gq_some rfl rfl (by simp) rfl (fun v w h => h)) (fun _ => rfl)
  · exact q_skip hp (free_of rfl) rfl (gq_some rfl rfl (by simp) rfl (fun v w h => h)) (fun _ => rfl)
  · exact q_skip hp (free_of rfl) rfl (gq_some rfl rfl (by simp) rfl (fun v w h => h)) (fun _ => rfl)
  · exact q_skip hp (free_of rfl) rfl (gq_some rfl rfl (by simp) rfl (fun v w h => h)) (fun _ => rfl)
  · exact q_skip hp (free_of rfl) rfl (gq_some rfl rfl (by simp) rfl (fun v w h => h)) (fun _ => rfl)
  · exact q_two (F := fun v _ => v = .bool false) (G := fun v _ => v = .bool false) hp (free_of rfl) trivial (sq_in 14 rfl rfl (by simp) rfl (fun v w h => h)) (sq_const (fun _ => rfl)) (fun ρ w hc h h' => ⟨_, by simp [execOp, go_sem, h, h'], rfl⟩)
  · exact q_assign hp (free_of rfl) trivial (sq_in 21 rfl rfl (by simp) rfl (fun v w h => h))
  intro L vs w2 nb hL hC hn E2
  have e0 : vs 0 = .pointer (some ⟨b1, 0, none⟩) := hC 0 (by simp)
  have e2 : vs 2 = .bool false := hC 2 (by simp)
  have e3 : vs 3 = .bool false := hC 3 (by simp)
  have e4 : vs 4 = undef := hC 4 (by simp)
  have e5 : vs 5 = undef := hC 5 (by simp)
  have e6 : vs 6 = undef := hC 6 (by simp)
  have e7 : vs 7 = .bool false := hC 7 (by simp)
  have e8 : vs 8 = .bool false := hC 8 (by simp)
  have e9 : vs 9 = undef := hC 9 (by simp)
  have e10 : vs 10 = undef := hC 10 (by simp)
  have e11 : vs 11 = undef := hC 11 (by simp)
  have e12 : vs 12 = undef := hC 12 (by simp)
  have e13 : vs 13 = .bool false := hC 13 (by simp)
  have e14 : vs 14 = .bool false := hC 14 (by simp)
  have e15 : vs 15 = undef := hC 15 (by simp)
  have e16 : vs 16 = undef := hC 16 (by simp)
  have e17 : vs 17 = undef := hC 17 (by simp)
  have e18 : vs 18 = undef := hC 18 (by simp)
  have e19 : vs 19 = undef := hC 19 (by simp)
  have e20 : vs 20 = undef := hC 20 (by simp)
  have e21 : vs 21 = .bool false := hC 21 (by simp)
  have e22 : vs 22 = .bool false := hC 22 (by simp)
  have E : Fr w [(b1, 4, Fq.raw2 n a k c xs m r l q ys)] w2 := E2
  rw [lay_all hL]
  simp only [putAll, dstOf, List.length_cons, List.length_nil, Nat.zero_add, Nat.reduceAdd, List.getElem?_toArray, List.getElem?_cons_zero, List.getElem?_cons_succ, Option.bind_some, Act.put, List.setIfInBounds_toArray, List.set_cons_succ, List.set_cons_zero]
  rw [e0, e2, e3, e4, e5, e6, e7, e8, e9, e10, e11, e12, e13, e14, e15, e16, e17, e18, e19, e20, e21, e22]
  generalize vs 1 = u2_1
  clear e0 e2 e3 e4 e5 e6 e7 e8 e9 e10 e11 e12 e13 e14 e15 e16 e17 e18 e19 e20 e21 e22 hC hn E2 hL vs L nb
  go_wp2
  refine bodyPost_ret (v := .bool false) ?_ rfl (by first | exact ⟨_, rfl, E.below, rfl⟩ | exact ⟨_, rfl, E.below⟩ | exact ⟨rfl, E.below⟩)
  simp [results, Try.results21, go_sem]

set_option maxRecDepth 100000 in
set_option maxHeartbeats 4000000 in
theorem exQValidB (h : (Fq.raw2 n a k c xs m r l q ys).P v w) (hk : k ≤ 100) (hl : l ≤ 100) (h1 : validB n xs = true) (h2 : validB m ys = false) :
    Calls Try.prog 21 #[v] w fun e w' => ∃ v', e = .returned v' ∧ Below w.heap.size w w' ∧ v' = .bool false := by
  obtain ⟨rfl, hs, hs2⟩ := h
  obtain ⟨w1, b1, hw1, hb1, hs1, E⟩ := fr_start w (F := Fq.raw2 n a k c xs m r l q ys) (us := [.bool n, .slice a k c, .bool m, .slice r l q]) 31 rfl (by simp) (tame_rat _ _ _ _ _ _ _ _) (show (Fq.raw2 n a k c xs m r l q ys).P _ w from ⟨rfl, hs, hs2⟩)
  go_enter Try.func21, Try.ntmps21
  go_upto_region 1 with (fail)
  rw [← hw1]
  rw [← hb1]
  clear hw1 hb1 hs1
  refine region_fr (C := [Fq.is (.pointer (some ⟨b1, 0, none⟩)), Fq.raw n a k c xs, Fq.is (.bool true), Fq.is (.bool true), Fq.is (.pointer (some ⟨b1, 2, none⟩)), Fq.raw m r l q ys, Fq.is (.bool false), Fq.is (.bool false), Fq.is (.bool false), Fq.is (undef), Fq.is (undef), Fq.is (undef), Fq.is (undef), Fq.is (.bool false), Fq.is (.bool false), Fq.is (undef), Fq.is (undef), Fq.is (undef), Fq.is (undef), Fq.is (undef), Fq.is (undef), Fq.is (.bool false), Fq.is (.bool false)]) (ks := [none]) (new := []) E rfl (by kernel_rfl) rfl rfl (fun hp => ⟨?_, ?_, ?_, ?_, ?_, ?_, ?_, ?_, ?_, ?_, ?_, ?_, ?_, ?_, ?_, ?_, ?_, ?_, ?_, ?_, ?_, ?_, ?_, trivial⟩) ?_
  · exact q_addr (b := b1) (off := 0) (off' := 0) hp (free_of rfl) trivial (sq_out rfl rfl (fun _ _ => rfl)) (fun ρ w h => by simp [execOp, go_sem, h]) (fun _ => rfl)
  · exact q_loadInt (off := 0) hp (free_of rfl) trivial (List.mem_iff_getElem?.2 ⟨0, rfl⟩) (.inl rfl) (Nat.le_of_ble_eq_true rfl) (sq_in 0 rfl rfl (by simp) rfl (fun v w h => h)) (fun us w hl h => ld_raw1 hl h)
  · exact q_call1 (F := (Fq.raw n a k c xs).P) hp (free_of rfl) trivial (enq_Valid) (sq_in 1 rfl rfl (by simp) rfl (fun v w h => h)) (fun v w h => exValidRaw h (by omega) h1)
  · exact q_move hp (free_of rfl) trivial (sq_in 2 rfl rfl (by simp) rfl (fun v w h => h))
  · exact q_addr (b := b1) (off := 0) (off' := 2) hp (free_of rfl) (gq_some rfl rfl (by simp) rfl (fun v w h => h)) (sq_out rfl rfl (fun _ _ => rfl)) (fun ρ w h => by simp [execOp, go_sem, h]) (fun _ => rfl)
  · exact q_loadInt (off := 2) hp (free_of rfl) (gq_some rfl rfl (by simp) rfl (fun v w h => h)) (List.mem_iff_getElem?.2 ⟨0, rfl⟩) (.inl rfl) (Nat.le_of_ble_eq_true rfl) (sq_in 4 rfl rfl (by simp) rfl (fun v w h => h)) (fun us w hl h => ld_raw2 hl h)
  · exact q_call1 (F := (Fq.raw m r l q ys).P) hp (free_of rfl) (gq_some rfl rfl (by simp) rfl (fun v w h => h)) (enq_Valid) (sq_in 5 rfl rfl (by simp) rfl (fun v w h => h)) (fun v w h => exValidRaw h (by omega) h2)
  · exact q_two (F := fun v _ => v = .bool true) (G := fun v _ => v = .bool false) hp (free_of rfl) trivial (sq_in 3 rfl rfl (by simp) rfl (fun v w h => h)) (sq_in 6 rfl rfl (by simp) rfl (fun v w h => h)) (fun ρ w hc h h' => ⟨_, by simp [execOp, go_sem, h, h'], rfl⟩)
  · exact q_move hp (free_of rfl) trivial (sq_in 7 rfl rfl (by simp) rfl (fun v w h => h))
  · exact q_skip hp (free_of rfl) rfl (gq_some rfl rfl (by simp) rfl (fun v w h => h)) (fun _ => rfl)
  · exact q_skip hp (free_of rfl) rfl (gq_some rfl rfl (by simp) rfl (fun v w h => h)) (fun _ => rfl)
  · exact q_skip hp (free_of rfl) rfl (gq_some rfl rfl (by simp) rfl (fun v w h => h)) (fun _ => rfl)
  · exact q_skip hp (free_of rfl) rfl (gq_some rfl rfl (by simp) rfl (fun v w h => h)) (fun _ => rfl)
  · exact q_two (F := fun v _ => v = .bool false) (G := fun v _ => v = .bool false) hp (free_of rfl) trivial (sq_in 8 rfl rfl (by simp) rfl (fun v w h => h)) (sq_const (fun _ => rfl)) (fun ρ w hc h h' => ⟨_, by simp [execOp, go_sem, h, h'], rfl⟩)
  · exact q_move hp (free_of rfl) trivial (sq_in 13 rfl rfl (by simp) rfl (fun v w h => h))
  · exact q_skip hp (free_of rfl) rfl (gq_some rfl rfl (by simp) rfl (fun v w h => h)) (fun _ => rfl)
  · exact q_skip hp (free_of rfl) rfl (gq_some rfl rfl (by simp) rfl (fun v w h => h)) (fun _ => rfl)
  · exact q_skip hp (free_of rfl) rfl (gq_some rfl rfl (by simp) rfl (fun v w h => h)) (fun _ => rfl)
  · exact q_skip hp (free_of rfl) rfl (gq_some rfl rfl (by simp) rfl (fun v w h => h)) (fun _ => rfl)
  · exact q_skip hp (free_of rfl) rfl (gq_some rfl rfl (by simp) rfl (fun v w h => h)) (fun _ => rfl)
  · exact q_skip hp (free_of rfl) rfl (gq_some rfl rfl (by simp) rfl (fun v w h => h)) (fun _ => rfl)
  · exact q_two (F := fun v _ => v = .bool false) (G := fun v _ => v = .bool false) hp (free_of rfl) trivial (sq_in 14 rfl rfl (by simp) rfl (fun v w h => h)) (sq_const (fun _ => rfl)) (fun ρ w hc h h' => ⟨_, by simp [execOp, go_sem, h, h'], rfl⟩)
  · exact q_assign hp (free_of rfl) trivial (sq_in 21 rfl rfl (by simp) rfl (fun v w h => h))
  intro L vs w2 nb hL hC hn E2
  have e0 : vs 0 = .pointer (some ⟨b1, 0, none⟩) := hC 0 (by simp)
  have e2 : vs 2 = .bool true := hC 2 (by simp)
  have e3 : vs 3 = .bool true := hC 3 (by simp)
  have e4 : vs 4 = .pointer (some ⟨b1, 2, none⟩) := hC 4 (by simp)
  have e6 : vs 6 = .bool false := hC 6 (by simp)
  have e7 : vs 7 = .bool false := hC 7 (by simp)
  have e8 : vs 8 = .bool false := hC 8 (by simp)
  have e9 : vs 9 = undef := hC 9 (by simp)
  have e10 : vs 10 = undef := hC 10 (by simp)
  have e11 : vs 11 = undef := hC 11 (by simp)
  have e12 : vs 12 = undef := hC 12 (by simp)
  have e13 : vs 13 = .bool false := hC 13 (by simp)
  have e14 : vs 14 = .bool false := hC 14 (by simp)
  have e15 : vs 15 = undef := hC 15 (by simp)
  have e16 : vs 16 = undef := hC 16 (by simp)
  have e17 : vs 17 = undef := hC 17 (by simp)
  have e18 : vs 18 = undef := hC 18 (by simp)
  have e19 : vs 19 = undef := hC 19 (by simp)
  have e20 : vs 20 = undef := hC 20 (by simp)
  have e21 : vs 21 = .bool false := hC 21 (by simp)
  have e22 : vs 22 = .bool false := hC 22 (by simp)
  have E : Fr w [(b1, 4, Fq.raw2 n a k c xs m r l q ys)] w2 := E2
  rw [lay_all hL]
  simp only [putAll, dstOf, List.length_cons, List.length_nil, Nat.zero_add, Nat.reduceAdd, List.getElem?_toArray, List.getElem?_cons_zero, List.getElem?_cons_succ, Option.bind_some, Act.put, List.setIfInBounds_toArray, List.set_cons_succ, List.set_cons_zero]
  rw [e0, e2, e3, e4, e6, e7, e8, e9, e10, e11, e12, e13, e14, e15, e16, e17, e18, e19, e20, e21, e22]
  generalize vs 1 = u2_1
  generalize vs 5 = u2_5
  clear e0 e2 e3 e4 e6 e7 e8 e9 e10 e11 e12 e13 e14 e15 e16 e17 e18 e19 e20 e21 e22 hC hn E2 hL vs L nb
  go_wp2
  refine bodyPost_ret (v := .bool false) ?_ rfl (by first | exact ⟨_, rfl, E.below, rfl⟩ | exact ⟨_, rfl, E.below⟩ | exact ⟨rfl, E.below⟩)
  simp [results, Try.results21, go_sem]

set_option maxRecDepth 100000 in
set_option maxHeartbeats 4000000 in
theorem exSValidA (h : (Fq.raw2 n a k c xs m r l q ys).P v w) (hk : k ≤ 100) (h1 : validB n xs = false) :
    Calls Try.prog 20 #[v] w fun e w' => ∃ v', e = .returned v' ∧ Below w.heap.size w w' ∧ v' = .bool false := by
  obtain ⟨rfl, hs, hs2⟩ := h
  obtain ⟨w1, b1, hw1, hb1, hs1, E⟩ := fr_start w (F := Fq.raw2 n a k c xs m r l q ys) (us := [.bool n, .slice a k c, .bool m, .slice r l q]) 31 rfl (by simp) (tame_rat _ _ _ _ _ _ _ _) (show (Fq.raw2 n a k c xs m r l q ys).P _ w from ⟨rfl, hs, hs2⟩)
  go_enter Try.func20, Try.ntmps20
  go_upto_region 1 with (fail)
  rw [← hw1]
  rw [← hb1]
  clear hw1 hb1 hs1
  refine region_fr (C := [Fq.is (.pointer (some ⟨b1, 0, none⟩)), Fq.raw n a k c xs, Fq.is (.bool false), Fq.is (.bool false), Fq.is (undef), Fq.is (undef), Fq.is (undef), Fq.is (.bool false), Fq.is (.bool false), Fq.is (undef), Fq.is (undef), Fq.is (undef), Fq.is (undef), Fq.is (.bool false), Fq.is (.bool false), Fq.is (undef), Fq.is (undef), Fq.is (undef), Fq.is (undef), Fq.is (undef), Fq.is (undef), Fq.is (undef), Fq.is (.bool false), Fq.is (.bool false)]) (ks := [none]) (new := []) E rfl (by kernel_rfl) rfl rfl (fun hp => ⟨?_, ?_, ?_, ?_, ?_, ?_, ?_, ?_, ?_, ?_, ?_, ?_, ?_, ?_, ?_, ?_, ?_, ?_, ?_, ?_, ?_, ?_, ?_, ?_, trivial⟩) ?_
  · exact q_addr (b := b1) (off := 0) (off' := 0) hp (free_of rfl) trivial (sq_out rfl rfl (fun _ _ => rfl)) (fun ρ w h => by simp [execOp, go_sem, h]) (fun _ => rfl)
  · exact q_loadInt (off := 0) hp (free_of rfl) trivial (List.mem_iff_getElem?.2 ⟨0, rfl⟩) (.inl rfl) (Nat.le_of_ble_eq_true rfl) (sq_in 0 rfl rfl (by simp) rfl (fun v w h => h)) (fun us w hl h => ld_raw1 hl h)
  · exact q_call1 (F := (Fq.raw n a k c xs).P) hp (free_of rfl) trivial (enq_R_Valid) (sq_in 1 rfl rfl (by simp) rfl (fun v w h => h)) (fun v w h => exRValidRaw h (by omega) h1)
  · exact q_move hp (free_of rfl) trivial (sq_in 2 rfl rfl (by simp) rfl (fun v w h => h))
  · exact q_skip hp (free_of rfl) rfl (gq_some rfl rfl (by simp) rfl (fun v w h => h)) (fun _ => rfl)
  · exact q_skip hp (free_of rfl) rfl (gq_some rfl rfl (by simp) rfl (fun v w h => h)) (fun _ => rfl)
  · exact q_skip hp (free_of rfl) rfl (gq_some rfl rfl (by simp) rfl (fun v w h => h)) (fun _ => rfl)
  · exact q_two (F := fun v _ => v = .bool false) (G := fun v _ => v = .bool false) hp (free_of rfl) trivial (sq_in 3 rfl rfl (by simp) rfl (fun v w h => h)) (sq_const (fun _ => rfl)) (fun ρ w hc h h' => ⟨_, by simp [execOp, go_sem, h, h'], rfl⟩)
  · exact q_move hp (free_of rfl) trivial (sq_in 7 rfl rfl (by simp) rfl (fun v w h => h))
  · exact q_skip hp (free_of rfl) rfl (gq_some rfl rfl (by simp) rfl (fun v w h => h)) (fun _ => rfl)
  · exact q_skip hp (free_of rfl) rfl (gq_some rfl rfl (by simp) rfl (fun v w h => h)) (fun _ => rfl)
  · exact q_skip hp (free_of rfl) rfl (gq_some rfl rfl (by simp) rfl (fun v w h => h)) (fun _ => rfl)
  · exact q_skip hp (free_of rfl) rfl (gq_some rfl rfl (by simp) rfl (fun v w h => h)) (fun _ => rfl)
  · exact q_two (F := fun v _ => v = .bool false) (G := fun v _ => v = .bool false) hp (free_of rfl) trivial (sq_in 8 rfl rfl (by simp) rfl (fun v w h => h)) (sq_const (fun _ => rfl)) (fun ρ w hc h h' => ⟨_, by simp [execOp, go_sem, h, h'], rfl⟩)
  · exact q_move hp (free_of rfl) trivial (sq_in 13 rfl rfl (by simp) rfl (fun v w h => h))
  · exact q_skip hp (free_of rfl) rfl (gq_some rfl rfl (by simp) rfl (fun v w h => h)) (fun _ => rfl)
  · exact q_skip hp (free_of rfl) rfl (gq_some rfl rfl (by simp) rfl (fun v w h => h)) (fun _ => rfl)
  · exact q_skip hp (free_of rfl) rfl (gq_some rfl rfl (by simp) rfl (fun v w h => h)) (fun _ => rfl)
  · exact q_skip hp (free_of rfl) rfl (gq_some rfl rfl (by simp) rfl (fun v w h => h)) (fun _ => rfl)
  · exact q_skip hp (free_of rfl) rfl (gq_some rfl rfl (by simp) rfl (fun v w h => h)) (fun _ => rfl)
  · exact q_skip hp (free_of rfl) rfl (gq_some rfl rfl (by simp) rfl (fun v w h => h)) (fun _ => rfl)
  · exact q_skip hp (free_of rfl) rfl (gq_some rfl rfl (by simp) rfl (fun v w h => h)) (fun _ => rfl)
  · exact q_two (F := fun v _ => v = .bool false) (G := fun v _ => v = .bool false) hp (free_of rfl) trivial (sq_in 14 rfl rfl (by simp) rfl (fun v w h => h)) (sq_const (fun _ => rfl)) (fun ρ w hc h h' => ⟨_, by simp [execOp, go_sem, h, h'], rfl⟩)
  · exact q_assign hp (free_of rfl) trivial (sq_in 22 rfl rfl (by simp) rfl (fun v w h => h))
  intro L vs w2 nb hL hC hn E2
  have e0 : vs 0 = .pointer (some ⟨b1, 0, none⟩) := hC 0 (by simp)
  have e2 : vs 2 = .bool false := hC 2 (by simp)
  have e3 : vs 3 = .bool false := hC 3 (by simp)
  have e4 : vs 4 = undef := hC 4 (by simp)
  have e5 : vs 5 = undef := hC 5 (by simp)
  have e6 : vs 6 = undef := hC 6 (by simp)
  have e7 : vs 7 = .bool false := hC 7 (by simp)
  have e8 : vs 8 = .bool false := hC 8 (by simp)
  have e9 : vs 9 = undef := hC 9 (by simp)
  have e10 : vs 10 = undef := hC 10 (by simp)
  have e11 : vs 11 = undef := hC 11 (by simp)
  have e12 : vs 12 = undef := hC 12 (by simp)
  have e13 : vs 13 = .bool false := hC 13 (by simp)
  have e14 : vs 14 = .bool false := hC 14 (by simp)
  have e15 : vs 15 = undef := hC 15 (by simp)
  have e16 : vs 16 = undef := hC 16 (by simp)
  have e17 : vs 17 = undef := hC 17 (by simp)
  have e18 : vs 18 = undef := hC 18 (by simp)
  have e19 : vs 19 = undef := hC 19 (by simp)
  have e20 : vs 20 = undef := hC 20 (by simp)
  have e21 : vs 21 = undef := hC 21 (by simp)
  have e22 : vs 22 = .bool false := hC 22 (by simp)
  have e23 : vs 23 = .bool false := hC 23 (by simp)
  have E : Fr w [(b1, 4, Fq.raw2 n a k c xs m r l q ys)] w2 := E2
  rw [lay_all hL]
  simp only [putAll, dstOf, List.length_cons, List.length_nil, Nat.zero_add, Nat.reduceAdd, List.getElem?_toArray, List.getElem?_cons_zero, List.getElem?_cons_succ, Option.bind_some, Act.put, List.setIfInBounds_toArray, List.set_cons_succ, List.set_cons_zero]
  rw [e0, e2, e3, e4, e5, e6, e7, e8, e9, e10, e11, e12, e13, e14, e15, e16, e17, e18, e19, e20, e21, e22, e23]
  generalize vs 1 = u2_1
  clear e0 e2 e3 e4 e5 e6 e7 e8 e9 e10 e11 e12 e13 e14 e15 e16 e17 e18 e19 e20 e21 e22 e23 hC hn E2 hL vs L nb
  go_wp2
  refine bodyPost_ret (v := .bool false) ?_ rfl (by first | exact ⟨_, rfl, E.below, rfl⟩ | exact ⟨_, rfl, E.below⟩ | exact ⟨rfl, E.below⟩)
  simp [results, Try.results20, go_sem]

set_option maxRecDepth 100000 in
set_option maxHeartbeats 4000000 in
theorem exSValidB (h : (Fq.raw2 n a k c xs m r l q ys).P v w) (hk : k ≤ 100) (hl : l ≤ 100) (h1 : validB n xs = true) (h2 : validB m ys = false) :
    Calls Try.prog 20 #[v] w fun e w' => ∃ v', e = .returned v' ∧ Below w.heap.size w w' ∧ v' = .bool false := by
  obtain ⟨rfl, hs, hs2⟩ := h
  obtain ⟨w1, b1, hw1, hb1, hs1, E⟩ := fr_start w (F := Fq.raw2 n a k c xs m r l q ys) (us := [.bool n, .slice a k c, .bool m, .slice r l q]) 31 rfl (by simp) (tame_rat _ _ _ _ _ _ _ _) (show (Fq.raw2 n a k c xs m r l q ys).P _ w from ⟨rfl, hs, hs2⟩)
  go_enter Try.func20, Try.ntmps20
  go_upto_region 1 with (fail)
  rw [← hw1]
  rw [← hb1]
  clear hw1 hb1 hs1
  refine region_fr (C := [Fq.is (.pointer (some ⟨b1, 0, none⟩)), Fq.raw n a k c xs, Fq.is (.bool true), Fq.is (.bool true), Fq.is (.pointer (some ⟨b1, 2, none⟩)), Fq.raw m r l q ys, Fq.is (.bool false), Fq.is (.bool false), Fq.is (.bool false), Fq.is (undef), Fq.is (undef), Fq.is (undef), Fq.is (undef), Fq.is (.bool false), Fq.is (.bool false), Fq.is (undef), Fq.is (undef), Fq.is (undef), Fq.is (undef), Fq.is (undef), Fq.is (undef), Fq.is (undef), Fq.is (.bool false), Fq.is (.bool false)]) (ks := [none]) (new := []) E rfl (by kernel_rfl) rfl rfl (fun hp => ⟨?_, ?_, ?_, ?_, ?_, ?_, ?_, ?_, ?_, ?_, ?_, ?_, ?_, ?_, ?_, ?_, ?_, ?_, ?_, ?_, ?_, ?_, ?_, ?_, trivial⟩) ?_
  · exact q_addr (b := b1) (off := 0) (off' := 0) hp (free_of rfl) trivial (sq_out rfl rfl (fun _ _ => rfl)) (fun ρ w h => by simp [execOp, go_sem, h]) (fun _ => rfl)
  · exact q_loadInt (off := 0) hp (free_of rfl) trivial (List.mem_iff_getElem?.2 ⟨0, rfl⟩) (.inl rfl) (Nat.le_of_ble_eq_true rfl) (sq_in 0 rfl rfl (by simp) rfl (fun v w h => h)) (fun us w hl h => ld_raw1 hl h)
  · exact q_call1 (F := (Fq.raw n a k c xs).P) hp (free_of rfl) trivial (enq_R_Valid) (sq_in 1 rfl rfl (by simp) rfl (fun v w h => h)) (fun v w h => exRValidRaw h (by omega) h1)
  · exact q_move hp (free_of rfl) trivial (sq_in 2 rfl rfl (by simp) rfl (fun v w h => h))
  · exact q_addr (b := b1) (off := 0) (off' := 2) hp (free_of rfl) (gq_some rfl rfl (by simp) rfl (fun v w h => h)) (sq_out rfl rfl (fun _ _ => rfl)) (fun ρ w h => by simp [execOp, go_sem, h]) (fun _ => rfl)
  · exact q_loadInt (off := 2) hp (free_of rfl) (gq_some rfl rfl (by simp) rfl (fun v w h => h)) (List.mem_iff_getElem?.2 ⟨0, rfl⟩) (.inl rfl) (Nat.le_of_ble_eq_true rfl) (sq_in 4 rfl rfl (by simp) rfl (fun v w h => h)) (fun us w hl h => ld_raw2 hl h)
  · exact q_call1 (F := (Fq.raw m r l q ys).P) hp (free_of rfl) (gq_some rfl rfl (by simp) rfl (fun v w h => h)) (enq_R_Valid) (sq_in 5 rfl rfl (by simp) rfl (fun v w h => h)) (fun v w h => exRValidRaw h (by omega) h2)
  · exact q_two (F := fun v _ => v = .bool true) (G := fun v _ => v = .bool false) hp (free_of rfl) trivial (sq_in 3 rfl rfl (by simp) rfl (fun v w h => h)) (sq_in 6 rfl rfl (by simp) rfl (fun v w h => h)) (fun ρ w hc h h' => ⟨_, by simp [execOp, go_sem, h, h'], rfl⟩)
  · exact q_move hp (free_of rfl) trivial (sq_in 7 rfl rfl (by simp) rfl (fun v w h => h))
  · exact q_skip hp (free_of rfl) rfl (gq_some rfl rfl (by simp) rfl (fun v w h => h)) (fun _ => rfl)
  · exact q_skip hp (free_of rfl) rfl (gq_some rfl rfl (by simp) rfl (fun v w h => h)) (fun _ => rfl)
  · exact q_skip hp (free_of rfl) rfl (gq_some rfl rfl (by simp) rfl (fun v w h => h)) (fun _ => rfl)
  · exact q_skip hp (free_of rfl) rfl (gq_some rfl rfl (by simp) rfl (fun v w h => h)) (fun _ => rfl)
  · exact q_two (F := fun v _ => v = .bool false) (G := fun v _ => v = .bool false) hp (free_of rfl) trivial (sq_in 8 rfl rfl (by simp) rfl (fun v w h => h)) (sq_const (fun _ => rfl)) (fun ρ w hc h h' => ⟨_, by simp [execOp, go_sem, h, h'], rfl⟩)
  · exact q_move hp (free_of rfl) trivial (sq_in 13 rfl rfl (by simp) rfl (fun v w h => h))
  · exact q_skip hp (free_of rfl) rfl (gq_some rfl rfl (by simp) rfl (fun v w h => h)) (fun _ => rfl)
  · exact q_skip hp (free_of rfl) rfl (gq_some rfl rfl (by simp) rfl (fun v w h => h)) (fun _ => rfl)
  · exact q_skip hp (free_of rfl) rfl (gq_some rfl rfl (by simp) rfl (fun v w h => h)) (fun _ => rfl)
  · exact q_skip hp (free_of rfl) rfl (gq_some rfl rfl (by simp) rfl (fun v w h => h)) (fun _ => rfl)
  · exact q_skip hp (free_of rfl) rfl (gq_some rfl rfl (by simp) rfl (fun v w h => h)) (fun _ => rfl)
  · exact q_skip hp (free_of rfl) rfl (gq_some rfl rfl (by simp) rfl (fun v w h => h)) (fun _ => rfl)
  · exact q_skip hp (free_of rfl) rfl (gq_some rfl rfl (by simp) rfl (fun v w h => h)) (fun _ => rfl)
  · exact q_two (F := fun v _ => v = .bool false) (G := fun v _ => v = .bool false) hp (free_of rfl) trivial (sq_in 14 rfl rfl (by simp) rfl (fun v w h => h)) (sq_const (fun _ => rfl)) (fun ρ w hc h h' => ⟨_, by simp [execOp, go_sem, h, h'], rfl⟩)
  · exact q_assign hp (free_of rfl) trivial (sq_in 22 rfl rfl (by simp) rfl (fun v w h => h))
  intro L vs w2 nb hL hC hn E2
  have e0 : vs 0 = .pointer (some ⟨b1, 0, none⟩) := hC 0 (by simp)
  have e2 : vs 2 = .bool true := hC 2 (by simp)
  have e3 : vs 3 = .bool true := hC 3 (by simp)
  have e4 : vs 4 = .pointer (some ⟨b1, 2, none⟩) := hC 4 (by simp)
  have e6 : vs 6 = .bool false := hC 6 (by simp)
  have e7 : vs 7 = .bool false := hC 7 (by simp)
  have e8 : vs 8 = .bool false := hC 8 (by simp)
  have e9 : vs 9 = undef := hC 9 (by simp)
  have e10 : vs 10 = undef := hC 10 (by simp)
  have e11 : vs 11 = undef := hC 11 (by simp)
  have e12 : vs 12 = undef := hC 12 (by simp)
  have e13 : vs 13 = .bool false := hC 13 (by simp)
  have e14 : vs 14 = .bool false := hC 14 (by simp)
  have e15 : vs 15 = undef := hC 15 (by simp)
  have e16 : vs 16 = undef := hC 16 (by simp)
  have e17 : vs 17 = undef := hC 17 (by simp)
  have e18 : vs 18 = undef := hC 18 (by simp)
  have e19 : vs 19 = undef := hC 19 (by simp)
  have e20 : vs 20 = undef := hC 20 (by simp)
  have e21 : vs 21 = undef := hC 21 (by simp)
  have e22 : vs 22 = .bool false := hC 22 (by simp)
  have e23 : vs 23 = .bool false := hC 23 (by simp)
  have E : Fr w [(b1, 4, Fq.raw2 n a k c xs m r l q ys)] w2 := E2
  rw [lay_all hL]
  simp only [putAll, dstOf, List.length_cons, List.length_nil, Nat.zero_add, Nat.reduceAdd, List.getElem?_toArray, List.getElem?_cons_zero, List.getElem?_cons_succ, Option.bind_some, Act.put, List.setIfInBounds_toArray, List.set_cons_succ, List.set_cons_zero]
  rw [e0, e2, e3, e4, e6, e7, e8, e9, e10, e11, e12, e13, e14, e15, e16, e17, e18, e19, e20, e21, e22, e23]
  generalize vs 1 = u2_1
  generalize vs 5 = u2_5
  clear e0 e2 e3 e4 e6 e7 e8 e9 e10 e11 e12 e13 e14 e15 e16 e17 e18 e19 e20 e21 e22 e23 hC hn E2 hL vs L nb
  go_wp2
  refine bodyPost_ret (v := .bool false) ?_ rfl (by first | exact ⟨_, rfl, E.below, rfl⟩ | exact ⟨_, rfl, E.below⟩ | exact ⟨rfl, E.below⟩)
  simp [results, Try.results20, go_sem]


theorem exQValidAny (h : (Fq.raw2 n a k c xs m r l q ys).P v w) (hk : k ≤ 100) (hl : l ≤ 100) : Calls Try.prog 21 #[v] w fun e w' => ∃ v', e = .returned v' ∧ Below w.heap.size w w' ∧ v' = .bool (validQ n xs m ys) := by
  unfold validQ
  cases h1 : validB n xs with
  | false => exact exQValidA h hk h1
  | true =>
    cases h2 : validB m ys with
    | false => exact exQValidB h hk hl h1 h2
    | true =>
      have h0 := h
      obtain ⟨rfl, hs, hs2⟩ := h
      have hP : Pair w (.agg #[.bool n, .slice a k c, .bool m, .slice r l q]) (sgn n (val xs)) (sgn m (val ys)) := ⟨_, _, _, _, rfl, raw_num hs (by omega) h1, raw_num hs2 (by omega) h2⟩
      have hn : ab (sgn n (val xs)) < pw 100 := raw_ab hs.digs (by rw [hs.len]; exact hk)
      have hd : ab (sgn m (val ys)) < pw 100 := raw_ab hs2.digs (by rw [hs2.len]; exact hl)
      generalize sgn n (val xs) = N at *
      generalize sgn m (val ys) = D at *
      by_cases hd0 : 0 < D
      · by_cases hg : Int.gcd N D = 1
        · rw [decide_eq_true hd0, decide_eq_true hg]; exact exValidT hP hn hd hd0 hg
        · rw [decide_eq_true hd0, decide_eq_false hg]; exact exValidG hP hn hd hd0 hg
      · rw [decide_eq_false hd0]; exact exValidN hP hd0

theorem exSValidAny (h : (Fq.raw2 n a k c xs m r l q ys).P v w) (hk : k ≤ 100) (hl : l ≤ 100) : Calls Try.prog 20 #[v] w fun e w' => ∃ v', e = .returned v' ∧ Below w.heap.size w w' ∧ v' = .bool (validQ n xs m ys) := by
  unfold validQ
  cases h1 : validB n xs with
  | false => exact exSValidA h hk h1
  | true =>
    cases h2 : validB m ys with
    | false => exact exSValidB h hk hl h1 h2
    | true =>
      have h0 := h
      obtain ⟨rfl, hs, hs2⟩ := h
      have hP : Pair w (.agg #[.bool n, .slice a k c, .bool m, .slice r l q]) (sgn n (val xs)) (sgn m (val ys)) := ⟨_, _, _, _, rfl, raw_num hs (by omega) h1, raw_num hs2 (by omega) h2⟩
      have hn : ab (sgn n (val xs)) < pw 100 := raw_ab hs.digs (by rw [hs.len]; exact hk)
      have hd : ab (sgn m (val ys)) < pw 100 := raw_ab hs2.digs (by rw [hs2.len]; exact hl)
      generalize sgn n (val xs) = N at *
      generalize sgn m (val ys) = D at *
      by_cases hd0 : 0 < D
      · by_cases hg : Int.gcd N D = 1
        · rw [decide_eq_true hd0, decide_eq_true hg]; exact exSValidT hP hn hd hd0 hg
        · rw [decide_eq_true hd0, decide_eq_false hg]; exact exSValidG hP hn hd hd0 hg
      · rw [decide_eq_false hd0]; exact exSValidN hP hd0
end

theorem exSValidQ {w : World} {v : Value} {a : Rat} (h : Pair w v a.num a.den) (ha : Rb a 100) : Calls Try.prog 20 #[v] w fun e w' => ∃ v', e = .returned v' ∧ Below w.heap.size w w' ∧ v' = .bool true :=
  exSValidT h ha.1 ha.2 (den_pos a) (rat_cop a)

end Go.Proofs.Ytlehjhlihahjhaa

/- Walk of the law on valid fractions. -/
namespace Go.Proofs.Ytlehjhlihahjhaa
open Go Go.RowKit

theorem enq_R_Add' (args : Array Value) (w : World) : (callFunc 22 args).run Try.prog w = .ok (.enter 22 args) w := enter_of Try.func22 (by kernel_rfl) rfl args w
theorem measQ {n k : Nat} (h : k < n) : n - (intOf (.int .i64 ((k : Int) + 1))).toNat < n - (intOf (.int .i64 (k : Int))).toNat := by simp [intOf]; omega
theorem gcd_twice (n d : Int) : Int.gcd (n + n) (d + d) ≠ 1 := by
  intro h
  have h1 : (2 : Int) ∣ (Int.gcd (n + n) (d + d) : Int) := Int.dvd_coe_gcd ⟨n, by omega⟩ ⟨d, by omega⟩
  rw [h] at h1
  omega

set_option maxRecDepth 100000 in
set_option maxHeartbeats 4000000 in
theorem RationalValid_any (w : World) (n1 : Bool) (a1 : Option Addr) (k1 c1 : Nat) (xs1 : List Int) (m1 : Bool) (r1 : Option Addr) (l1 q1 : Nat) (ys1 : List Int) (h1 : Sl w a1 k1 c1 xs1) (g1 : Sl w r1 l1 q1 ys1) (hk1 : k1 ≤ 9223372036854775807) (hl1 : l1 ≤ 9223372036854775807) (n2 : Bool) (a2 : Option Addr) (k2 c2 : Nat) (xs2 : List Int) (m2 : Bool) (r2 : Option Addr) (l2 q2 : Nat) (ys2 : List Int) (h2 : Sl w a2 k2 c2 xs2) (g2 : Sl w r2 l2 q2 ys2) (hk2 : k2 ≤ 9223372036854775807) (hl2 : l2 ≤ 9223372036854775807) (n3 : Bool) (a3 : Option Addr) (k3 c3 : Nat) (xs3 : List Int) (m3 : Bool) (r3 : Option Addr) (l3 q3 : Nat) (ys3 : List Int) (h3 : Sl w a3 k3 c3 xs3) (g3 : Sl w r3 l3 q3 ys3) (hk3 : k3 ≤ 35184372088832) (hl3 : l3 ≤ 35184372088832) :
    Calls Try.prog 5 #[.agg #[.bool n1, .slice a1 k1 c1, .bool m1, .slice r1 l1 q1], .agg #[.bool n2, .slice a2 k2 c2, .bool m2, .slice r2 l2 q2], .agg #[.bool n3, .slice a3 k3 c3, .bool m3, .slice r3 l3 q3]] w fun e w' => e = .returned (.bool true) ∧ Below w.heap.size w w' := by
  obtain ⟨a, ha⟩ : ∃ a, a = madeQ n1 xs1 ys1 m1 6 := ⟨_, rfl⟩
  have Ba : Hid (Rb a 6) := by rw [ha]; exact made_rb h1.digs g1.digs (by omega)
  have Ha := hidd ha
  have K1 := hidd hk1
  have L1 := hidd hl1
  clear ha hk1 hl1
  obtain ⟨b, hb⟩ : ∃ b, b = madeQ n2 xs2 ys2 m2 6 := ⟨_, rfl⟩
  have Bb : Hid (Rb b 6) := by rw [hb]; exact made_rb h2.digs g2.digs (by omega)
  have Hb := hidd hb
  have K2 := hidd hk2
  have L2 := hidd hl2
  clear hb hk2 hl2
  have K3 := hidd hk3
  have L3 := hidd hl3
  clear hk3 hl3
  obtain ⟨w1, b1, hw1, hb1, hs1, E⟩ := fr_start w (F := Fq.raw2 n1 a1 k1 c1 xs1 m1 r1 l1 q1 ys1) (us := [.bool n1, .slice a1 k1 c1, .bool m1, .slice r1 l1 q1]) 26 rfl (by simp) (tame_rat _ _ _ _ _ _ _ _) (show (Fq.raw2 n1 a1 k1 c1 xs1 m1 r1 l1 q1 ys1).P _ w from ⟨rfl, h1, g1⟩)
  obtain ⟨w2, b2, hw2, hb2, hs2, E⟩ := fr_more E hs1 (F := Fq.raw2 n2 a2 k2 c2 xs2 m2 r2 l2 q2 ys2) (us := [.bool n2, .slice a2 k2 c2, .bool m2, .slice r2 l2 q2]) 26 rfl (by simp) (tame_rat _ _ _ _ _ _ _ _) ((Fq.raw2 n2 a2 k2 c2 xs2 m2 r2 l2 q2 ys2).mono (show (Fq.raw2 n2 a2 k2 c2 xs2 m2 r2 l2 q2 ys2).P _ w from ⟨rfl, h2, g2⟩) E.below)
  obtain ⟨w3, b3, hw3, hb3, hs3, E⟩ := fr_more E hs2 (F := Fq.raw2 n3 a3 k3 c3 xs3 m3 r3 l3 q3 ys3) (us := [.bool n3, .slice a3 k3 c3, .bool m3, .slice r3 l3 q3]) 31 rfl (by simp) (tame_rat _ _ _ _ _ _ _ _) ((Fq.raw2 n3 a3 k3 c3 xs3 m3 r3 l3 q3 ys3).mono (show (Fq.raw2 n3 a3 k3 c3 xs3 m3 r3 l3 q3 ys3).P _ w from ⟨rfl, h3, g3⟩) E.below)
  go_enter Try.func5, Try.ntmps5
  go_upto_region 1 with (fail)
  rw [← hw1]
  rw [← hw2]
  rw [← hw3]
  rw [← hb3]
  rw [← hb2]
  rw [← hb1]
  clear hw1 hw2 hw3 hb1 hb2 hb3 hs3 hs1 hs2
  have TW : Hid (IntKind.i64.wrap (((k3 : Nat) : Int) + ((l3 : Nat) : Int)) = ((k3 : Nat) : Int) + ((l3 : Nat) : Int)) := IntWalk.i64_in _ (by have := K3.out; have := L3.out; omega)
  refine region_fr (C := [Fq.is (.bool true), Fq.is (.bool true)]) (ks := [none, none, none]) (new := []) E rfl (by kernel_rfl) rfl rfl (fun hp => ⟨?_, ?_, trivial⟩) ?_
  · exact q_call0 hp (free_of rfl) trivial (enq_K_examples) (fun w => exExamples w)
  · exact q_assign hp (free_of rfl) trivial (sq_in 0 rfl rfl (by simp) rfl (fun v w h => h))
  intro L vs w4 nb hL hC hn E4
  have e0 : vs 0 = .bool true := hC 0 (by simp)
  have e1 : vs 1 = .bool true := hC 1 (by simp)
  have E : Fr w [(b3, 4, Fq.raw2 n3 a3 k3 c3 xs3 m3 r3 l3 q3 ys3), (b2, 4, Fq.raw2 n2 a2 k2 c2 xs2 m2 r2 l2 q2 ys2), (b1, 4, Fq.raw2 n1 a1 k1 c1 xs1 m1 r1 l1 q1 ys1)] w4 := E4
  rw [lay_all hL]
  simp only [putAll, dstOf, List.length_cons, List.length_nil, Nat.zero_add, Nat.reduceAdd, List.getElem?_toArray, List.getElem?_cons_zero, List.getElem?_cons_succ, Option.bind_some, Act.put, List.setIfInBounds_toArray, List.set_cons_succ, List.set_cons_zero]
  rw [e0, e1]
  clear e0 e1 hC hn E4 hL vs L nb
  go_upto_region 2 with (fail)
  refine region_fr (C := [Fq.is (.bool true), Fq.is (.bool false)]) (ks := [none, none, none]) (new := []) E rfl (by kernel_rfl) rfl rfl (fun hp => ⟨?_, ?_, trivial⟩) ?_
  · exact q_move hp (free_of rfl) trivial (sq_out rfl rfl (fun _ _ => rfl))
  · exact q_one (F := fun v _ => v = .bool true) hp (free_of rfl) trivial (sq_in 0 rfl rfl (by simp) rfl (fun v w h => h)) (fun ρ w _ h => ⟨.bool false, by simp [execOp, go_sem, h], rfl⟩)
  intro L vs w5 nb hL hC hn E5
  have e0 : vs 0 = .bool true := hC 0 (by simp)
  have e1 : vs 1 = .bool false := hC 1 (by simp)
  have E : Fr w [(b3, 4, Fq.raw2 n3 a3 k3 c3 xs3 m3 r3 l3 q3 ys3), (b2, 4, Fq.raw2 n2 a2 k2 c2 xs2 m2 r2 l2 q2 ys2), (b1, 4, Fq.raw2 n1 a1 k1 c1 xs1 m1 r1 l1 q1 ys1)] w5 := E5
  rw [lay_all hL]
  simp only [putAll, dstOf, List.length_cons, List.length_nil, Nat.zero_add, Nat.reduceAdd, List.getElem?_toArray, List.getElem?_cons_zero, List.getElem?_cons_succ, Option.bind_some, Act.put, List.setIfInBounds_toArray, List.set_cons_succ, List.set_cons_zero]
  rw [e0, e1]
  clear e0 e1 hC hn E5 hL vs L nb
  by_cases hc : 40 < k3 + l3
  · have TC : Hid ((40 : Int) < ((k3 : Nat) : Int) + ((l3 : Nat) : Int)) := by show _ < _; omega
    clear hc
    go_upto_region 4 with (fail)
    refine region_fr (C := [Fq.is (.pointer (some ⟨b3, 0, none⟩)), Fq.is (.pointer (some ⟨b3, 1, none⟩)), Fq.is (.slice a3 k3 c3), Fq.is (.int .i64 ((k3 : Nat) : Int)), Fq.is (.pointer (some ⟨b3, 2, none⟩)), Fq.is (.pointer (some ⟨b3, 3, none⟩)), Fq.is (.slice r3 l3 q3), Fq.is (.int .i64 ((l3 : Nat) : Int)), Fq.is (.int .i64 (((k3 : Nat) : Int) + ((l3 : Nat) : Int))), Fq.is (.bool true)]) (ks := [none, none, none]) (new := []) E rfl (by kernel_rfl) rfl rfl (fun hp => ⟨?_, ?_, ?_, ?_, ?_, ?_, ?_, ?_, ?_, ?_, trivial⟩) ?_
    · exact q_addr (b := b3) (off := 0) (off' := 0) hp (free_of rfl) trivial (sq_out rfl rfl (fun _ _ => rfl)) (fun ρ w h => by simp [execOp, go_sem, h]) (fun _ => rfl)
    · exact q_addr (b := b3) (off := 0) (off' := 1) hp (free_of rfl) trivial (sq_in 0 rfl rfl (by simp) rfl (fun v w h => h)) (fun ρ w h => by simp [execOp, go_sem, h]) (fun _ => rfl)
    · exact q_loadSl (off := 1) (v := .slice a3 k3 c3) hp (free_of rfl) trivial (List.mem_iff_getElem?.2 ⟨0, rfl⟩) (.inl rfl) (Nat.le_of_ble_eq_true rfl) (sq_in 1 rfl rfl (by simp) rfl (fun v w h => h)) (fun us w hl h => ⟨ld_sl1 hl h, rfl⟩)
    · exact q_lenW hp (free_of rfl) trivial (sq_in 2 rfl rfl (by simp) rfl (fun v w h => h)) (fun _ => rfl)
    · exact q_addr (b := b3) (off := 0) (off' := 2) hp (free_of rfl) trivial (sq_out rfl rfl (fun _ _ => rfl)) (fun ρ w h => by simp [execOp, go_sem, h]) (fun _ => rfl)
    · exact q_addr (b := b3) (off := 2) (off' := 3) hp (free_of rfl) trivial (sq_in 4 rfl rfl (by simp) rfl (fun v w h => h)) (fun ρ w h => by simp [execOp, go_sem, h]) (fun _ => rfl)
    · exact q_loadSl (off := 3) (v := .slice r3 l3 q3) hp (free_of rfl) trivial (List.mem_iff_getElem?.2 ⟨0, rfl⟩) (.inl rfl) (Nat.le_of_ble_eq_true rfl) (sq_in 5 rfl rfl (by simp) rfl (fun v w h => h)) (fun us w hl h => ⟨ld_sl2 hl h, rfl⟩)
    · exact q_lenW hp (free_of rfl) trivial (sq_in 6 rfl rfl (by simp) rfl (fun v w h => h)) (fun _ => rfl)
    · exact q_two (F := fun v _ => v = .int .i64 ((k3 : Nat) : Int)) (G := fun v _ => v = .int .i64 ((l3 : Nat) : Int)) hp (free_of rfl) trivial (sq_in 3 rfl rfl (by simp) rfl (fun v w h => h)) (sq_in 7 rfl rfl (by simp) rfl (fun v w h => h)) (fun ρ w hc h h' => ⟨.int .i64 (((k3 : Nat) : Int) + ((l3 : Nat) : Int)), by simp [execOp, go_sem, h, h', TW.out], rfl⟩)
    · exact q_one (F := fun v _ => v = .int .i64 (((k3 : Nat) : Int) + ((l3 : Nat) : Int))) hp (free_of rfl) trivial (sq_in 8 rfl rfl (by simp) rfl (fun v w h => h)) (fun ρ w hc h => ⟨.bool true, by simp [execOp, go_sem, h, hc, TC.out], rfl⟩)
    intro L vs w6 nb hL hC hn E6
    have e0 : vs 0 = .pointer (some ⟨b3, 0, none⟩) := hC 0 (by simp)
    have e1 : vs 1 = .pointer (some ⟨b3, 1, none⟩) := hC 1 (by simp)
    have e2 : vs 2 = .slice a3 k3 c3 := hC 2 (by simp)
    have e3 : vs 3 = .int .i64 ((k3 : Nat) : Int) := hC 3 (by simp)
    have e4 : vs 4 = .pointer (some ⟨b3, 2, none⟩) := hC 4 (by simp)
    have e5 : vs 5 = .pointer (some ⟨b3, 3, none⟩) := hC 5 (by simp)
    have e6 : vs 6 = .slice r3 l3 q3 := hC 6 (by simp)
    have e7 : vs 7 = .int .i64 ((l3 : Nat) : Int) := hC 7 (by simp)
    have e8 : vs 8 = .int .i64 (((k3 : Nat) : Int) + ((l3 : Nat) : Int)) := hC 8 (by simp)
    have e9 : vs 9 = .bool true := hC 9 (by simp)
    have E : Fr w [(b3, 4, Fq.raw2 n3 a3 k3 c3 xs3 m3 r3 l3 q3 ys3), (b2, 4, Fq.raw2 n2 a2 k2 c2 xs2 m2 r2 l2 q2 ys2), (b1, 4, Fq.raw2 n1 a1 k1 c1 xs1 m1 r1 l1 q1 ys1)] w6 := E6
    rw [lay_all hL]
    simp only [putAll, dstOf, List.length_cons, List.length_nil, Nat.zero_add, Nat.reduceAdd, List.getElem?_toArray, List.getElem?_cons_zero, List.getElem?_cons_succ, Option.bind_some, Act.put, List.setIfInBounds_toArray, List.set_cons_succ, List.set_cons_zero]
    rw [e0, e1, e2, e3, e4, e5, e6, e7, e8, e9]
    clear e0 e1 e2 e3 e4 e5 e6 e7 e8 e9 hC hn E6 hL vs L nb
    clear TW TC
    go_upto_region 5 with (fail)
    refine region_fr (C := [Fq.is (.bool true), Fq.is (.bool true)]) (ks := [none, none, none]) (new := []) E rfl (by kernel_rfl) rfl rfl (fun hp => ⟨?_, ?_, trivial⟩) ?_
    · exact q_move hp (free_of rfl) trivial (sq_out rfl rfl (fun _ _ => rfl))
    · exact q_assign hp (free_of rfl) trivial (sq_in 0 rfl rfl (by simp) rfl (fun v w h => h))
    intro L vs w7 nb hL hC hn E7
    have e0 : vs 0 = .bool true := hC 0 (by simp)
    have e1 : vs 1 = .bool true := hC 1 (by simp)
    have E : Fr w [(b3, 4, Fq.raw2 n3 a3 k3 c3 xs3 m3 r3 l3 q3 ys3), (b2, 4, Fq.raw2 n2 a2 k2 c2 xs2 m2 r2 l2 q2 ys2), (b1, 4, Fq.raw2 n1 a1 k1 c1 xs1 m1 r1 l1 q1 ys1)] w7 := E7
    rw [lay_all hL]
    simp only [putAll, dstOf, List.length_cons, List.length_nil, Nat.zero_add, Nat.reduceAdd, List.getElem?_toArray, List.getElem?_cons_zero, List.getElem?_cons_succ, Option.bind_some, Act.put, List.setIfInBounds_toArray, List.set_cons_succ, List.set_cons_zero]
    rw [e0, e1]
    clear e0 e1 hC hn E7 hL vs L nb
    clear Ba Bb
    go_wp2
    refine bodyPost_ret (v := .bool true) ?_ rfl ⟨rfl, E.below⟩
    simp [results, Try.results5, go_sem]
  · have TC : Hid (¬ (40 : Int) < ((k3 : Nat) : Int) + ((l3 : Nat) : Int)) := by show ¬ _; omega
    have KL : Hid (k3 + l3 ≤ 40) := by show _ ≤ _; omega
    clear hc
    go_upto_region 4 with (fail)
    refine region_fr (C := [Fq.is (.pointer (some ⟨b3, 0, none⟩)), Fq.is (.pointer (some ⟨b3, 1, none⟩)), Fq.is (.slice a3 k3 c3), Fq.is (.int .i64 ((k3 : Nat) : Int)), Fq.is (.pointer (some ⟨b3, 2, none⟩)), Fq.is (.pointer (some ⟨b3, 3, none⟩)), Fq.is (.slice r3 l3 q3), Fq.is (.int .i64 ((l3 : Nat) : Int)), Fq.is (.int .i64 (((k3 : Nat) : Int) + ((l3 : Nat) : Int))), Fq.is (.bool false)]) (ks := [none, none, none]) (new := []) E rfl (by kernel_rfl) rfl rfl (fun hp => ⟨?_, ?_, ?_, ?_, ?_, ?_, ?_, ?_, ?_, ?_, trivial⟩) ?_
    · exact q_addr (b := b3) (off := 0) (off' := 0) hp (free_of rfl) trivial (sq_out rfl rfl (fun _ _ => rfl)) (fun ρ w h => by simp [execOp, go_sem, h]) (fun _ => rfl)
    · exact q_addr (b := b3) (off := 0) (off' := 1) hp (free_of rfl) trivial (sq_in 0 rfl rfl (by simp) rfl (fun v w h => h)) (fun ρ w h => by simp [execOp, go_sem, h]) (fun _ => rfl)
    · exact q_loadSl (off := 1) (v := .slice a3 k3 c3) hp (free_of rfl) trivial (List.mem_iff_getElem?.2 ⟨0, rfl⟩) (.inl rfl) (Nat.le_of_ble_eq_true rfl) (sq_in 1 rfl rfl (by simp) rfl (fun v w h => h)) (fun us w hl h => ⟨ld_sl1 hl h, rfl⟩)
    · exact q_lenW hp (free_of rfl) trivial (sq_in 2 rfl rfl (by simp) rfl (fun v w h => h)) (fun _ => rfl)
    · exact q_addr (b := b3) (off := 0) (off' := 2) hp (free_of rfl) trivial (sq_out rfl rfl (fun _ _ => rfl)) (fun ρ w h => by simp [execOp, go_sem, h]) (fun _ => rfl)
    · exact q_addr (b := b3) (off := 2) (off' := 3) hp (free_of rfl) trivial (sq_in 4 rfl rfl (by simp) rfl (fun v w h => h)) (fun ρ w h => by simp [execOp, go_sem, h]) (fun _ => rfl)
    · exact q_loadSl (off := 3) (v := .slice r3 l3 q3) hp (free_of rfl) trivial (List.mem_iff_getElem?.2 ⟨0, rfl⟩) (.inl rfl) (Nat.le_of_ble_eq_true rfl) (sq_in 5 rfl rfl (by simp) rfl (fun v w h => h)) (fun us w hl h => ⟨ld_sl2 hl h, rfl⟩)
    · exact q_lenW hp (free_of rfl) trivial (sq_in 6 rfl rfl (by simp) rfl (fun v w h => h)) (fun _ => rfl)
    · exact q_two (F := fun v _ => v = .int .i64 ((k3 : Nat) : Int)) (G := fun v _ => v = .int .i64 ((l3 : Nat) : Int)) hp (free_of rfl) trivial (sq_in 3 rfl rfl (by simp) rfl (fun v w h => h)) (sq_in 7 rfl rfl (by simp) rfl (fun v w h => h)) (fun ρ w hc h h' => ⟨.int .i64 (((k3 : Nat) : Int) + ((l3 : Nat) : Int)), by simp [execOp, go_sem, h, h', TW.out], rfl⟩)
    · exact q_one (F := fun v _ => v = .int .i64 (((k3 : Nat) : Int) + ((l3 : Nat) : Int))) hp (free_of rfl) trivial (sq_in 8 rfl rfl (by simp) rfl (fun v w h => h)) (fun ρ w hc h => ⟨.bool false, by simp [execOp, go_sem, h, hc, TC.out], rfl⟩)
    intro L vs w8 nb hL hC hn E8
    have e0 : vs 0 = .pointer (some ⟨b3, 0, none⟩) := hC 0 (by simp)
    have e1 : vs 1 = .pointer (some ⟨b3, 1, none⟩) := hC 1 (by simp)
    have e2 : vs 2 = .slice a3 k3 c3 := hC 2 (by simp)
    have e3 : vs 3 = .int .i64 ((k3 : Nat) : Int) := hC 3 (by simp)
    have e4 : vs 4 = .pointer (some ⟨b3, 2, none⟩) := hC 4 (by simp)
    have e5 : vs 5 = .pointer (some ⟨b3, 3, none⟩) := hC 5 (by simp)
    have e6 : vs 6 = .slice r3 l3 q3 := hC 6 (by simp)
    have e7 : vs 7 = .int .i64 ((l3 : Nat) : Int) := hC 7 (by simp)
    have e8 : vs 8 = .int .i64 (((k3 : Nat) : Int) + ((l3 : Nat) : Int)) := hC 8 (by simp)
    have e9 : vs 9 = .bool false := hC 9 (by simp)
    have E : Fr w [(b3, 4, Fq.raw2 n3 a3 k3 c3 xs3 m3 r3 l3 q3 ys3), (b2, 4, Fq.raw2 n2 a2 k2 c2 xs2 m2 r2 l2 q2 ys2), (b1, 4, Fq.raw2 n1 a1 k1 c1 xs1 m1 r1 l1 q1 ys1)] w8 := E8
    rw [lay_all hL]
    simp only [putAll, dstOf, List.length_cons, List.length_nil, Nat.zero_add, Nat.reduceAdd, List.getElem?_toArray, List.getElem?_cons_zero, List.getElem?_cons_succ, Option.bind_some, Act.put, List.setIfInBounds_toArray, List.set_cons_succ, List.set_cons_zero]
    rw [e0, e1, e2, e3, e4, e5, e6, e7, e8, e9]
    clear e0 e1 e2 e3 e4 e5 e6 e7 e8 e9 hC hn E8 hL vs L nb
    clear TW TC
    go_upto_region 6 with (fail)
    refine region_fr (C := [Fq.raw2 n1 a1 k1 c1 xs1 m1 r1 l1 q1 ys1, Fq.pair a.num (a.den : Int), Fq.raw2 n2 a2 k2 c2 xs2 m2 r2 l2 q2 ys2, Fq.pair b.num (b.den : Int), Fq.any, Fq.any, Fq.any, Fq.any]) (ks := [none, none, none]) (new := [⟨4, 6, 4, Fq.pair 0 0, Fq.pair a.num (a.den : Int), none⟩, ⟨5, 7, 4, Fq.pair 0 0, Fq.pair b.num (b.den : Int), none⟩]) E rfl (by kernel_rfl) rfl rfl (fun hp => ⟨?_, ?_, ?_, ?_, ?_, ?_, ?_, ?_, trivial⟩) ?_
    · exact q_loadRaw2 hp (free_of rfl) trivial (List.mem_iff_getElem?.2 ⟨2, rfl⟩) (.inl rfl) rfl (sq_out rfl rfl (fun _ _ => rfl)) (fun us w hl h => h)
    · exact q_call2 (F := (Fq.raw2 n1 a1 k1 c1 xs1 m1 r1 l1 q1 ys1).P) (G := (Fq.is (.int .i64 6)).P) hp (free_of rfl) trivial (enq_S_Made) (sq_in 0 rfl rfl (by simp) rfl (fun v w h => h)) (sq_const (fun _ => rfl)) (fun v v' w h h' => (by obtain ⟨rfl, s1, s2⟩ := h; subst h'; rw [Ha.out]; exact exSMade (j := 6) s1 s2 K1.out L1.out (by omega)))
    · exact q_loadRaw2 hp (free_of rfl) trivial (List.mem_iff_getElem?.2 ⟨1, rfl⟩) (.inl rfl) rfl (sq_out rfl rfl (fun _ _ => rfl)) (fun us w hl h => h)
    · exact q_call2 (F := (Fq.raw2 n2 a2 k2 c2 xs2 m2 r2 l2 q2 ys2).P) (G := (Fq.is (.int .i64 6)).P) hp (free_of rfl) trivial (enq_S_Made) (sq_in 2 rfl rfl (by simp) rfl (fun v w h => h)) (sq_const (fun _ => rfl)) (fun v v' w h h' => (by obtain ⟨rfl, s1, s2⟩ := h; subst h'; rw [Hb.out]; exact exSMade (j := 6) s1 s2 K2.out L2.out (by omega)))
    · exact q_allocRat hp (List.mem_iff_getElem?.2 ⟨0, rfl⟩) rfl rfl rfl rfl (Nat.ne_of_beq_eq_false rfl) (fun _ _ => trivial) (old_ne rfl) (newk_ne rfl) (fun w => Pair.zero w)
    · exact q_allocRat hp (List.mem_iff_getElem?.2 ⟨1, rfl⟩) rfl rfl rfl rfl (Nat.ne_of_beq_eq_false rfl) (fun _ _ => trivial) (old_ne rfl) (newk_ne rfl) (fun w => Pair.zero w)
    · exact q_storeNewRat hp (List.mem_iff_getElem?.2 ⟨0, rfl⟩) rfl rfl rfl (own_ptr rfl rfl (by simp) rfl) (sq_in 1 rfl rfl (by simp) rfl (fun v w h => ratV_pair h)) (fun _ _ => trivial) (old_ne rfl) (newi_ne rfl)
    · exact q_storeNewRat hp (List.mem_iff_getElem?.2 ⟨1, rfl⟩) rfl rfl rfl (own_ptr rfl rfl (by simp) rfl) (sq_in 3 rfl rfl (by simp) rfl (fun v w h => ratV_pair h)) (fun _ _ => trivial) (old_ne rfl) (newi_ne rfl)
    intro L vs w9 nb hL hC hn E9
    have e4 : vs 4 = .pointer (some ⟨nb 4, 0, none⟩) := hn _ (List.mem_iff_getElem?.2 ⟨0, rfl⟩)
    have e5 : vs 5 = .pointer (some ⟨nb 5, 0, none⟩) := hn _ (List.mem_iff_getElem?.2 ⟨1, rfl⟩)
    have E : Fr w [(nb 4, 4, Fq.pair a.num (a.den : Int)), (nb 5, 4, Fq.pair b.num (b.den : Int)), (b3, 4, Fq.raw2 n3 a3 k3 c3 xs3 m3 r3 l3 q3 ys3), (b2, 4, Fq.raw2 n2 a2 k2 c2 xs2 m2 r2 l2 q2 ys2), (b1, 4, Fq.raw2 n1 a1 k1 c1 xs1 m1 r1 l1 q1 ys1)] w9 := E9
    rw [lay_all hL]
    simp only [putAll, dstOf, List.length_cons, List.length_nil, Nat.zero_add, Nat.reduceAdd, List.getElem?_toArray, List.getElem?_cons_zero, List.getElem?_cons_succ, Option.bind_some, Act.put, List.setIfInBounds_toArray, List.set_cons_succ, List.set_cons_zero]
    rw [e4, e5]
    generalize nb 4 = b9_4 at E ⊢
    generalize nb 5 = b9_5 at E ⊢
    generalize vs 0 = u9_0
    generalize vs 1 = u9_1
    generalize vs 2 = u9_2
    generalize vs 3 = u9_3
    clear e4 e5 hC hn E9 hL vs L nb
    go_upto_region 7 with (fail)
    have B10 : Hid (Rb (a + b) 13) := rb_le (rb_add Ba.out Bb.out) (by omega)
    have B11 : Hid (Rb (a - b) 13) := rb_le (rb_sub Ba.out Bb.out) (by omega)
    have B12 : Hid (Rb (a * b) 12) := rb_le (rb_mul Ba.out Bb.out) (by omega)
    refine region_frS (same := [(11, 10)]) (C := [Fq.pair a.num (a.den : Int), Fq.pair a.num (a.den : Int), Fq.pair b.num (b.den : Int), Fq.pair (a + b).num ((a + b).den : Int), Fq.pair a.num (a.den : Int), Fq.pair b.num (b.den : Int), Fq.pair (a - b).num ((a - b).den : Int), Fq.pair a.num (a.den : Int), Fq.pair b.num (b.den : Int), Fq.pair (a * b).num ((a * b).den : Int), Fq.any, Fq.any]) (ks := [none, none, none, none, none]) (new := [⟨10, 10, 16, Fq.rats [(a.num, (a.den : Int)), ((a + b).num, ((a + b).den : Int)), ((a - b).num, ((a - b).den : Int)), ((a * b).num, ((a * b).den : Int))], Fq.rats [(a.num, (a.den : Int)), ((a + b).num, ((a + b).den : Int)), ((a - b).num, ((a - b).den : Int)), ((a * b).num, ((a * b).den : Int))], (some 4)⟩]) E rfl (by kernel_rfl) rfl rfl (fun hp => ⟨?_, ?_, ?_, ?_, ?_, ?_, ?_, ?_, ?_, ?_, ?_, ?_, trivial⟩) ?_
    · exact stepS_of (q_loadRat hp (free_of rfl) trivial (List.mem_iff_getElem?.2 ⟨0, rfl⟩) (.inl rfl) rfl (sq_out rfl rfl (fun _ _ => rfl)) (fun us w hl h => h)) rfl
    · exact stepS_of (q_loadRat hp (free_of rfl) trivial (List.mem_iff_getElem?.2 ⟨0, rfl⟩) (.inl rfl) rfl (sq_out rfl rfl (fun _ _ => rfl)) (fun us w hl h => h)) rfl
    · exact stepS_of (q_loadRat hp (free_of rfl) trivial (List.mem_iff_getElem?.2 ⟨1, rfl⟩) (.inl rfl) rfl (sq_out rfl rfl (fun _ _ => rfl)) (fun us w hl h => h)) rfl
    · exact stepS_of (q_call2 (F := (Fq.pair a.num (a.den : Int)).P) (G := (Fq.pair b.num (b.den : Int)).P) hp (free_of rfl) trivial (enq_Q_Add) (sq_in 1 rfl rfl (by simp) rfl (fun v w h => h)) (sq_in 2 rfl rfl (by simp) rfl (fun v w h => h)) (fun v v' w h h' => exAddQ h h' (rb_le Ba.out (by omega)) (rb_le Bb.out (by omega)))) rfl
    · exact stepS_of (q_loadRat hp (free_of rfl) trivial (List.mem_iff_getElem?.2 ⟨0, rfl⟩) (.inl rfl) rfl (sq_out rfl rfl (fun _ _ => rfl)) (fun us w hl h => h)) rfl
    · exact stepS_of (q_loadRat hp (free_of rfl) trivial (List.mem_iff_getElem?.2 ⟨1, rfl⟩) (.inl rfl) rfl (sq_out rfl rfl (fun _ _ => rfl)) (fun us w hl h => h)) rfl
    · exact stepS_of (q_call2 (F := (Fq.pair a.num (a.den : Int)).P) (G := (Fq.pair b.num (b.den : Int)).P) hp (free_of rfl) trivial (enq_Q_Sub) (sq_in 4 rfl rfl (by simp) rfl (fun v w h => h)) (sq_in 5 rfl rfl (by simp) rfl (fun v w h => h)) (fun v v' w h h' => exSubQ h h' (rb_le Ba.out (by omega)) (rb_le Bb.out (by omega)))) rfl
    · exact stepS_of (q_loadRat hp (free_of rfl) trivial (List.mem_iff_getElem?.2 ⟨0, rfl⟩) (.inl rfl) rfl (sq_out rfl rfl (fun _ _ => rfl)) (fun us w hl h => h)) rfl
    · exact stepS_of (q_loadRat hp (free_of rfl) trivial (List.mem_iff_getElem?.2 ⟨1, rfl⟩) (.inl rfl) rfl (sq_out rfl rfl (fun _ _ => rfl)) (fun us w hl h => h)) rfl
    · exact stepS_of (q_call2 (F := (Fq.pair a.num (a.den : Int)).P) (G := (Fq.pair b.num (b.den : Int)).P) hp (free_of rfl) trivial (enq_Q_Mul) (sq_in 7 rfl rfl (by simp) rfl (fun v w h => h)) (sq_in 8 rfl rfl (by simp) rfl (fun v w h => h)) (fun v v' w h h' => exMulQ h h' (rb_le Ba.out (by omega)) (rb_le Bb.out (by omega)))) rfl
    · exact stepS_of (q_buildRats4 hp (List.mem_iff_getElem?.2 ⟨0, rfl⟩) rfl rfl rfl rfl rfl (sq_in 0 rfl rfl (by simp) rfl (fun v w h => h)) (sq_in 3 rfl rfl (by simp) rfl (fun v w h => h)) (sq_in 6 rfl rfl (by simp) rfl (fun v w h => h)) (sq_in 9 rfl rfl (by simp) rfl (fun v w h => h)) (fun _ _ => trivial) (old_ne rfl) (newks_ne rfl)) rfl
    · exact stepS_assign hp (free_of rfl) rfl (j := 10) rfl (by simp) rfl (fun _ _ => trivial) rfl (Nat.ne_of_beq_eq_false rfl)
    intro L vs w13 nb hsm hL hC hn E13
    have e10 : vs 10 = .slice (some ⟨nb 10, 0, none⟩) 4 4 := hn _ (List.mem_iff_getElem?.2 ⟨0, rfl⟩)
    have e11 : vs 11 = .slice (some ⟨nb 10, 0, none⟩) 4 4 := (hsm (11, 10) (by simp) (Nat.lt_of_sub_eq_succ rfl)).trans e10
    have E : Fr w [(nb 10, 16, Fq.rats [(a.num, (a.den : Int)), ((a + b).num, ((a + b).den : Int)), ((a - b).num, ((a - b).den : Int)), ((a * b).num, ((a * b).den : Int))]), (b9_4, 4, Fq.pair a.num (a.den : Int)), (b9_5, 4, Fq.pair b.num (b.den : Int)), (b3, 4, Fq.raw2 n3 a3 k3 c3 xs3 m3 r3 l3 q3 ys3), (b2, 4, Fq.raw2 n2 a2 k2 c2 xs2 m2 r2 l2 q2 ys2), (b1, 4, Fq.raw2 n1 a1 k1 c1 xs1 m1 r1 l1 q1 ys1)] w13 := E13
    rw [lay_all hL]
    simp only [putAll, dstOf, List.length_cons, List.length_nil, Nat.zero_add, Nat.reduceAdd, List.getElem?_toArray, List.getElem?_cons_zero, List.getElem?_cons_succ, Option.bind_some, Act.put, List.setIfInBounds_toArray, List.set_cons_succ, List.set_cons_zero]
    rw [e10, e11]
    generalize nb 10 = b13_10 at E ⊢
    generalize vs 0 = u13_0
    generalize vs 1 = u13_1
    generalize vs 2 = u13_2
    generalize vs 3 = u13_3
    generalize vs 4 = u13_4
    generalize vs 5 = u13_5
    generalize vs 6 = u13_6
    generalize vs 7 = u13_7
    generalize vs 8 = u13_8
    generalize vs 9 = u13_9
    clear e10 e11 hsm hC hn E13 hL vs L nb
    go_upto_region 8 with (fail)
    refine region_fr (C := [Fq.is (.int .i64 0)]) (ks := [none, none, none, none, none, none]) (new := []) E rfl (by kernel_rfl) rfl rfl (fun hp => ⟨?_, trivial⟩) ?_
    · exact q_assign hp (free_of rfl) trivial (sq_const (fun _ => rfl))
    intro L vs w14 nb hL hC hn E14
    have e0 : vs 0 = .int .i64 0 := hC 0 (by simp)
    have E : Fr w [(b13_10, 16, Fq.rats [(a.num, (a.den : Int)), ((a + b).num, ((a + b).den : Int)), ((a - b).num, ((a - b).den : Int)), ((a * b).num, ((a * b).den : Int))]), (b9_4, 4, Fq.pair a.num (a.den : Int)), (b9_5, 4, Fq.pair b.num (b.den : Int)), (b3, 4, Fq.raw2 n3 a3 k3 c3 xs3 m3 r3 l3 q3 ys3), (b2, 4, Fq.raw2 n2 a2 k2 c2 xs2 m2 r2 l2 q2 ys2), (b1, 4, Fq.raw2 n1 a1 k1 c1 xs1 m1 r1 l1 q1 ys1)] w14 := E14
    rw [lay_all hL]
    simp only [putAll, dstOf, List.length_cons, List.length_nil, Nat.zero_add, List.getElem?_toArray, List.getElem?_cons_zero, Option.bind_some, Act.put, List.setIfInBounds_toArray, List.set_cons_succ, List.set_cons_zero]
    rw [e0]
    clear e0 hC hn E14 hL vs L nb
    have HS := hidd E
    go_upto_region 9 with (fail)
    go_loopw [11] (fun vi W => ∃ k : Nat, k ≤ 4 ∧ vi = .int .i64 (k : Int) ∧ Fr w [(b13_10, 16, Fq.rats [(a.num, (a.den : Int)), ((a + b).num, ((a + b).den : Int)), ((a - b).num, ((a - b).den : Int)), ((a * b).num, ((a * b).den : Int))]), (b9_4, 4, Fq.pair a.num (a.den : Int)), (b9_5, 4, Fq.pair b.num (b.den : Int)), (b3, 4, Fq.raw2 n3 a3 k3 c3 xs3 m3 r3 l3 q3 ys3), (b2, 4, Fq.raw2 n2 a2 k2 c2 xs2 m2 r2 l2 q2 ys2), (b1, 4, Fq.raw2 n1 a1 k1 c1 xs1 m1 r1 l1 q1 ys1)] W) (fun vi _ => 4 - (intOf vi).toNat)
    case atStart => exact ⟨0, by omega, rfl, HS.out⟩
    case round =>
      obtain ⟨k, hk4, rfl, E⟩ := hrel
      clear HS
      by_cases hk : k < 4
      · have HK := hidd hk
        have TL : Hid (((k : Nat) : Int) < 4) := by show _ < _; omega
        have hw : wrap64 ((k : Int) + 1) = (k : Int) + 1 := by simp only [wrap64]; omega
        obtain ⟨q, hq1, hq2⟩ : ∃ q : Rat, [(a.num, (a.den : Int)), ((a + b).num, ((a + b).den : Int)), ((a - b).num, ((a - b).den : Int)), ((a * b).num, ((a * b).den : Int))][k]? = some (q.num, (q.den : Int)) ∧ Rb q 20 := by
          match k, hk with
          | 0, _ => exact ⟨a, rfl, rb_le Ba.out (by omega)⟩
          | 1, _ => exact ⟨a + b, rfl, rb_le B10.out (by omega)⟩
          | 2, _ => exact ⟨a - b, rfl, rb_le B11.out (by omega)⟩
          | 3, _ => exact ⟨a * b, rfl, rb_le B12.out (by omega)⟩
          | k + 4, h => exact absurd h (by omega)
        have HQ := hidd hq1
        have Bq := hidd hq2
        clear hk hk4 hq1 hq2
        go_upto_region 9 with (fail)
        refine region_fr (C := [Fq.is (.int .i64 ((k : Nat) : Int)), Fq.is (.slice (some ⟨b13_10, 0, none⟩) 4 4), Fq.is (.int .i64 ((4 : Nat) : Int)), Fq.is (.bool true)]) (ks := [none, none, none, none, none, none]) (new := []) E rfl (by kernel_rfl) rfl rfl (fun hp => ⟨?_, ?_, ?_, ?_, trivial⟩) ?_
        · exact q_move hp (free_of rfl) trivial (sq_out rfl rfl (fun _ _ => rfl))
        · exact q_move hp (free_of rfl) trivial (sq_out rfl rfl (fun _ _ => rfl))
        · exact q_lenR hp (free_of rfl) trivial (sq_in 1 rfl rfl (by simp) rfl (fun v w h => h)) (fun _ => rfl)
        · exact q_two (F := fun v _ => v = .int .i64 ((k : Nat) : Int)) (G := fun v _ => v = .int .i64 ((4 : Nat) : Int)) hp (free_of rfl) trivial (sq_in 0 rfl rfl (by simp) rfl (fun v w h => h)) (sq_in 2 rfl rfl (by simp) rfl (fun v w h => h)) (fun ρ w hc h h' => ⟨.bool true, by simp [execOp, go_sem, h, h', TL.out], rfl⟩)
        intro L vs w15 nb hL hC hn E15
        have e0 : vs 0 = .int .i64 ((k : Nat) : Int) := hC 0 (by simp)
        have e1 : vs 1 = .slice (some ⟨b13_10, 0, none⟩) 4 4 := hC 1 (by simp)
        have e2 : vs 2 = .int .i64 ((4 : Nat) : Int) := hC 2 (by simp)
        have e3 : vs 3 = .bool true := hC 3 (by simp)
        have E : Fr w [(b13_10, 16, Fq.rats [(a.num, (a.den : Int)), ((a + b).num, ((a + b).den : Int)), ((a - b).num, ((a - b).den : Int)), ((a * b).num, ((a * b).den : Int))]), (b9_4, 4, Fq.pair a.num (a.den : Int)), (b9_5, 4, Fq.pair b.num (b.den : Int)), (b3, 4, Fq.raw2 n3 a3 k3 c3 xs3 m3 r3 l3 q3 ys3), (b2, 4, Fq.raw2 n2 a2 k2 c2 xs2 m2 r2 l2 q2 ys2), (b1, 4, Fq.raw2 n1 a1 k1 c1 xs1 m1 r1 l1 q1 ys1)] w15 := E15
        rw [lay_all hL]
        simp only [putAll, dstOf, List.length_cons, List.length_nil, Nat.zero_add, Nat.reduceAdd, List.getElem?_toArray, List.getElem?_cons_zero, List.getElem?_cons_succ, Option.bind_some, Act.put, List.setIfInBounds_toArray, List.set_cons_succ, List.set_cons_zero]
        rw [e0, e1, e2, e3]
        clear e0 e1 e2 e3 hC hn E15 hL vs L nb
        go_upto_region 11 with (fail)
        refine region_fr (C := [Fq.is (.slice (some ⟨b13_10, 0, none⟩) 4 4), Fq.is (.int .i64 ((k : Nat) : Int)), Fq.is (.pointer (some ⟨b13_10, k * 4, none⟩)), Fq.pair q.num (q.den : Int), Fq.is (.bool true), Fq.is (.bool false), Fq.is (.bool false), Fq.is (.slice (some ⟨b13_10, 0, none⟩) 4 4), Fq.is (.int .i64 ((k : Nat) : Int)), Fq.is (.pointer (some ⟨b13_10, k * 4, none⟩)), Fq.pair q.num (q.den : Int), Fq.is (.bool true), Fq.is (.bool false), Fq.is (.bool false)]) (ks := [none, none, none, none, none, none]) (new := []) E rfl (by kernel_rfl) rfl rfl (fun hp => ⟨?_, ?_, ?_, ?_, ?_, ?_, ?_, ?_, ?_, ?_, ?_, ?_, ?_, ?_, trivial⟩) ?_
        · exact q_move hp (free_of rfl) trivial (sq_out rfl rfl (fun _ _ => rfl))
        · exact q_move hp (free_of rfl) trivial (sq_out rfl rfl (fun _ _ => rfl))
        · exact q_index (b := b13_10) (l := 4) (k := k) hp (free_of rfl) trivial (sq_in 0 rfl rfl (by simp) rfl (fun v w h => h)) (sq_in 1 rfl rfl (by simp) rfl (fun v w h => h)) HK.out (fun _ => rfl)
        · exact q_loadRatAt (off := k * 4) hp (free_of rfl) trivial (List.mem_iff_getElem?.2 ⟨0, rfl⟩) (.inl rfl) (show k * 4 + 4 ≤ 16 by have := HK.out; omega) (sq_in 2 rfl rfl (by simp) rfl (fun v w h => h)) (fun us w hl h => ld_rats HQ.out h)
        · exact q_call1 (F := (Fq.pair q.num (q.den : Int)).P) hp (free_of rfl) trivial (enq_S_Valid) (sq_in 3 rfl rfl (by simp) rfl (fun v w h => h)) (fun v w h => exSValidQ h (rb_le Bq.out (by omega)))
        · exact q_one (F := fun v _ => v = .bool true) hp (free_of rfl) trivial (sq_in 4 rfl rfl (by simp) rfl (fun v w h => h)) (fun ρ w _ h => ⟨.bool false, by simp [execOp, go_sem, h], rfl⟩)
        · exact q_move hp (free_of rfl) trivial (sq_in 5 rfl rfl (by simp) rfl (fun v w h => h))
        · exact q_move hp (free_of rfl) (gq_some rfl rfl (by simp) rfl (fun v w h => h)) (sq_out rfl rfl (fun _ _ => rfl))
        · exact q_move hp (free_of rfl) (gq_some rfl rfl (by simp) rfl (fun v w h => h)) (sq_out rfl rfl (fun _ _ => rfl))
        · exact q_index (b := b13_10) (l := 4) (k := k) hp (free_of rfl) (gq_some rfl rfl (by simp) rfl (fun v w h => h)) (sq_in 7 rfl rfl (by simp) rfl (fun v w h => h)) (sq_in 8 rfl rfl (by simp) rfl (fun v w h => h)) HK.out (fun _ => rfl)
        · exact q_loadRatAt (off := k * 4) hp (free_of rfl) (gq_some rfl rfl (by simp) rfl (fun v w h => h)) (List.mem_iff_getElem?.2 ⟨0, rfl⟩) (.inl rfl) (show k * 4 + 4 ≤ 16 by have := HK.out; omega) (sq_in 9 rfl rfl (by simp) rfl (fun v w h => h)) (fun us w hl h => ld_rats HQ.out h)
        · exact q_call1 (F := (Fq.pair q.num (q.den : Int)).P) hp (free_of rfl) (gq_some rfl rfl (by simp) rfl (fun v w h => h)) (enq_Q_Valid) (sq_in 10 rfl rfl (by simp) rfl (fun v w h => h)) (fun v w h => exValidQ h (rb_le Bq.out (by omega)))
        · exact q_one (F := fun v _ => v = .bool true) hp (free_of rfl) (gq_some rfl rfl (by simp) rfl (fun v w h => h)) (sq_in 11 rfl rfl (by simp) rfl (fun v w h => h)) (fun ρ w _ h => ⟨.bool false, by simp [execOp, go_sem, h], rfl⟩)
        · exact q_two (F := fun v _ => v = .bool false) (G := fun v _ => v = .bool false) hp (free_of rfl) trivial (sq_in 6 rfl rfl (by simp) rfl (fun v w h => h)) (sq_in 12 rfl rfl (by simp) rfl (fun v w h => h)) (fun ρ w hc h h' => ⟨_, by simp [execOp, go_sem, h, h'], rfl⟩)
        intro L vs w16 nb hL hC hn E16
        have e0 : vs 0 = .slice (some ⟨b13_10, 0, none⟩) 4 4 := hC 0 (by simp)
        have e1 : vs 1 = .int .i64 ((k : Nat) : Int) := hC 1 (by simp)
        have e2 : vs 2 = .pointer (some ⟨b13_10, k * 4, none⟩) := hC 2 (by simp)
        have e4 : vs 4 = .bool true := hC 4 (by simp)
        have e5 : vs 5 = .bool false := hC 5 (by simp)
        have e6 : vs 6 = .bool false := hC 6 (by simp)
        have e7 : vs 7 = .slice (some ⟨b13_10, 0, none⟩) 4 4 := hC 7 (by simp)
        have e8 : vs 8 = .int .i64 ((k : Nat) : Int) := hC 8 (by simp)
        have e9 : vs 9 = .pointer (some ⟨b13_10, k * 4, none⟩) := hC 9 (by simp)
        have e11 : vs 11 = .bool true := hC 11 (by simp)
        have e12 : vs 12 = .bool false := hC 12 (by simp)
        have e13 : vs 13 = .bool false := hC 13 (by simp)
        have E : Fr w [(b13_10, 16, Fq.rats [(a.num, (a.den : Int)), ((a + b).num, ((a + b).den : Int)), ((a - b).num, ((a - b).den : Int)), ((a * b).num, ((a * b).den : Int))]), (b9_4, 4, Fq.pair a.num (a.den : Int)), (b9_5, 4, Fq.pair b.num (b.den : Int)), (b3, 4, Fq.raw2 n3 a3 k3 c3 xs3 m3 r3 l3 q3 ys3), (b2, 4, Fq.raw2 n2 a2 k2 c2 xs2 m2 r2 l2 q2 ys2), (b1, 4, Fq.raw2 n1 a1 k1 c1 xs1 m1 r1 l1 q1 ys1)] w16 := E16
        rw [lay_all hL]
        simp only [putAll, dstOf, List.length_cons, List.length_nil, Nat.zero_add, Nat.reduceAdd, List.getElem?_toArray, List.getElem?_cons_zero, List.getElem?_cons_succ, Option.bind_some, Act.put, List.setIfInBounds_toArray, List.set_cons_succ, List.set_cons_zero]
        rw [e0, e1, e2, e4, e5, e6, e7, e8, e9, e11, e12, e13]
        generalize vs 3 = u16_3
        generalize vs 10 = u16_10
        clear e0 e1 e2 e4 e5 e6 e7 e8 e9 e11 e12 e13 hC hn E16 hL vs L nb
        clear TL
        go_wp2
        go_roundw
        case rel => exact ⟨k + 1, by have := HK.out; omega, by first | go_num | (rw [hw]; go_num), E⟩
        case measure => first | exact measQ HK.out | (rw [hw]; exact measQ HK.out)
      · have TL : Hid (¬ ((k : Nat) : Int) < 4) := by show ¬ _; omega
        clear hk hk4
        go_upto_region 9 with (fail)
        refine region_fr (C := [Fq.is (.int .i64 ((k : Nat) : Int)), Fq.is (.slice (some ⟨b13_10, 0, none⟩) 4 4), Fq.is (.int .i64 ((4 : Nat) : Int)), Fq.is (.bool false)]) (ks := [none, none, none, none, none, none]) (new := []) E rfl (by kernel_rfl) rfl rfl (fun hp => ⟨?_, ?_, ?_, ?_, trivial⟩) ?_
        · exact q_move hp (free_of rfl) trivial (sq_out rfl rfl (fun _ _ => rfl))
        · exact q_move hp (free_of rfl) trivial (sq_out rfl rfl (fun _ _ => rfl))
        · exact q_lenR hp (free_of rfl) trivial (sq_in 1 rfl rfl (by simp) rfl (fun v w h => h)) (fun _ => rfl)
        · exact q_two (F := fun v _ => v = .int .i64 ((k : Nat) : Int)) (G := fun v _ => v = .int .i64 ((4 : Nat) : Int)) hp (free_of rfl) trivial (sq_in 0 rfl rfl (by simp) rfl (fun v w h => h)) (sq_in 2 rfl rfl (by simp) rfl (fun v w h => h)) (fun ρ w hc h h' => ⟨.bool false, by simp [execOp, go_sem, h, h', TL.out], rfl⟩)
        intro L vs w17 nb hL hC hn E17
        have e0 : vs 0 = .int .i64 ((k : Nat) : Int) := hC 0 (by simp)
        have e1 : vs 1 = .slice (some ⟨b13_10, 0, none⟩) 4 4 := hC 1 (by simp)
        have e2 : vs 2 = .int .i64 ((4 : Nat) : Int) := hC 2 (by simp)
        have e3 : vs 3 = .bool false := hC 3 (by simp)
        have E : Fr w [(b13_10, 16, Fq.rats [(a.num, (a.den : Int)), ((a + b).num, ((a + b).den : Int)), ((a - b).num, ((a - b).den : Int)), ((a * b).num, ((a * b).den : Int))]), (b9_4, 4, Fq.pair a.num (a.den : Int)), (b9_5, 4, Fq.pair b.num (b.den : Int)), (b3, 4, Fq.raw2 n3 a3 k3 c3 xs3 m3 r3 l3 q3 ys3), (b2, 4, Fq.raw2 n2 a2 k2 c2 xs2 m2 r2 l2 q2 ys2), (b1, 4, Fq.raw2 n1 a1 k1 c1 xs1 m1 r1 l1 q1 ys1)] w17 := E17
        rw [lay_all hL]
        simp only [putAll, dstOf, List.length_cons, List.length_nil, Nat.zero_add, Nat.reduceAdd, List.getElem?_toArray, List.getElem?_cons_zero, List.getElem?_cons_succ, Option.bind_some, Act.put, List.setIfInBounds_toArray, List.set_cons_succ, List.set_cons_zero]
        rw [e0, e1, e2, e3]
        clear e0 e1 e2 e3 hC hn E17 hL vs L nb
        clear TL
        go_upto_region 13 with (fail)
        have B18 : Hid (ab ((a.num + a.num)) < pw 7) := ab_addB Ba.out.1 Ba.out.1 (by omega) (by omega)
        have B19 : Hid (ab (((a.den : Int) + (a.den : Int))) < pw 7) := ab_addB Ba.out.2 Ba.out.2 (by omega) (by omega)
        refine region_fr (C := [Fq.is (.pointer (some ⟨b9_4, 0, none⟩)), Fq.num a.num, Fq.is (.pointer (some ⟨b9_4, 0, none⟩)), Fq.num a.num, Fq.num (a.num + a.num), Fq.is (.pointer (some ⟨b9_4, 2, none⟩)), Fq.num (a.den : Int), Fq.is (.pointer (some ⟨b9_4, 2, none⟩)), Fq.num (a.den : Int), Fq.num ((a.den : Int) + (a.den : Int)), Fq.pair (a.num + a.num) ((a.den : Int) + (a.den : Int)), Fq.any, Fq.any]) (ks := [none, none, none, none, none, none]) (new := [⟨11, 12, 4, Fq.pair 0 0, Fq.pair (a.num + a.num) ((a.den : Int) + (a.den : Int)), none⟩]) E rfl (by kernel_rfl) rfl rfl (fun hp => ⟨?_, ?_, ?_, ?_, ?_, ?_, ?_, ?_, ?_, ?_, ?_, ?_, ?_, trivial⟩) ?_
        · exact q_addr (b := b9_4) (off := 0) (off' := 0) hp (free_of rfl) trivial (sq_out rfl rfl (fun _ _ => rfl)) (fun ρ w h => by simp [execOp, go_sem, h]) (fun _ => rfl)
        · exact q_loadInt (off := 0) hp (free_of rfl) trivial (List.mem_iff_getElem?.2 ⟨1, rfl⟩) (.inl rfl) (Nat.le_of_ble_eq_true rfl) (sq_in 0 rfl rfl (by simp) rfl (fun v w h => h)) (fun us w hl h => ld_pn hl h)
        · exact q_addr (b := b9_4) (off := 0) (off' := 0) hp (free_of rfl) trivial (sq_out rfl rfl (fun _ _ => rfl)) (fun ρ w h => by simp [execOp, go_sem, h]) (fun _ => rfl)
        · exact q_loadInt (off := 0) hp (free_of rfl) trivial (List.mem_iff_getElem?.2 ⟨1, rfl⟩) (.inl rfl) (Nat.le_of_ble_eq_true rfl) (sq_in 2 rfl rfl (by simp) rfl (fun v w h => h)) (fun us w hl h => ld_pn hl h)
        · exact q_call2 (F := (Fq.num a.num).P) (G := (Fq.num a.num).P) hp (free_of rfl) trivial (enq_R_Add) (sq_in 1 rfl rfl (by simp) rfl (fun v w h => h)) (sq_in 3 rfl rfl (by simp) rfl (fun v w h => h)) (fun v v' w h h' => exK (RAddV h h') B18.out (by omega))
        · exact q_addr (b := b9_4) (off := 0) (off' := 2) hp (free_of rfl) trivial (sq_out rfl rfl (fun _ _ => rfl)) (fun ρ w h => by simp [execOp, go_sem, h]) (fun _ => rfl)
        · exact q_loadInt (off := 2) hp (free_of rfl) trivial (List.mem_iff_getElem?.2 ⟨1, rfl⟩) (.inl rfl) (Nat.le_of_ble_eq_true rfl) (sq_in 5 rfl rfl (by simp) rfl (fun v w h => h)) (fun us w hl h => ld_pd hl h)
        · exact q_addr (b := b9_4) (off := 0) (off' := 2) hp (free_of rfl) trivial (sq_out rfl rfl (fun _ _ => rfl)) (fun ρ w h => by simp [execOp, go_sem, h]) (fun _ => rfl)
        · exact q_loadInt (off := 2) hp (free_of rfl) trivial (List.mem_iff_getElem?.2 ⟨1, rfl⟩) (.inl rfl) (Nat.le_of_ble_eq_true rfl) (sq_in 7 rfl rfl (by simp) rfl (fun v w h => h)) (fun us w hl h => ld_pd hl h)
        · exact q_call2 (F := (Fq.num (a.den : Int)).P) (G := (Fq.num (a.den : Int)).P) hp (free_of rfl) trivial (enq_R_Add) (sq_in 6 rfl rfl (by simp) rfl (fun v w h => h)) (sq_in 8 rfl rfl (by simp) rfl (fun v w h => h)) (fun v v' w h h' => exK (RAddV h h') B19.out (by omega))
        · exact q_buildRat (n := (a.num + a.num)) (d0 := ((a.den : Int) + (a.den : Int))) hp (free_of rfl) trivial (sq_in 4 rfl rfl (by simp) rfl (fun v w h => h)) (sq_in 9 rfl rfl (by simp) rfl (fun v w h => h)) (fun v w h => h)
        · exact q_allocRat hp (List.mem_iff_getElem?.2 ⟨0, rfl⟩) rfl rfl rfl rfl (Nat.ne_of_beq_eq_false rfl) (fun _ _ => trivial) (old_ne rfl) (newk_ne rfl) (fun w => Pair.zero w)
        · exact q_storeNewRat hp (List.mem_iff_getElem?.2 ⟨0, rfl⟩) rfl rfl rfl (own_ptr rfl rfl (by simp) rfl) (sq_in 10 rfl rfl (by simp) rfl (fun v w h => ratV_pair h)) (fun _ _ => trivial) (old_ne rfl) (newi_ne rfl)
        intro L vs w20 nb hL hC hn E20
        have e0 : vs 0 = .pointer (some ⟨b9_4, 0, none⟩) := hC 0 (by simp)
        have e2 : vs 2 = .pointer (some ⟨b9_4, 0, none⟩) := hC 2 (by simp)
        have e5 : vs 5 = .pointer (some ⟨b9_4, 2, none⟩) := hC 5 (by simp)
        have e7 : vs 7 = .pointer (some ⟨b9_4, 2, none⟩) := hC 7 (by simp)
        have e11 : vs 11 = .pointer (some ⟨nb 11, 0, none⟩) := hn _ (List.mem_iff_getElem?.2 ⟨0, rfl⟩)
        have E : Fr w [(nb 11, 4, Fq.pair (a.num + a.num) ((a.den : Int) + (a.den : Int))), (b13_10, 16, Fq.rats [(a.num, (a.den : Int)), ((a + b).num, ((a + b).den : Int)), ((a - b).num, ((a - b).den : Int)), ((a * b).num, ((a * b).den : Int))]), (b9_4, 4, Fq.pair a.num (a.den : Int)), (b9_5, 4, Fq.pair b.num (b.den : Int)), (b3, 4, Fq.raw2 n3 a3 k3 c3 xs3 m3 r3 l3 q3 ys3), (b2, 4, Fq.raw2 n2 a2 k2 c2 xs2 m2 r2 l2 q2 ys2), (b1, 4, Fq.raw2 n1 a1 k1 c1 xs1 m1 r1 l1 q1 ys1)] w20 := E20
        rw [lay_all hL]
        simp only [putAll, dstOf, List.length_cons, List.length_nil, Nat.zero_add, Nat.reduceAdd, List.getElem?_toArray, List.getElem?_cons_zero, List.getElem?_cons_succ, Option.bind_some, Act.put, List.setIfInBounds_toArray, List.set_cons_succ, List.set_cons_zero]
        rw [e0, e2, e5, e7, e11]
        generalize nb 11 = b20_11 at E ⊢
        generalize vs 1 = u20_1
        generalize vs 3 = u20_3
        generalize vs 4 = u20_4
        generalize vs 6 = u20_6
        generalize vs 8 = u20_8
        generalize vs 9 = u20_9
        generalize vs 10 = u20_10
        clear e0 e2 e5 e7 e11 hC hn E20 hL vs L nb
        go_upto_region 14 with (fail)
        have B21 : Hid (ab ((-a.num)) < pw 6) := ab_negB Ba.out.1
        have B22 : Hid (ab ((-(a.den : Int))) < pw 6) := ab_negB Ba.out.2
        refine region_fr (C := [Fq.is (.pointer (some ⟨b9_4, 0, none⟩)), Fq.num a.num, Fq.num (-a.num), Fq.is (.pointer (some ⟨b9_4, 2, none⟩)), Fq.num (a.den : Int), Fq.num (-(a.den : Int)), Fq.pair (-a.num) (-(a.den : Int)), Fq.any, Fq.any]) (ks := [none, none, none, none, none, none, none]) (new := [⟨7, 8, 4, Fq.pair 0 0, Fq.pair (-a.num) (-(a.den : Int)), none⟩]) E rfl (by kernel_rfl) rfl rfl (fun hp => ⟨?_, ?_, ?_, ?_, ?_, ?_, ?_, ?_, ?_, trivial⟩) ?_
        · exact q_addr (b := b9_4) (off := 0) (off' := 0) hp (free_of rfl) trivial (sq_out rfl rfl (fun _ _ => rfl)) (fun ρ w h => by simp [execOp, go_sem, h]) (fun _ => rfl)
        · exact q_loadInt (off := 0) hp (free_of rfl) trivial (List.mem_iff_getElem?.2 ⟨2, rfl⟩) (.inl rfl) (Nat.le_of_ble_eq_true rfl) (sq_in 0 rfl rfl (by simp) rfl (fun v w h => h)) (fun us w hl h => ld_pn hl h)
        · exact q_call1 (F := (Fq.num a.num).P) hp (free_of rfl) trivial (enq_R_Neg) (sq_in 1 rfl rfl (by simp) rfl (fun v w h => h)) (fun v w h => exK (RNegV h) B21.out (by omega))
        · exact q_addr (b := b9_4) (off := 0) (off' := 2) hp (free_of rfl) trivial (sq_out rfl rfl (fun _ _ => rfl)) (fun ρ w h => by simp [execOp, go_sem, h]) (fun _ => rfl)
        · exact q_loadInt (off := 2) hp (free_of rfl) trivial (List.mem_iff_getElem?.2 ⟨2, rfl⟩) (.inl rfl) (Nat.le_of_ble_eq_true rfl) (sq_in 3 rfl rfl (by simp) rfl (fun v w h => h)) (fun us w hl h => ld_pd hl h)
        · exact q_call1 (F := (Fq.num (a.den : Int)).P) hp (free_of rfl) trivial (enq_R_Neg) (sq_in 4 rfl rfl (by simp) rfl (fun v w h => h)) (fun v w h => exK (RNegV h) B22.out (by omega))
        · exact q_buildRat (n := (-a.num)) (d0 := (-(a.den : Int))) hp (free_of rfl) trivial (sq_in 2 rfl rfl (by simp) rfl (fun v w h => h)) (sq_in 5 rfl rfl (by simp) rfl (fun v w h => h)) (fun v w h => h)
        · exact q_allocRat hp (List.mem_iff_getElem?.2 ⟨0, rfl⟩) rfl rfl rfl rfl (Nat.ne_of_beq_eq_false rfl) (fun _ _ => trivial) (old_ne rfl) (newk_ne rfl) (fun w => Pair.zero w)
        · exact q_storeNewRat hp (List.mem_iff_getElem?.2 ⟨0, rfl⟩) rfl rfl rfl (own_ptr rfl rfl (by simp) rfl) (sq_in 6 rfl rfl (by simp) rfl (fun v w h => ratV_pair h)) (fun _ _ => trivial) (old_ne rfl) (newi_ne rfl)
        intro L vs w23 nb hL hC hn E23
        have e0 : vs 0 = .pointer (some ⟨b9_4, 0, none⟩) := hC 0 (by simp)
        have e3 : vs 3 = .pointer (some ⟨b9_4, 2, none⟩) := hC 3 (by simp)
        have e7 : vs 7 = .pointer (some ⟨nb 7, 0, none⟩) := hn _ (List.mem_iff_getElem?.2 ⟨0, rfl⟩)
        have E : Fr w [(nb 7, 4, Fq.pair (-a.num) (-(a.den : Int))), (b20_11, 4, Fq.pair (a.num + a.num) ((a.den : Int) + (a.den : Int))), (b13_10, 16, Fq.rats [(a.num, (a.den : Int)), ((a + b).num, ((a + b).den : Int)), ((a - b).num, ((a - b).den : Int)), ((a * b).num, ((a * b).den : Int))]), (b9_4, 4, Fq.pair a.num (a.den : Int)), (b9_5, 4, Fq.pair b.num (b.den : Int)), (b3, 4, Fq.raw2 n3 a3 k3 c3 xs3 m3 r3 l3 q3 ys3), (b2, 4, Fq.raw2 n2 a2 k2 c2 xs2 m2 r2 l2 q2 ys2), (b1, 4, Fq.raw2 n1 a1 k1 c1 xs1 m1 r1 l1 q1 ys1)] w23 := E23
        rw [lay_all hL]
        simp only [putAll, dstOf, List.length_cons, List.length_nil, Nat.zero_add, Nat.reduceAdd, List.getElem?_toArray, List.getElem?_cons_zero, List.getElem?_cons_succ, Option.bind_some, Act.put, List.setIfInBounds_toArray, List.set_cons_succ, List.set_cons_zero]
        rw [e0, e3, e7]
        generalize nb 7 = b23_7 at E ⊢
        generalize vs 1 = u23_1
        generalize vs 2 = u23_2
        generalize vs 4 = u23_4
        generalize vs 5 = u23_5
        generalize vs 6 = u23_6
        clear e0 e3 e7 hC hn E23 hL vs L nb
        go_upto_region 15 with (fail)
        refine region_fr (C := [Fq.pair (a.num + a.num) ((a.den : Int) + (a.den : Int)), Fq.is (.bool false), Fq.is (.bool true), Fq.is (.bool true), Fq.pair (-a.num) (-(a.den : Int)), Fq.is (.bool false), Fq.is (.bool true), Fq.is (.bool true), Fq.is (.bool true), Fq.raw2 n3 a3 k3 c3 xs3 m3 r3 l3 q3 ys3, Fq.is (.bool (validQ n3 xs3 m3 ys3)), Fq.raw2 n3 a3 k3 c3 xs3 m3 r3 l3 q3 ys3, Fq.is (.bool (validQ n3 xs3 m3 ys3)), Fq.is (.bool true), Fq.is (.bool true), Fq.is (.bool true), Fq.is (.bool true), Fq.is (.bool true), Fq.is (.bool true)]) (ks := [none, none, none, none, none, none, none, none]) (new := []) E rfl (by kernel_rfl) rfl rfl (fun hp => ⟨?_, ?_, ?_, ?_, ?_, ?_, ?_, ?_, ?_, ?_, ?_, ?_, ?_, ?_, ?_, ?_, ?_, ?_, ?_, trivial⟩) ?_
        · exact q_loadRat hp (free_of rfl) trivial (List.mem_iff_getElem?.2 ⟨1, rfl⟩) (.inl rfl) rfl (sq_out rfl rfl (fun _ _ => rfl)) (fun us w hl h => h)
        · exact q_call1 (F := (Fq.pair (a.num + a.num) ((a.den : Int) + (a.den : Int))).P) hp (free_of rfl) trivial (enq_Q_Valid) (sq_in 0 rfl rfl (by simp) rfl (fun v w h => h)) (fun v w h => exValidG h (Int.lt_of_lt_of_le B18.out (pw_le (by omega))) (Int.lt_of_lt_of_le B19.out (pw_le (by omega))) (by have := den_pos a; omega) (gcd_twice _ _))
        · exact q_one (F := fun v _ => v = .bool false) hp (free_of rfl) trivial (sq_in 1 rfl rfl (by simp) rfl (fun v w h => h)) (fun ρ w _ h => ⟨.bool true, by simp [execOp, go_sem, h], rfl⟩)
        · exact q_move hp (free_of rfl) trivial (sq_in 2 rfl rfl (by simp) rfl (fun v w h => h))
        · exact q_loadRat hp (free_of rfl) (gq_some rfl rfl (by simp) rfl (fun v w h => h)) (List.mem_iff_getElem?.2 ⟨0, rfl⟩) (.inl rfl) rfl (sq_out rfl rfl (fun _ _ => rfl)) (fun us w hl h => h)
        · exact q_call1 (F := (Fq.pair (-a.num) (-(a.den : Int))).P) hp (free_of rfl) (gq_some rfl rfl (by simp) rfl (fun v w h => h)) (enq_Q_Valid) (sq_in 4 rfl rfl (by simp) rfl (fun v w h => h)) (fun v w h => exValidN h (by have := den_pos a; omega))
        · exact q_one (F := fun v _ => v = .bool false) hp (free_of rfl) (gq_some rfl rfl (by simp) rfl (fun v w h => h)) (sq_in 5 rfl rfl (by simp) rfl (fun v w h => h)) (fun ρ w _ h => ⟨.bool true, by simp [execOp, go_sem, h], rfl⟩)
        · exact q_two (F := fun v _ => v = .bool true) (G := fun v _ => v = .bool true) hp (free_of rfl) trivial (sq_in 3 rfl rfl (by simp) rfl (fun v w h => h)) (sq_in 6 rfl rfl (by simp) rfl (fun v w h => h)) (fun ρ w hc h h' => ⟨_, by simp [execOp, go_sem, h, h'], rfl⟩)
        · exact q_move hp (free_of rfl) trivial (sq_in 7 rfl rfl (by simp) rfl (fun v w h => h))
        · exact q_loadRat hp (free_of rfl) (gq_some rfl rfl (by simp) rfl (fun v w h => h)) (List.mem_iff_getElem?.2 ⟨5, rfl⟩) (.inl rfl) rfl (sq_out rfl rfl (fun _ _ => rfl)) (fun us w hl h => h)
        · exact q_call1 (F := (Fq.raw2 n3 a3 k3 c3 xs3 m3 r3 l3 q3 ys3).P) hp (free_of rfl) (gq_some rfl rfl (by simp) rfl (fun v w h => h)) (enq_Q_Valid) (sq_in 9 rfl rfl (by simp) rfl (fun v w h => h)) (fun v w h => exQValidAny h (by have := KL.out; omega) (by have := KL.out; omega))
        · exact q_loadRat hp (free_of rfl) (gq_some rfl rfl (by simp) rfl (fun v w h => h)) (List.mem_iff_getElem?.2 ⟨5, rfl⟩) (.inl rfl) rfl (sq_out rfl rfl (fun _ _ => rfl)) (fun us w hl h => h)
        · exact q_call1 (F := (Fq.raw2 n3 a3 k3 c3 xs3 m3 r3 l3 q3 ys3).P) hp (free_of rfl) (gq_some rfl rfl (by simp) rfl (fun v w h => h)) (enq_S_Valid) (sq_in 11 rfl rfl (by simp) rfl (fun v w h => h)) (fun v w h => exSValidAny h (by have := KL.out; omega) (by have := KL.out; omega))
        · exact q_two (F := fun v _ => v = .bool (validQ n3 xs3 m3 ys3)) (G := fun v _ => v = .bool (validQ n3 xs3 m3 ys3)) hp (free_of rfl) (gq_some rfl rfl (by simp) rfl (fun v w h => h)) (sq_in 10 rfl rfl (by simp) rfl (fun v w h => h)) (sq_in 12 rfl rfl (by simp) rfl (fun v w h => h)) (fun ρ w hc h h' => ⟨.bool true, by simp [execOp, go_sem, h, h'], rfl⟩)
        · exact q_two (F := fun v _ => v = .bool true) (G := fun v _ => v = .bool true) hp (free_of rfl) trivial (sq_in 8 rfl rfl (by simp) rfl (fun v w h => h)) (sq_in 13 rfl rfl (by simp) rfl (fun v w h => h)) (fun ρ w hc h h' => ⟨_, by simp [execOp, go_sem, h, h'], rfl⟩)
        · exact q_move hp (free_of rfl) trivial (sq_in 14 rfl rfl (by simp) rfl (fun v w h => h))
        · exact q_move hp (free_of rfl) (gq_some rfl rfl (by simp) rfl (fun v w h => h)) (sq_out rfl rfl (fun _ _ => rfl))
        · exact q_two (F := fun v _ => v = .bool true) (G := fun v _ => v = .bool true) hp (free_of rfl) trivial (sq_in 15 rfl rfl (by simp) rfl (fun v w h => h)) (sq_in 16 rfl rfl (by simp) rfl (fun v w h => h)) (fun ρ w hc h h' => ⟨_, by simp [execOp, go_sem, h, h'], rfl⟩)
        · exact q_assign hp (free_of rfl) trivial (sq_in 17 rfl rfl (by simp) rfl (fun v w h => h))
        intro L vs w24 nb hL hC hn E24
        have e1 : vs 1 = .bool false := hC 1 (by simp)
        have e2 : vs 2 = .bool true := hC 2 (by simp)
        have e3 : vs 3 = .bool true := hC 3 (by simp)
        have e5 : vs 5 = .bool false := hC 5 (by simp)
        have e6 : vs 6 = .bool true := hC 6 (by simp)
        have e7 : vs 7 = .bool true := hC 7 (by simp)
        have e8 : vs 8 = .bool true := hC 8 (by simp)
        have e10 : vs 10 = .bool (validQ n3 xs3 m3 ys3) := hC 10 (by simp)
        have e12 : vs 12 = .bool (validQ n3 xs3 m3 ys3) := hC 12 (by simp)
        have e13 : vs 13 = .bool true := hC 13 (by simp)
        have e14 : vs 14 = .bool true := hC 14 (by simp)
        have e15 : vs 15 = .bool true := hC 15 (by simp)
        have e16 : vs 16 = .bool true := hC 16 (by simp)
        have e17 : vs 17 = .bool true := hC 17 (by simp)
        have e18 : vs 18 = .bool true := hC 18 (by simp)
        have E : Fr w [(b23_7, 4, Fq.pair (-a.num) (-(a.den : Int))), (b20_11, 4, Fq.pair (a.num + a.num) ((a.den : Int) + (a.den : Int))), (b13_10, 16, Fq.rats [(a.num, (a.den : Int)), ((a + b).num, ((a + b).den : Int)), ((a - b).num, ((a - b).den : Int)), ((a * b).num, ((a * b).den : Int))]), (b9_4, 4, Fq.pair a.num (a.den : Int)), (b9_5, 4, Fq.pair b.num (b.den : Int)), (b3, 4, Fq.raw2 n3 a3 k3 c3 xs3 m3 r3 l3 q3 ys3), (b2, 4, Fq.raw2 n2 a2 k2 c2 xs2 m2 r2 l2 q2 ys2), (b1, 4, Fq.raw2 n1 a1 k1 c1 xs1 m1 r1 l1 q1 ys1)] w24 := E24
        rw [lay_all hL]
        simp only [putAll, dstOf, List.length_cons, List.length_nil, Nat.zero_add, Nat.reduceAdd, List.getElem?_toArray, List.getElem?_cons_zero, List.getElem?_cons_succ, Option.bind_some, Act.put, List.setIfInBounds_toArray, List.set_cons_succ, List.set_cons_zero]
        rw [e1, e2, e3, e5, e6, e7, e8, e10, e12, e13, e14, e15, e16, e17, e18]
        generalize vs 0 = u24_0
        generalize vs 4 = u24_4
        generalize vs 9 = u24_9
        generalize vs 11 = u24_11
        clear e1 e2 e3 e5 e6 e7 e8 e10 e12 e13 e14 e15 e16 e17 e18 hC hn E24 hL vs L nb
        clear KL K3 L3
        clear B10 B11 B12 B18 B19 B21 B22 Ba Bb
        go_wp2
        refine bodyPost_ret (v := .bool true) ?_ rfl ⟨rfl, E.below⟩
        simp [results, Try.results5, go_sem]

end Go.Proofs.Ytlehjhlihahjhaa
