/- Mc, Rm, Me, Mg, Mh, Nl, Lf, Mi, Mj. -/
import Derived.Test.YtieobgadihcgeaaDoorCu3
import Derived.Shelf.Spec.TrailingZeros
import Derived.Test.YtieobgadihcgeaaDoorRows
import Derived.ProofKit
import Derived.LaidMore
import Derived.OpenShut
import Derived.Stop.Joined
import Derived.Test.YtieobgadihcgeaaDoorChecked
import Derived.Lib.SmallJoins
/- Walks: package modular: residues, inverses, two congruences. -/
namespace Go.Proofs.YtieobgadihcgeaaDoor
open Go Go.RowKit

theorem enq_M_Inv (args : Array Value) (w : World) : (callFunc 41 args).run Tryd.prog w = .ok (.enter 41 args) w := enter_of Tryd.func41 (by kernel_rfl) rfl args w
theorem enq_M_Crt (args : Array Value) (w : World) : (callFunc 31 args).run Tryd.prog w = .ok (.enter 31 args) w := enter_of Tryd.func31 (by kernel_rfl) rfl args w
theorem enq_M_isOne (args : Array Value) (w : World) : (callFunc 49 args).run Tryd.prog w = .ok (.enter 49 args) w := enter_of Tryd.func49 (by kernel_rfl) rfl args w
theorem enq_M_bit (args : Array Value) (w : World) : (callFunc 71 args).run Tryd.prog w = .ok (.enter 71 args) w := enter_of Tryd.func71 (by kernel_rfl) rfl args w
theorem enq_M_Pow (args : Array Value) (w : World) : (callFunc 46 args).run Tryd.prog w = .ok (.enter 46 args) w := enter_of Tryd.func46 (by kernel_rfl) rfl args w
theorem enq_M_low (args : Array Value) (w : World) : (callFunc 50 args).run Tryd.prog w = .ok (.enter 50 args) w := enter_of Tryd.func50 (by kernel_rfl) rfl args w
theorem enq_M_oddPart (args : Array Value) (w : World) : (callFunc 51 args).run Tryd.prog w = .ok (.enter 51 args) w := enter_of Tryd.func51 (by kernel_rfl) rfl args w
theorem enq_M_jacobi (args : Array Value) (w : World) : (callFunc 53 args).run Tryd.prog w = .ok (.enter 53 args) w := enter_of Tryd.func53 (by kernel_rfl) rfl args w
theorem enq_M_jacobiWords (args : Array Value) (w : World) : (callFunc 76 args).run Tryd.prog w = .ok (.enter 76 args) w := enter_of Tryd.func76 (by kernel_rfl) rfl args w
theorem enq_M_ofTwos (args : Array Value) (w : World) : (callFunc 52 args).run Tryd.prog w = .ok (.enter 52 args) w := enter_of Tryd.func52 (by kernel_rfl) rfl args w
theorem enq_M_turned (args : Array Value) (w : World) : (callFunc 75 args).run Tryd.prog w = .ok (.enter 75 args) w := enter_of Tryd.func75 (by kernel_rfl) rfl args w
theorem enq_M_Kronecker (args : Array Value) (w : World) : (callFunc 20 args).run Tryd.prog w = .ok (.enter 20 args) w := enter_of Tryd.func20 (by kernel_rfl) rfl args w
theorem enq_M_Sqrt (args : Array Value) (w : World) : (callFunc 56 args).run Tryd.prog w = .ok (.enter 56 args) w := enter_of Tryd.func56 (by kernel_rfl) rfl args w
theorem enq_M_someRoot (args : Array Value) (w : World) : (callFunc 77 args).run Tryd.prog w = .ok (.enter 77 args) w := enter_of Tryd.func77 (by kernel_rfl) rfl args w
theorem enq_M_Roots (args : Array Value) (w : World) : (callFunc 28 args).run Tryd.prog w = .ok (.enter 28 args) w := enter_of Tryd.func28 (by kernel_rfl) rfl args w
theorem enq_M_smallPower (args : Array Value) (w : World) : (callFunc 59 args).run Tryd.prog w = .ok (.enter 59 args) w := enter_of Tryd.func59 (by kernel_rfl) rfl args w
theorem enq_V_of (args : Array Value) (w : World) : (callFunc 13 args).run Tryd.prog w = .ok (.enter 13 args) w := enter_of Tryd.func13 (by kernel_rfl) rfl args w
theorem enq_V_inv (args : Array Value) (w : World) : (callFunc 14 args).run Tryd.prog w = .ok (.enter 14 args) w := enter_of Tryd.func14 (by kernel_rfl) rfl args w
theorem enq_V_pow (args : Array Value) (w : World) : (callFunc 17 args).run Tryd.prog w = .ok (.enter 17 args) w := enter_of Tryd.func17 (by kernel_rfl) rfl args w
theorem enq_V_root (args : Array Value) (w : World) : (callFunc 26 args).run Tryd.prog w = .ok (.enter 26 args) w := enter_of Tryd.func26 (by kernel_rfl) rfl args w
theorem enq_V_is (args : Array Value) (w : World) : (callFunc 23 args).run Tryd.prog w = .ok (.enter 23 args) w := enter_of Tryd.func23 (by kernel_rfl) rfl args w
theorem enq_V_examples (args : Array Value) (w : World) : (callFunc 9 args).run Tryd.prog w = .ok (.enter 9 args) w := enter_of Tryd.func9 (by kernel_rfl) rfl args w
theorem enq_U_RootsIn (args : Array Value) (w : World) : (callFunc 29 args).run Tryd.prog w = .ok (.enter 29 args) w := enter_of Tryd.func29 (by kernel_rfl) rfl args w
theorem enq_U_SameList (args : Array Value) (w : World) : (callFunc 30 args).run Tryd.prog w = .ok (.enter 30 args) w := enter_of Tryd.func30 (by kernel_rfl) rfl args w
theorem enq_U_small (args : Array Value) (w : World) : (callFunc 63 args).run Tryd.prog w = .ok (.enter 63 args) w := enter_of Tryd.func63 (by kernel_rfl) rfl args w
theorem enq_Bezout (args : Array Value) (w : World) : (callFunc 64 args).run Tryd.prog w = .ok (.enter 64 args) w := enter_of Tryd.func64 (by kernel_rfl) rfl args w
theorem enq_Low (args : Array Value) (w : World) : (callFunc 58 args).run Tryd.prog w = .ok (.enter 58 args) w := enter_of Tryd.func58 (by kernel_rfl) rfl args w
theorem enq_Abs (args : Array Value) (w : World) : (callFunc 12 args).run Tryd.prog w = .ok (.enter 12 args) w := enter_of Tryd.func12 (by kernel_rfl) rfl args w
theorem enq_Bits (args : Array Value) (w : World) : (callFunc 70 args).run Tryd.prog w = .ok (.enter 70 args) w := enter_of Tryd.func70 (by kernel_rfl) rfl args w
theorem exResidue {w : World} {v : Value} {b : Nat} {a m : Int} (h : Num w v a) (hb : Bq w b 2 (Fq.num m)) (hm : m ≠ 0) (ha : ab a < pw 300) (hn : ab m < pw 300) :
    Calls Tryd.prog 72 #[v, .pointer (some ⟨b, 0, none⟩)] w fun e w' => ∃ v', e = .returned v' ∧ Below w.heap.size w w' ∧ Num w' v' (a % m) := by
  have ho := hb
  have HM := hidd hm
  clear hb hm
  replace ha := hidd ha
  replace hn := hidd hn
  obtain ⟨n0, ao0, k0, c0, rfl⟩ := h.parts
  obtain ⟨w1, b1, hw1, hb1, hs1, E⟩ := fr_start w (F := Fq.num a) (us := [.bool n0, .slice ao0 k0 c0]) 29 rfl (by simp) (tame_int _ _ _ _) h
  obtain ⟨w2, b2, hw2, hb2, hs2, E⟩ := fr_more E hs1 (F := Fq.num 0) (us := [.bool false, .slice none 0 0]) 29 rfl (by simp) (tame_int _ _ _ _) (Num.zero _)
  go_enter Tryd.func72, Tryd.ntmps72
  go_upto_region 1 with (fail)
  rw [← hw1]
  rw [← hw2]
  rw [← hb2]
  rw [← hb1]
  clear hw1 hw2 hb1 hb2 hs2 hs1
  have B3 : Hid (ab ((a / m)) < pw 301) := ab_divB ha.out (by omega)
  have B4 : Hid (ab ((a % m)) < pw 300) := ab_modB HM.out hn.out
  refine region_fr (C := [Fq.num a, Fq.num m, Fq.tup3 (Fq.num (a / m)) (Fq.num (a % m)) (Fq.is (.int .i64 0)), Fq.tup3 (Fq.num (a / m)) (Fq.num (a % m)) (Fq.is (.int .i64 0)), Fq.num (a / m), Fq.num (a % m), Fq.is (.int .i64 0), Fq.any, Fq.any, Fq.any, Fq.any, Fq.is (.int .i64 0)]) (ks := [none, none]) (new := [⟨7, 9, 2, Fq.num 0, Fq.num (a / m), none⟩, ⟨8, 10, 2, Fq.num 0, Fq.num (a % m), none⟩]) E rfl (by kernel_rfl) rfl rfl (fun hp => ⟨?_, ?_, ?_, ?_, ?_, ?_, ?_, ?_, ?_, ?_, ?_, ?_, trivial⟩) ?_
  · exact q_loadInt (off := 0) hp (free_of rfl) trivial (List.mem_iff_getElem?.2 ⟨1, rfl⟩) (.inl rfl) (Nat.le_of_ble_eq_true rfl) (sq_out rfl rfl (fun _ _ => rfl)) (fun us w hl h => ld_num hl h)
  · exact q_loadIntOut hp (free_of rfl) trivial ho rfl (sq_out rfl rfl (fun _ _ => rfl)) (fun v w h => h)
  · exact q_call2 (F := (Fq.num a).P) (G := (Fq.num m).P) hp (free_of rfl) trivial (enq_DivMod) (sq_in 0 rfl rfl (by simp) rfl (fun v w h => h)) (sq_in 1 rfl rfl (by simp) rfl (fun v w h => h)) (fun v v' w h h' => exDMq h h' HM.out B3.out B4.out (by omega) (by omega))
  · exact q_move hp (free_of rfl) trivial (sq_in 2 rfl rfl (by simp) rfl (fun v w h => h))
  · exact q_extract3 hp (free_of rfl) trivial (sq_in 3 rfl rfl (by simp) rfl (fun v w h => h)) (fun v1 v2 v3 w h1 h2 h3 => ⟨_, rfl, h1⟩)
  · exact q_extract3 hp (free_of rfl) trivial (sq_in 3 rfl rfl (by simp) rfl (fun v w h => h)) (fun v1 v2 v3 w h1 h2 h3 => ⟨_, rfl, h2⟩)
  · exact q_extract3 hp (free_of rfl) trivial (sq_in 3 rfl rfl (by simp) rfl (fun v w h => h)) (fun v1 v2 v3 w h1 h2 h3 => ⟨_, rfl, h3⟩)
  · exact q_allocInt hp (List.mem_iff_getElem?.2 ⟨0, rfl⟩) rfl rfl rfl rfl (Nat.ne_of_beq_eq_false rfl) (fun _ _ => trivial) (old_ne rfl) (newk_ne rfl) (fun w => Num.zero w)
  · exact q_allocInt hp (List.mem_iff_getElem?.2 ⟨1, rfl⟩) rfl rfl rfl rfl (Nat.ne_of_beq_eq_false rfl) (fun _ _ => trivial) (old_ne rfl) (newk_ne rfl) (fun w => Num.zero w)
  · exact q_storeNewInt hp (List.mem_iff_getElem?.2 ⟨0, rfl⟩) rfl rfl rfl (own_ptr rfl rfl (by simp) rfl) (sq_in 4 rfl rfl (by simp) rfl (fun v w h => intV_num h)) (fun _ _ => trivial) (old_ne rfl) (newi_ne rfl)
  · exact q_storeNewInt hp (List.mem_iff_getElem?.2 ⟨1, rfl⟩) rfl rfl rfl (own_ptr rfl rfl (by simp) rfl) (sq_in 5 rfl rfl (by simp) rfl (fun v w h => intV_num h)) (fun _ _ => trivial) (old_ne rfl) (newi_ne rfl)
  · exact q_assign hp (free_of rfl) trivial (sq_in 6 rfl rfl (by simp) rfl (fun v w h => h))
  intro L vs w5 nb hL hC hn E5
  have e6 : vs 6 = .int .i64 0 := hC 6 (by simp)
  have e11 : vs 11 = .int .i64 0 := hC 11 (by simp)
  have e7 : vs 7 = .pointer (some ⟨nb 7, 0, none⟩) := hn _ (List.mem_iff_getElem?.2 ⟨0, rfl⟩)
  have e8 : vs 8 = .pointer (some ⟨nb 8, 0, none⟩) := hn _ (List.mem_iff_getElem?.2 ⟨1, rfl⟩)
  have E : Fr w [(nb 7, 2, Fq.num (a / m)), (nb 8, 2, Fq.num (a % m)), (b2, 2, Fq.num 0), (b1, 2, Fq.num a)] w5 := E5
  rw [lay_all hL]
  simp only [putAll, dstOf, List.length_cons, List.length_nil, Nat.zero_add, Nat.reduceAdd, List.getElem?_toArray, List.getElem?_cons_zero, List.getElem?_cons_succ, Option.bind_some, Act.put, List.setIfInBounds_toArray, List.set_cons_succ, List.set_cons_zero]
  rw [e6, e11, e7, e8]
  generalize nb 7 = b5_7 at E ⊢
  generalize nb 8 = b5_8 at E ⊢
  generalize vs 0 = u5_0
  generalize vs 1 = u5_1
  generalize vs 2 = u5_2
  generalize vs 3 = u5_3
  generalize vs 4 = u5_4
  generalize vs 5 = u5_5
  clear e6 e11 e7 e8 hC hn E5 hL vs L nb
  go_upto_region 2 with (fail)
  refine region_fr (C := [Fq.num (a % m), Fq.any]) (ks := [none, none, some (1, Fq.num (a % m)), none]) (new := []) E rfl (by kernel_rfl) rfl rfl (fun hp => ⟨?_, ?_, trivial⟩) ?_
  · exact q_loadInt (off := 0) hp (free_of rfl) trivial (List.mem_iff_getElem?.2 ⟨1, rfl⟩) (.inl rfl) (Nat.le_of_ble_eq_true rfl) (sq_out rfl rfl (fun _ _ => rfl)) (fun us w hl h => ld_num hl h)
  · exact q_storeOldInt hp (List.mem_iff_getElem?.2 ⟨2, rfl⟩) rfl rfl (sq_out rfl rfl (fun _ _ => rfl)) (sq_in 0 rfl rfl (by simp) rfl (fun v w h => intV_num h)) (fun _ _ => trivial) (newik_ne rfl)
  intro L vs w6 nb hL hC hn E6
  have E : Fr w [(b5_7, 2, Fq.num (a / m)), (b5_8, 2, Fq.num (a % m)), (b2, 2, Fq.num (a % m)), (b1, 2, Fq.num a)] w6 := E6
  rw [lay_all hL]
  simp only [putAll, dstOf, List.length_cons, List.length_nil, Nat.zero_add, Nat.reduceAdd, List.getElem?_toArray, List.getElem?_cons_zero, List.getElem?_cons_succ, Option.bind_some, Act.put, List.setIfInBounds_toArray, List.set_cons_succ, List.set_cons_zero]
  generalize vs 0 = u6_0
  clear  hC hn E6 hL vs L nb
  clear HM ho
  obtain ⟨p0, p1, c0, c1, hP⟩ := box_num (E.box 2 rfl)
  clear B3 B4 ha hn
  go_wp2
  refine bodyPost_ret (v := .agg #[p0, p1]) ?_ rfl ⟨_, rfl, E.below, hP⟩
  simp [results, Tryd.results72, go_sem, c0, c1]

theorem exLowQ {w : World} {v : Value} {z : Int} (h : Num w v z) {n : Int} {t : Bool} (e : lowV z = .tuple #[.int .i64 n, .bool t]) : Calls Tryd.prog 58 #[v] w fun e w' => ∃ v', e = .returned v' ∧ Below w.heap.size w w' ∧ (Fq.tup2 (Fq.is (.int .i64 n)) (Fq.is (.bool t))).P v' w' :=
  (LowV h).mono fun _ _ ⟨he, hb⟩ => ⟨_, he, hb, _, _, e, rfl, rfl⟩
theorem lowV_in {z : Int} (h0 : -9223372036854775808 ≤ z) (h1 : z ≤ 9223372036854775807) : lowV z = .tuple #[.int .i64 z, .bool true] := by unfold lowV; rw [if_pos ⟨h0, h1⟩]
theorem lowV_out {z : Int} (h : ¬ (-9223372036854775808 ≤ z ∧ z ≤ 9223372036854775807)) : lowV z = .tuple #[.int .i64 0, .bool false] := by unfold lowV; rw [if_neg h]

set_option maxRecDepth 100000 in
set_option maxHeartbeats 4000000 in
theorem exIsOneM {w : World} {v : Value} {z : Int} (h : Num w v z) :
    Calls Tryd.prog 49 #[v] w fun e w' => ∃ v', e = .returned v' ∧ Below w.heap.size w w' ∧ v' = .bool (decide (z = 1)) := by
  obtain ⟨n0, ao0, k0, c0, rfl⟩ := h.parts
  obtain ⟨w1, b1, hw1, hb1, hs1, E⟩ := fr_start w (F := Fq.num z) (us := [.bool n0, .slice ao0 k0 c0]) 29 rfl (by simp) (tame_int _ _ _ _) h
  go_enter Tryd.func49, Tryd.ntmps49
  go_upto_region 1 with (fail)
  rw [← hw1]
  rw [← hb1]
  clear hw1 hb1 hs1
  by_cases hl : -9223372036854775808 ≤ z ∧ z ≤ 9223372036854775807
  · by_cases hc : z = 1
    · have HL := hidd (lowV_in hl.1 hl.2)
      have T : Hid (z = 1) := hc
      have T2 : Hid (decide (z = 1) = true) := decide_eq_true hc
      clear hl hc
      refine region_fr (C := [Fq.num z, Fq.tup2 (Fq.is (.int .i64 z)) (Fq.is (.bool true)), Fq.tup2 (Fq.is (.int .i64 z)) (Fq.is (.bool true)), Fq.is (.int .i64 z), Fq.is (.bool true), Fq.is (.int .i64 z), Fq.is (.bool true)]) (ks := [none]) (new := []) E rfl (by kernel_rfl) rfl rfl (fun hp => ⟨?_, ?_, ?_, ?_, ?_, ?_, ?_, trivial⟩) ?_
      · exact q_loadInt (off := 0) hp (free_of rfl) trivial (List.mem_iff_getElem?.2 ⟨0, rfl⟩) (.inl rfl) (Nat.le_of_ble_eq_true rfl) (sq_out rfl rfl (fun _ _ => rfl)) (fun us w hl h => ld_num hl h)
      · exact q_call1 (F := (Fq.num z).P) hp (free_of rfl) trivial (enq_Low) (sq_in 0 rfl rfl (by simp) rfl (fun v w h => h)) (fun v w h => exLowQ h HL.out)
      · exact q_move hp (free_of rfl) trivial (sq_in 1 rfl rfl (by simp) rfl (fun v w h => h))
      · exact q_extract2 hp (free_of rfl) trivial (sq_in 2 rfl rfl (by simp) rfl (fun v w h => h)) (fun v1 v2 w h1 h2 => ⟨_, rfl, h1⟩)
      · exact q_extract2 hp (free_of rfl) trivial (sq_in 2 rfl rfl (by simp) rfl (fun v w h => h)) (fun v1 v2 w h1 h2 => ⟨_, rfl, h2⟩)
      · exact q_assign hp (free_of rfl) trivial (sq_in 3 rfl rfl (by simp) rfl (fun v w h => h))
      · exact q_assign hp (free_of rfl) trivial (sq_in 4 rfl rfl (by simp) rfl (fun v w h => h))
      intro L vs w2 nb hL hC hn E2
      have e3 : vs 3 = .int .i64 z := hC 3 (by simp)
      have e4 : vs 4 = .bool true := hC 4 (by simp)
      have e5 : vs 5 = .int .i64 z := hC 5 (by simp)
      have e6 : vs 6 = .bool true := hC 6 (by simp)
      have E : Fr w [(b1, 2, Fq.num z)] w2 := E2
      rw [lay_all hL]
      simp only [putAll, dstOf, List.length_cons, List.length_nil, Nat.zero_add, Nat.reduceAdd, List.getElem?_toArray, List.getElem?_cons_zero, List.getElem?_cons_succ, Option.bind_some, Act.put, List.setIfInBounds_toArray, List.set_cons_succ, List.set_cons_zero]
      rw [e3, e4, e5, e6]
      generalize vs 0 = u2_0
      generalize vs 1 = u2_1
      generalize vs 2 = u2_2
      clear e3 e4 e5 e6 hC hn E2 hL vs L nb
      go_upto_region 2 with (fail)
      refine region_fr (C := [Fq.is (.bool true), Fq.is (.bool true), Fq.is (.int .i64 z), Fq.is (.bool true), Fq.is (.bool true), Fq.is (.bool true)]) (ks := [none]) (new := []) E rfl (by kernel_rfl) rfl rfl (fun hp => ⟨?_, ?_, ?_, ?_, ?_, ?_, trivial⟩) ?_
      · exact q_move hp (free_of rfl) trivial (sq_out rfl rfl (fun _ _ => rfl))
      · exact q_move hp (free_of rfl) trivial (sq_in 0 rfl rfl (by simp) rfl (fun v w h => h))
      · exact q_move hp (free_of rfl) (gq_some rfl rfl (by simp) rfl (fun v w h => h)) (sq_out rfl rfl (fun _ _ => rfl))
      · exact q_one (F := fun v _ => v = .int .i64 z) hp (free_of rfl) (gq_some rfl rfl (by simp) rfl (fun v w h => h)) (sq_in 2 rfl rfl (by simp) rfl (fun v w h => h)) (fun ρ w hc h => ⟨.bool true, by simp [execOp, go_sem, h, hc, T.out], rfl⟩)
      · exact q_two (F := fun v _ => v = .bool true) (G := fun v _ => v = .bool true) hp (free_of rfl) trivial (sq_in 1 rfl rfl (by simp) rfl (fun v w h => h)) (sq_in 3 rfl rfl (by simp) rfl (fun v w h => h)) (fun ρ w hc h h' => ⟨_, by simp [execOp, go_sem, h, h'], rfl⟩)
      · exact q_assign hp (free_of rfl) trivial (sq_in 4 rfl rfl (by simp) rfl (fun v w h => h))
      intro L vs w3 nb hL hC hn E3
      have e0 : vs 0 = .bool true := hC 0 (by simp)
      have e1 : vs 1 = .bool true := hC 1 (by simp)
      have e2 : vs 2 = .int .i64 z := hC 2 (by simp)
      have e3 : vs 3 = .bool true := hC 3 (by simp)
      have e4 : vs 4 = .bool true := hC 4 (by simp)
      have e5 : vs 5 = .bool true := hC 5 (by simp)
      have E : Fr w [(b1, 2, Fq.num z)] w3 := E3
      rw [lay_all hL]
      simp only [putAll, dstOf, List.length_cons, List.length_nil, Nat.zero_add, Nat.reduceAdd, List.getElem?_toArray, List.getElem?_cons_zero, List.getElem?_cons_succ, Option.bind_some, Act.put, List.setIfInBounds_toArray, List.set_cons_succ, List.set_cons_zero]
      rw [e0, e1, e2, e3, e4, e5]
      clear e0 e1 e2 e3 e4 e5 hC hn E3 hL vs L nb
      clear T HL
      go_wp2
      refine bodyPost_ret (v := .bool true) ?_ rfl (by first | exact ⟨_, rfl, E.below, by rw [T2.out]⟩ | exact ⟨_, rfl, E.below⟩ | exact ⟨rfl, E.below⟩)
      simp [results, Tryd.results49, go_sem]
    · have HL := hidd (lowV_in hl.1 hl.2)
      have T : Hid (¬ z = 1) := hc
      have T2 : Hid (decide (z = 1) = false) := decide_eq_false hc
      clear hl hc
      refine region_fr (C := [Fq.num z, Fq.tup2 (Fq.is (.int .i64 z)) (Fq.is (.bool true)), Fq.tup2 (Fq.is (.int .i64 z)) (Fq.is (.bool true)), Fq.is (.int .i64 z), Fq.is (.bool true), Fq.is (.int .i64 z), Fq.is (.bool true)]) (ks := [none]) (new := []) E rfl (by kernel_rfl) rfl rfl (fun hp => ⟨?_, ?_, ?_, ?_, ?_, ?_, ?_, trivial⟩) ?_
      · exact q_loadInt (off := 0) hp (free_of rfl) trivial (List.mem_iff_getElem?.2 ⟨0, rfl⟩) (.inl rfl) (Nat.le_of_ble_eq_true rfl) (sq_out rfl rfl (fun _ _ => rfl)) (fun us w hl h => ld_num hl h)
      · exact q_call1 (F := (Fq.num z).P) hp (free_of rfl) trivial (enq_Low) (sq_in 0 rfl rfl (by simp) rfl (fun v w h => h)) (fun v w h => exLowQ h HL.out)
      · exact q_move hp (free_of rfl) trivial (sq_in 1 rfl rfl (by simp) rfl (fun v w h => h))
      · exact q_extract2 hp (free_of rfl) trivial (sq_in 2 rfl rfl (by simp) rfl (fun v w h => h)) (fun v1 v2 w h1 h2 => ⟨_, rfl, h1⟩)
      · exact q_extract2 hp (free_of rfl) trivial (sq_in 2 rfl rfl (by simp) rfl (fun v w h => h)) (fun v1 v2 w h1 h2 => ⟨_, rfl, h2⟩)
      · exact q_assign hp (free_of rfl) trivial (sq_in 3 rfl rfl (by simp) rfl (fun v w h => h))
      · exact q_assign hp (free_of rfl) trivial (sq_in 4 rfl rfl (by simp) rfl (fun v w h => h))
      intro L vs w4 nb hL hC hn E4
      have e3 : vs 3 = .int .i64 z := hC 3 (by simp)
      have e4 : vs 4 = .bool true := hC 4 (by simp)
      have e5 : vs 5 = .int .i64 z := hC 5 (by simp)
      have e6 : vs 6 = .bool true := hC 6 (by simp)
      have E : Fr w [(b1, 2, Fq.num z)] w4 := E4
      rw [lay_all hL]
      simp only [putAll, dstOf, List.length_cons, List.length_nil, Nat.zero_add, Nat.reduceAdd, List.getElem?_toArray, List.getElem?_cons_zero, List.getElem?_cons_succ, Option.bind_some, Act.put, List.setIfInBounds_toArray, List.set_cons_succ, List.set_cons_zero]
      rw [e3, e4, e5, e6]
      generalize vs 0 = u4_0
      generalize vs 1 = u4_1
      generalize vs 2 = u4_2
      clear e3 e4 e5 e6 hC hn E4 hL vs L nb
      go_upto_region 2 with (fail)
      refine region_fr (C := [Fq.is (.bool true), Fq.is (.bool true), Fq.is (.int .i64 z), Fq.is (.bool false), Fq.is (.bool false), Fq.is (.bool false)]) (ks := [none]) (new := []) E rfl (by kernel_rfl) rfl rfl (fun hp => ⟨?_, ?_, ?_, ?_, ?_, ?_, trivial⟩) ?_
      · exact q_move hp (free_of rfl) trivial (sq_out rfl rfl (fun _ _ => rfl))
      · exact q_move hp (free_of rfl) trivial (sq_in 0 rfl rfl (by simp) rfl (fun v w h => h))
      · exact q_move hp (free_of rfl) (gq_some rfl rfl (by simp) rfl (fun v w h => h)) (sq_out rfl rfl (fun _ _ => rfl))
      · exact q_one (F := fun v _ => v = .int .i64 z) hp (free_of rfl) (gq_some rfl rfl (by simp) rfl (fun v w h => h)) (sq_in 2 rfl rfl (by simp) rfl (fun v w h => h)) (fun ρ w hc h => ⟨.bool false, by simp [execOp, go_sem, h, hc, T.out], rfl⟩)
      · exact q_two (F := fun v _ => v = .bool true) (G := fun v _ => v = .bool false) hp (free_of rfl) trivial (sq_in 1 rfl rfl (by simp) rfl (fun v w h => h)) (sq_in 3 rfl rfl (by simp) rfl (fun v w h => h)) (fun ρ w hc h h' => ⟨_, by simp [execOp, go_sem, h, h'], rfl⟩)
      · exact q_assign hp (free_of rfl) trivial (sq_in 4 rfl rfl (by simp) rfl (fun v w h => h))
      intro L vs w5 nb hL hC hn E5
      have e0 : vs 0 = .bool true := hC 0 (by simp)
      have e1 : vs 1 = .bool true := hC 1 (by simp)
      have e2 : vs 2 = .int .i64 z := hC 2 (by simp)
      have e3 : vs 3 = .bool false := hC 3 (by simp)
      have e4 : vs 4 = .bool false := hC 4 (by simp)
      have e5 : vs 5 = .bool false := hC 5 (by simp)
      have E : Fr w [(b1, 2, Fq.num z)] w5 := E5
      rw [lay_all hL]
      simp only [putAll, dstOf, List.length_cons, List.length_nil, Nat.zero_add, Nat.reduceAdd, List.getElem?_toArray, List.getElem?_cons_zero, List.getElem?_cons_succ, Option.bind_some, Act.put, List.setIfInBounds_toArray, List.set_cons_succ, List.set_cons_zero]
      rw [e0, e1, e2, e3, e4, e5]
      clear e0 e1 e2 e3 e4 e5 hC hn E5 hL vs L nb
      clear T HL
      go_wp2
      refine bodyPost_ret (v := .bool false) ?_ rfl (by first | exact ⟨_, rfl, E.below, by rw [T2.out]⟩ | exact ⟨_, rfl, E.below⟩ | exact ⟨rfl, E.below⟩)
      simp [results, Tryd.results49, go_sem]
  · have HL := hidd (lowV_out hl)
    have T2 : Hid (decide (z = 1) = false) := decide_eq_false (by omega)
    clear hl
    refine region_fr (C := [Fq.num z, Fq.tup2 (Fq.is (.int .i64 0)) (Fq.is (.bool false)), Fq.tup2 (Fq.is (.int .i64 0)) (Fq.is (.bool false)), Fq.is (.int .i64 0), Fq.is (.bool false), Fq.is (.int .i64 0), Fq.is (.bool false)]) (ks := [none]) (new := []) E rfl (by kernel_rfl) rfl rfl (fun hp => ⟨?_, ?_, ?_, ?_, ?_, ?_, ?_, trivial⟩) ?_
    · exact q_loadInt (off := 0) hp (free_of rfl) trivial (List.mem_iff_getElem?.2 ⟨0, rfl⟩) (.inl rfl) (Nat.le_of_ble_eq_true rfl) (sq_out rfl rfl (fun _ _ => rfl)) (fun us w hl h => ld_num hl h)
    · exact q_call1 (F := (Fq.num z).P) hp (free_of rfl) trivial (enq_Low) (sq_in 0 rfl rfl (by simp) rfl (fun v w h => h)) (fun v w h => exLowQ h HL.out)
    · exact q_move hp (free_of rfl) trivial (sq_in 1 rfl rfl (by simp) rfl (fun v w h => h))
    · exact q_extract2 hp (free_of rfl) trivial (sq_in 2 rfl rfl (by simp) rfl (fun v w h => h)) (fun v1 v2 w h1 h2 => ⟨_, rfl, h1⟩)
    · exact q_extract2 hp (free_of rfl) trivial (sq_in 2 rfl rfl (by simp) rfl (fun v w h => h)) (fun v1 v2 w h1 h2 => ⟨_, rfl, h2⟩)
    · exact q_assign hp (free_of rfl) trivial (sq_in 3 rfl rfl (by simp) rfl (fun v w h => h))
    · exact q_assign hp (free_of rfl) trivial (sq_in 4 rfl rfl (by simp) rfl (fun v w h => h))
    intro L vs w6 nb hL hC hn E6
    have e3 : vs 3 = .int .i64 0 := hC 3 (by simp)
    have e4 : vs 4 = .bool false := hC 4 (by simp)
    have e5 : vs 5 = .int .i64 0 := hC 5 (by simp)
    have e6 : vs 6 = .bool false := hC 6 (by simp)
    have E : Fr w [(b1, 2, Fq.num z)] w6 := E6
    rw [lay_all hL]
    simp only [putAll, dstOf, List.length_cons, List.length_nil, Nat.zero_add, Nat.reduceAdd, List.getElem?_toArray, List.getElem?_cons_zero, List.getElem?_cons_succ, Option.bind_some, Act.put, List.setIfInBounds_toArray, List.set_cons_succ, List.set_cons_zero]
    rw [e3, e4, e5, e6]
    generalize vs 0 = u6_0
    generalize vs 1 = u6_1
    generalize vs 2 = u6_2
    clear e3 e4 e5 e6 hC hn E6 hL vs L nb
    go_upto_region 2 with (fail)
    refine region_fr (C := [Fq.is (.bool false), Fq.is (.bool false), Fq.is (undef), Fq.is (undef), Fq.is (.bool false), Fq.is (.bool false)]) (ks := [none]) (new := []) E rfl (by kernel_rfl) rfl rfl (fun hp => ⟨?_, ?_, ?_, ?_, ?_, ?_, trivial⟩) ?_
    · exact q_move hp (free_of rfl) trivial (sq_out rfl rfl (fun _ _ => rfl))
    · exact q_move hp (free_of rfl) trivial (sq_in 0 rfl rfl (by simp) rfl (fun v w h => h))
    · exact q_skip hp (free_of rfl) rfl (gq_some rfl rfl (by simp) rfl (fun v w h => h)) (fun _ => rfl)
    · exact q_skip hp (free_of rfl) rfl (gq_some rfl rfl (by simp) rfl (fun v w h => h)) (fun _ => rfl)
    · exact q_two (F := fun v _ => v = .bool false) (G := fun v _ => v = .bool false) hp (free_of rfl) trivial (sq_in 1 rfl rfl (by simp) rfl (fun v w h => h)) (sq_const (fun _ => rfl)) (fun ρ w hc h h' => ⟨_, by simp [execOp, go_sem, h, h'], rfl⟩)
    · exact q_assign hp (free_of rfl) trivial (sq_in 4 rfl rfl (by simp) rfl (fun v w h => h))
    intro L vs w7 nb hL hC hn E7
    have e0 : vs 0 = .bool false := hC 0 (by simp)
    have e1 : vs 1 = .bool false := hC 1 (by simp)
    have e2 : vs 2 = undef := hC 2 (by simp)
    have e3 : vs 3 = undef := hC 3 (by simp)
    have e4 : vs 4 = .bool false := hC 4 (by simp)
    have e5 : vs 5 = .bool false := hC 5 (by simp)
    have E : Fr w [(b1, 2, Fq.num z)] w7 := E7
    rw [lay_all hL]
    simp only [putAll, dstOf, List.length_cons, List.length_nil, Nat.zero_add, Nat.reduceAdd, List.getElem?_toArray, List.getElem?_cons_zero, List.getElem?_cons_succ, Option.bind_some, Act.put, List.setIfInBounds_toArray, List.set_cons_succ, List.set_cons_zero]
    rw [e0, e1, e2, e3, e4, e5]
    clear e0 e1 e2 e3 e4 e5 hC hn E7 hL vs L nb
    clear HL
    go_wp2
    refine bodyPost_ret (v := .bool false) ?_ rfl (by first | exact ⟨_, rfl, E.below, by rw [T2.out]⟩ | exact ⟨_, rfl, E.below⟩ | exact ⟨rfl, E.below⟩)
    simp [results, Tryd.results49, go_sem]

theorem exIsOneMB {w : World} {v : Value} {z : Int} {t : Bool} (h : Num w v z) (ht : decide (z = 1) = t) : Calls Tryd.prog 49 #[v] w fun e w' => ∃ v', e = .returned v' ∧ Below w.heap.size w w' ∧ v' = .bool t := by
  have := exIsOneM h
  rw [ht] at this
  exact this

theorem cmpI_le0 {x : Int} : cmpI x 0 ≤ 0 ↔ x ≤ 0 := by
  constructor
  · intro h
    rcases Int.lt_or_le 0 x with h2 | h2
    · have := cmpIqgt.2 h2; omega
    · exact h2
  · intro h
    rcases Int.lt_or_le 0 (cmpI x 0) with h2 | h2
    · have := cmpIqgt.1 h2; omega
    · exact h2

theorem exBezout {w : World} {v v' : Value} {a m : Int} (h : Num w v a) (h' : Num w v' m) (ha : ab a < pw 300) (hn : ab m < pw 300) (hm : 0 < m) :
    Calls Tryd.prog 64 #[v, v'] w fun e w' => ∃ v', e = .returned v' ∧ Below w.heap.size w w' ∧ (Fq.tup3 (Fq.num (Int.gcd a m : Int)) (Fq.num (bezU a m)) (Fq.num (bezV a m))).P v' w' := by
  refine (BezoutV h h' ha hn (by omega)).mono fun e w' hh => ?_
  obtain ⟨hb, v1, v2, v3, g, u, x, rfl, h1, h2, h3, rfl, ⟨h4, _⟩ | ⟨_, h5, h6, h7⟩⟩ := hh
  · omega
  · rw [ab_of (by omega)] at h6
    obtain ⟨rfl, rfl⟩ := bez_uniq hm h5 h6 h7
    exact ⟨_, rfl, hb, _, _, _, rfl, h1, h2, h3⟩
theorem bezU_ab {a m : Int} {k : Nat} (hm : 0 < m) (h : ab m < pw k) : ab (bezU a m) < pw k := by
  have h1 := (bez_spec (a := a) hm).1
  have h2 := bez_lt (a := a) hm
  unfold ab at *
  omega

set_option maxRecDepth 100000 in
set_option maxHeartbeats 4000000 in
theorem exInvP {w : World} {v v' : Value} {a m : Int} (h : Num w v a) (h' : Num w v' m) (ha : ab a < pw 300) (hm : ab m < pw 300) (h0 : 0 < m) (hg : Int.gcd a m = 1) :
    Calls Tryd.prog 41 #[v, v'] w fun e w' => ∃ v', e = .returned v' ∧ Below w.heap.size w w' ∧ (Fq.tup2 (Fq.num (bezU a m)) (Fq.is (.int .i64 0))).P v' w' := by
  replace ha := hidd ha
  replace hm := hidd hm
  obtain ⟨n0, ao0, k0, c0, rfl⟩ := h.parts
  obtain ⟨n1, ao1, k1, c1, rfl⟩ := h'.parts
  obtain ⟨w1, b1, hw1, hb1, hs1, E⟩ := fr_start w (F := Fq.num a) (us := [.bool n0, .slice ao0 k0 c0]) 29 rfl (by simp) (tame_int _ _ _ _) h
  obtain ⟨w2, b2, hw2, hb2, hs2, E⟩ := fr_more E hs1 (F := Fq.num m) (us := [.bool n1, .slice ao1 k1 c1]) 29 rfl (by simp) (tame_int _ _ _ _) (h'.mono E.below)
  obtain ⟨w3, b3, hw3, hb3, hs3, E⟩ := fr_more E hs2 (F := Fq.num 0) (us := [.bool false, .slice none 0 0]) 29 rfl (by simp) (tame_int _ _ _ _) (Num.zero _)
  go_enter Tryd.func41, Tryd.ntmps41
  go_upto_region 1 with (fail)
  rw [← hw1]
  rw [← hw2]
  rw [← hw3]
  rw [← hb3]
  rw [← hb2]
  rw [← hb1]
  clear hw1 hw2 hw3 hb1 hb2 hb3 hs3 hs1 hs2
  have T1 : Hid (¬ cmpI m 0 ≤ 0) := fun e => by have := cmpI_le0.1 e; omega
  have HP := hidd h0
  have T2 : Hid (decide ((Int.gcd a m : Int) = 1) = true) := decide_eq_true (by omega)
  clear h0 hg
  refine region_fr (C := [Fq.num m, Fq.is (.int .i64 (cmpI m 0)), Fq.is (.bool false)]) (ks := [none, none, none]) (new := []) E rfl (by kernel_rfl) rfl rfl (fun hp => ⟨?_, ?_, ?_, trivial⟩) ?_
  · exact q_loadInt (off := 0) hp (free_of rfl) trivial (List.mem_iff_getElem?.2 ⟨1, rfl⟩) (.inl rfl) (Nat.le_of_ble_eq_true rfl) (sq_out rfl rfl (fun _ _ => rfl)) (fun us w hl h => ld_num hl h)
  · exact q_call1 (F := (Fq.num m).P) hp (free_of rfl) trivial (enq_Sign) (sq_in 0 rfl rfl (by simp) rfl (fun v w h => h)) (fun v w h => exSign h)
  · exact q_one (F := fun v _ => v = .int .i64 (cmpI m 0)) hp (free_of rfl) trivial (sq_in 1 rfl rfl (by simp) rfl (fun v w h => h)) (fun ρ w hc h => ⟨.bool false, by simp [execOp, go_sem, h, hc, T1.out], rfl⟩)
  intro L vs w4 nb hL hC hn E4
  have e1 : vs 1 = .int .i64 (cmpI m 0) := hC 1 (by simp)
  have e2 : vs 2 = .bool false := hC 2 (by simp)
  have E : Fr w [(b3, 2, Fq.num 0), (b2, 2, Fq.num m), (b1, 2, Fq.num a)] w4 := E4
  rw [lay_all hL]
  simp only [putAll, dstOf, List.length_cons, List.length_nil, Nat.zero_add, Nat.reduceAdd, List.getElem?_toArray, List.getElem?_cons_zero, List.getElem?_cons_succ, Option.bind_some, Act.put, List.setIfInBounds_toArray, List.set_cons_succ, List.set_cons_zero]
  rw [e1, e2]
  generalize vs 0 = u4_0
  clear e1 e2 hC hn E4 hL vs L nb
  clear T1
  go_upto_region 3 with (fail)
  have B5 : Hid (ab ((Int.gcd a m : Int)) < pw 300) := ab_gcdB ha.out hm.out (by omega) (by omega)
  have B6 : Hid (ab (bezU a m) < pw 300) := bezU_ab HP.out hm.out
  refine region_fr (C := [Fq.num a, Fq.num m, Fq.tup3 (Fq.num (Int.gcd a m : Int)) (Fq.num (bezU a m)) (Fq.num (bezV a m)), Fq.tup3 (Fq.num (Int.gcd a m : Int)) (Fq.num (bezU a m)) (Fq.num (bezV a m)), Fq.num (Int.gcd a m : Int), Fq.num (bezU a m), Fq.num (bezV a m), Fq.any, Fq.any, Fq.any, Fq.any, Fq.any, Fq.any]) (ks := [none, none, none]) (new := [⟨7, 10, 2, Fq.num 0, Fq.num (Int.gcd a m : Int), none⟩, ⟨8, 11, 2, Fq.num 0, Fq.num (bezU a m), none⟩, ⟨9, 12, 2, Fq.num 0, Fq.num (bezV a m), none⟩]) E rfl (by kernel_rfl) rfl rfl (fun hp => ⟨?_, ?_, ?_, ?_, ?_, ?_, ?_, ?_, ?_, ?_, ?_, ?_, ?_, trivial⟩) ?_
  · exact q_loadInt (off := 0) hp (free_of rfl) trivial (List.mem_iff_getElem?.2 ⟨2, rfl⟩) (.inl rfl) (Nat.le_of_ble_eq_true rfl) (sq_out rfl rfl (fun _ _ => rfl)) (fun us w hl h => ld_num hl h)
  · exact q_loadInt (off := 0) hp (free_of rfl) trivial (List.mem_iff_getElem?.2 ⟨1, rfl⟩) (.inl rfl) (Nat.le_of_ble_eq_true rfl) (sq_out rfl rfl (fun _ _ => rfl)) (fun us w hl h => ld_num hl h)
  · exact q_call2 (F := (Fq.num a).P) (G := (Fq.num m).P) hp (free_of rfl) trivial (enq_Bezout) (sq_in 0 rfl rfl (by simp) rfl (fun v w h => h)) (sq_in 1 rfl rfl (by simp) rfl (fun v w h => h)) (fun v v' w h h' => exBezout h h' (Int.lt_of_lt_of_le ha.out (pw_le (by omega))) (Int.lt_of_lt_of_le hm.out (pw_le (by omega))) HP.out)
  · exact q_move hp (free_of rfl) trivial (sq_in 2 rfl rfl (by simp) rfl (fun v w h => h))
  · exact q_extract3 hp (free_of rfl) trivial (sq_in 3 rfl rfl (by simp) rfl (fun v w h => h)) (fun v1 v2 v3 w h1 h2 h3 => ⟨_, rfl, h1⟩)
  · exact q_extract3 hp (free_of rfl) trivial (sq_in 3 rfl rfl (by simp) rfl (fun v w h => h)) (fun v1 v2 v3 w h1 h2 h3 => ⟨_, rfl, h2⟩)
  · exact q_extract3 hp (free_of rfl) trivial (sq_in 3 rfl rfl (by simp) rfl (fun v w h => h)) (fun v1 v2 v3 w h1 h2 h3 => ⟨_, rfl, h3⟩)
  · exact q_allocInt hp (List.mem_iff_getElem?.2 ⟨0, rfl⟩) rfl rfl rfl rfl (Nat.ne_of_beq_eq_false rfl) (fun _ _ => trivial) (old_ne rfl) (newk_ne rfl) (fun w => Num.zero w)
  · exact q_allocInt hp (List.mem_iff_getElem?.2 ⟨1, rfl⟩) rfl rfl rfl rfl (Nat.ne_of_beq_eq_false rfl) (fun _ _ => trivial) (old_ne rfl) (newk_ne rfl) (fun w => Num.zero w)
  · exact q_allocInt hp (List.mem_iff_getElem?.2 ⟨2, rfl⟩) rfl rfl rfl rfl (Nat.ne_of_beq_eq_false rfl) (fun _ _ => trivial) (old_ne rfl) (newk_ne rfl) (fun w => Num.zero w)
  · exact q_storeNewInt hp (List.mem_iff_getElem?.2 ⟨0, rfl⟩) rfl rfl rfl (own_ptr rfl rfl (by simp) rfl) (sq_in 4 rfl rfl (by simp) rfl (fun v w h => intV_num h)) (fun _ _ => trivial) (old_ne rfl) (newi_ne rfl)
  · exact q_storeNewInt hp (List.mem_iff_getElem?.2 ⟨1, rfl⟩) rfl rfl rfl (own_ptr rfl rfl (by simp) rfl) (sq_in 5 rfl rfl (by simp) rfl (fun v w h => intV_num h)) (fun _ _ => trivial) (old_ne rfl) (newi_ne rfl)
  · exact q_storeNewInt hp (List.mem_iff_getElem?.2 ⟨2, rfl⟩) rfl rfl rfl (own_ptr rfl rfl (by simp) rfl) (sq_in 6 rfl rfl (by simp) rfl (fun v w h => intV_num h)) (fun _ _ => trivial) (old_ne rfl) (newi_ne rfl)
  intro L vs w7 nb hL hC hn E7
  have e7 : vs 7 = .pointer (some ⟨nb 7, 0, none⟩) := hn _ (List.mem_iff_getElem?.2 ⟨0, rfl⟩)
  have e8 : vs 8 = .pointer (some ⟨nb 8, 0, none⟩) := hn _ (List.mem_iff_getElem?.2 ⟨1, rfl⟩)
  have e9 : vs 9 = .pointer (some ⟨nb 9, 0, none⟩) := hn _ (List.mem_iff_getElem?.2 ⟨2, rfl⟩)
  have E : Fr w [(nb 7, 2, Fq.num (Int.gcd a m : Int)), (nb 8, 2, Fq.num (bezU a m)), (nb 9, 2, Fq.num (bezV a m)), (b3, 2, Fq.num 0), (b2, 2, Fq.num m), (b1, 2, Fq.num a)] w7 := E7
  rw [lay_all hL]
  simp only [putAll, dstOf, List.length_cons, List.length_nil, Nat.zero_add, Nat.reduceAdd, List.getElem?_toArray, List.getElem?_cons_zero, List.getElem?_cons_succ, Option.bind_some, Act.put, List.setIfInBounds_toArray, List.set_cons_succ, List.set_cons_zero]
  rw [e7, e8, e9]
  generalize nb 7 = b7_7 at E ⊢
  generalize nb 8 = b7_8 at E ⊢
  generalize nb 9 = b7_9 at E ⊢
  generalize vs 0 = u7_0
  generalize vs 1 = u7_1
  generalize vs 2 = u7_2
  generalize vs 3 = u7_3
  generalize vs 4 = u7_4
  generalize vs 5 = u7_5
  generalize vs 6 = u7_6
  clear e7 e8 e9 hC hn E7 hL vs L nb
  go_upto_region 4 with (fail)
  refine region_fr (C := [Fq.num (Int.gcd a m : Int), Fq.is (.bool true), Fq.is (.bool false)]) (ks := [none, none, none, none, none, none]) (new := []) E rfl (by kernel_rfl) rfl rfl (fun hp => ⟨?_, ?_, ?_, trivial⟩) ?_
  · exact q_loadInt (off := 0) hp (free_of rfl) trivial (List.mem_iff_getElem?.2 ⟨0, rfl⟩) (.inl rfl) (Nat.le_of_ble_eq_true rfl) (sq_out rfl rfl (fun _ _ => rfl)) (fun us w hl h => ld_num hl h)
  · exact q_call1 (F := (Fq.num (Int.gcd a m : Int)).P) hp (free_of rfl) trivial (enq_M_isOne) (sq_in 0 rfl rfl (by simp) rfl (fun v w h => h)) (fun v w h => exIsOneMB h T2.out)
  · exact q_one (F := fun v _ => v = .bool true) hp (free_of rfl) trivial (sq_in 1 rfl rfl (by simp) rfl (fun v w h => h)) (fun ρ w _ h => ⟨.bool false, by simp [execOp, go_sem, h], rfl⟩)
  intro L vs w8 nb hL hC hn E8
  have e1 : vs 1 = .bool true := hC 1 (by simp)
  have e2 : vs 2 = .bool false := hC 2 (by simp)
  have E : Fr w [(b7_7, 2, Fq.num (Int.gcd a m : Int)), (b7_8, 2, Fq.num (bezU a m)), (b7_9, 2, Fq.num (bezV a m)), (b3, 2, Fq.num 0), (b2, 2, Fq.num m), (b1, 2, Fq.num a)] w8 := E8
  rw [lay_all hL]
  simp only [putAll, dstOf, List.length_cons, List.length_nil, Nat.zero_add, Nat.reduceAdd, List.getElem?_toArray, List.getElem?_cons_zero, List.getElem?_cons_succ, Option.bind_some, Act.put, List.setIfInBounds_toArray, List.set_cons_succ, List.set_cons_zero]
  rw [e1, e2]
  generalize vs 0 = u8_0
  clear e1 e2 hC hn E8 hL vs L nb
  clear T2
  go_upto_region 6 with (fail)
  refine region_fr (C := [Fq.num (bezU a m), Fq.any, Fq.is (.int .i64 0)]) (ks := [none, none, none, some (1, Fq.num (bezU a m)), none, none]) (new := []) E rfl (by kernel_rfl) rfl rfl (fun hp => ⟨?_, ?_, ?_, trivial⟩) ?_
  · exact q_loadInt (off := 0) hp (free_of rfl) trivial (List.mem_iff_getElem?.2 ⟨1, rfl⟩) (.inl rfl) (Nat.le_of_ble_eq_true rfl) (sq_out rfl rfl (fun _ _ => rfl)) (fun us w hl h => ld_num hl h)
  · exact q_storeOldInt hp (List.mem_iff_getElem?.2 ⟨3, rfl⟩) rfl rfl (sq_out rfl rfl (fun _ _ => rfl)) (sq_in 0 rfl rfl (by simp) rfl (fun v w h => intV_num h)) (fun _ _ => trivial) (newik_ne rfl)
  · exact q_assign hp (free_of rfl) trivial (sq_const (fun _ => rfl))
  intro L vs w9 nb hL hC hn E9
  have e2 : vs 2 = .int .i64 0 := hC 2 (by simp)
  have E : Fr w [(b7_7, 2, Fq.num (Int.gcd a m : Int)), (b7_8, 2, Fq.num (bezU a m)), (b7_9, 2, Fq.num (bezV a m)), (b3, 2, Fq.num (bezU a m)), (b2, 2, Fq.num m), (b1, 2, Fq.num a)] w9 := E9
  rw [lay_all hL]
  simp only [putAll, dstOf, List.length_cons, List.length_nil, Nat.zero_add, Nat.reduceAdd, List.getElem?_toArray, List.getElem?_cons_zero, List.getElem?_cons_succ, Option.bind_some, Act.put, List.setIfInBounds_toArray, List.set_cons_succ, List.set_cons_zero]
  rw [e2]
  generalize vs 0 = u9_0
  clear e2 hC hn E9 hL vs L nb
  clear HP
  obtain ⟨p0, p1, c0, c1, hP⟩ := box_num (E.box 3 rfl)
  clear B5 B6 ha hm
  go_wp2
  refine bodyPost_ret (v := .tuple #[.agg #[p0, p1], .int .i64 0]) ?_ rfl ⟨_, rfl, E.below, ⟨_, _, rfl, hP, rfl⟩⟩
  simp [results, Tryd.results41, go_sem, c0, c1]

set_option maxRecDepth 100000 in
set_option maxHeartbeats 4000000 in
theorem exInvN {w : World} {v v' : Value} {a m : Int} (h : Num w v a) (h' : Num w v' m) (ha : ab a < pw 300) (hm : ab m < pw 300) (h0 : 0 < m) (hg : Int.gcd a m ≠ 1) :
    Calls Tryd.prog 41 #[v, v'] w fun e w' => ∃ v', e = .returned v' ∧ Below w.heap.size w w' ∧ (Fq.tup2 (Fq.num 0) (Fq.is (.int .i64 4))).P v' w' := by
  replace ha := hidd ha
  replace hm := hidd hm
  obtain ⟨n0, ao0, k0, c0, rfl⟩ := h.parts
  obtain ⟨n1, ao1, k1, c1, rfl⟩ := h'.parts
  obtain ⟨w1, b1, hw1, hb1, hs1, E⟩ := fr_start w (F := Fq.num a) (us := [.bool n0, .slice ao0 k0 c0]) 29 rfl (by simp) (tame_int _ _ _ _) h
  obtain ⟨w2, b2, hw2, hb2, hs2, E⟩ := fr_more E hs1 (F := Fq.num m) (us := [.bool n1, .slice ao1 k1 c1]) 29 rfl (by simp) (tame_int _ _ _ _) (h'.mono E.below)
  obtain ⟨w3, b3, hw3, hb3, hs3, E⟩ := fr_more E hs2 (F := Fq.num 0) (us := [.bool false, .slice none 0 0]) 29 rfl (by simp) (tame_int _ _ _ _) (Num.zero _)
  go_enter Tryd.func41, Tryd.ntmps41
  go_upto_region 1 with (fail)
  rw [← hw1]
  rw [← hw2]
  rw [← hw3]
  rw [← hb3]
  rw [← hb2]
  rw [← hb1]
  clear hw1 hw2 hw3 hb1 hb2 hb3 hs3 hs1 hs2
  have T1 : Hid (¬ cmpI m 0 ≤ 0) := fun e => by have := cmpI_le0.1 e; omega
  have HP := hidd h0
  have T2 : Hid (decide ((Int.gcd a m : Int) = 1) = false) := decide_eq_false (by omega)
  clear h0 hg
  refine region_fr (C := [Fq.num m, Fq.is (.int .i64 (cmpI m 0)), Fq.is (.bool false)]) (ks := [none, none, none]) (new := []) E rfl (by kernel_rfl) rfl rfl (fun hp => ⟨?_, ?_, ?_, trivial⟩) ?_
  · exact q_loadInt (off := 0) hp (free_of rfl) trivial (List.mem_iff_getElem?.2 ⟨1, rfl⟩) (.inl rfl) (Nat.le_of_ble_eq_true rfl) (sq_out rfl rfl (fun _ _ => rfl)) (fun us w hl h => ld_num hl h)
  · exact q_call1 (F := (Fq.num m).P) hp (free_of rfl) trivial (enq_Sign) (sq_in 0 rfl rfl (by simp) rfl (fun v w h => h)) (fun v w h => exSign h)
  · exact q_one (F := fun v _ => v = .int .i64 (cmpI m 0)) hp (free_of rfl) trivial (sq_in 1 rfl rfl (by simp) rfl (fun v w h => h)) (fun ρ w hc h => ⟨.bool false, by simp [execOp, go_sem, h, hc, T1.out], rfl⟩)
  intro L vs w4 nb hL hC hn E4
  have e1 : vs 1 = .int .i64 (cmpI m 0) := hC 1 (by simp)
  have e2 : vs 2 = .bool false := hC 2 (by simp)
  have E : Fr w [(b3, 2, Fq.num 0), (b2, 2, Fq.num m), (b1, 2, Fq.num a)] w4 := E4
  rw [lay_all hL]
  simp only [putAll, dstOf, List.length_cons, List.length_nil, Nat.zero_add, Nat.reduceAdd, List.getElem?_toArray, List.getElem?_cons_zero, List.getElem?_cons_succ, Option.bind_some, Act.put, List.setIfInBounds_toArray, List.set_cons_succ, List.set_cons_zero]
  rw [e1, e2]
  generalize vs 0 = u4_0
  clear e1 e2 hC hn E4 hL vs L nb
  clear T1
  go_upto_region 3 with (fail)
  have B5 : Hid (ab ((Int.gcd a m : Int)) < pw 300) := ab_gcdB ha.out hm.out (by omega) (by omega)
  have B6 : Hid (ab (bezU a m) < pw 300) := bezU_ab HP.out hm.out
  refine region_fr (C := [Fq.num a, Fq.num m, Fq.tup3 (Fq.num (Int.gcd a m : Int)) (Fq.num (bezU a m)) (Fq.num (bezV a m)), Fq.tup3 (Fq.num (Int.gcd a m : Int)) (Fq.num (bezU a m)) (Fq.num (bezV a m)), Fq.num (Int.gcd a m : Int), Fq.num (bezU a m), Fq.num (bezV a m), Fq.any, Fq.any, Fq.any, Fq.any, Fq.any, Fq.any]) (ks := [none, none, none]) (new := [⟨7, 10, 2, Fq.num 0, Fq.num (Int.gcd a m : Int), none⟩, ⟨8, 11, 2, Fq.num 0, Fq.num (bezU a m), none⟩, ⟨9, 12, 2, Fq.num 0, Fq.num (bezV a m), none⟩]) E rfl (by kernel_rfl) rfl rfl (fun hp => ⟨?_, ?_, ?_, ?_, ?_, ?_, ?_, ?_, ?_, ?_, ?_, ?_, ?_, trivial⟩) ?_
  · exact q_loadInt (off := 0) hp (free_of rfl) trivial (List.mem_iff_getElem?.2 ⟨2, rfl⟩) (.inl rfl) (Nat.le_of_ble_eq_true rfl) (sq_out rfl rfl (fun _ _ => rfl)) (fun us w hl h => ld_num hl h)
  · exact q_loadInt (off := 0) hp (free_of rfl) trivial (List.mem_iff_getElem?.2 ⟨1, rfl⟩) (.inl rfl) (Nat.le_of_ble_eq_true rfl) (sq_out rfl rfl (fun _ _ => rfl)) (fun us w hl h => ld_num hl h)
  · exact q_call2 (F := (Fq.num a).P) (G := (Fq.num m).P) hp (free_of rfl) trivial (enq_Bezout) (sq_in 0 rfl rfl (by simp) rfl (fun v w h => h)) (sq_in 1 rfl rfl (by simp) rfl (fun v w h => h)) (fun v v' w h h' => exBezout h h' (Int.lt_of_lt_of_le ha.out (pw_le (by omega))) (Int.lt_of_lt_of_le hm.out (pw_le (by omega))) HP.out)
  · exact q_move hp (free_of rfl) trivial (sq_in 2 rfl rfl (by simp) rfl (fun v w h => h))
  · exact q_extract3 hp (free_of rfl) trivial (sq_in 3 rfl rfl (by simp) rfl (fun v w h => h)) (fun v1 v2 v3 w h1 h2 h3 => ⟨_, rfl, h1⟩)
  · exact q_extract3 hp (free_of rfl) trivial (sq_in 3 rfl rfl (by simp) rfl (fun v w h => h)) (fun v1 v2 v3 w h1 h2 h3 => ⟨_, rfl, h2⟩)
  · exact q_extract3 hp (free_of rfl) trivial (sq_in 3 rfl rfl (by simp) rfl (fun v w h => h)) (fun v1 v2 v3 w h1 h2 h3 => ⟨_, rfl, h3⟩)
  · exact q_allocInt hp (List.mem_iff_getElem?.2 ⟨0, rfl⟩) rfl rfl rfl rfl (Nat.ne_of_beq_eq_false rfl) (fun _ _ => trivial) (old_ne rfl) (newk_ne rfl) (fun w => Num.zero w)
  · exact q_allocInt hp (List.mem_iff_getElem?.2 ⟨1, rfl⟩) rfl rfl rfl rfl (Nat.ne_of_beq_eq_false rfl) (fun _ _ => trivial) (old_ne rfl) (newk_ne rfl) (fun w => Num.zero w)
  · exact q_allocInt hp (List.mem_iff_getElem?.2 ⟨2, rfl⟩) rfl rfl rfl rfl (Nat.ne_of_beq_eq_false rfl) (fun _ _ => trivial) (old_ne rfl) (newk_ne rfl) (fun w => Num.zero w)
  · exact q_storeNewInt hp (List.mem_iff_getElem?.2 ⟨0, rfl⟩) rfl rfl rfl (own_ptr rfl rfl (by simp) rfl) (sq_in 4 rfl rfl (by simp) rfl (fun v w h => intV_num h)) (fun _ _ => trivial) (old_ne rfl) (newi_ne rfl)
  · exact q_storeNewInt hp (List.mem_iff_getElem?.2 ⟨1, rfl⟩) rfl rfl rfl (own_ptr rfl rfl (by simp) rfl) (sq_in 5 rfl rfl (by simp) rfl (fun v w h => intV_num h)) (fun _ _ => trivial) (old_ne rfl) (newi_ne rfl)
  · exact q_storeNewInt hp (List.mem_iff_getElem?.2 ⟨2, rfl⟩) rfl rfl rfl (own_ptr rfl rfl (by simp) rfl) (sq_in 6 rfl rfl (by simp) rfl (fun v w h => intV_num h)) (fun _ _ => trivial) (old_ne rfl) (newi_ne rfl)
  intro L vs w7 nb hL hC hn E7
  have e7 : vs 7 = .pointer (some ⟨nb 7, 0, none⟩) := hn _ (List.mem_iff_getElem?.2 ⟨0, rfl⟩)
  have e8 : vs 8 = .pointer (some ⟨nb 8, 0, none⟩) := hn _ (List.mem_iff_getElem?.2 ⟨1, rfl⟩)
  have e9 : vs 9 = .pointer (some ⟨nb 9, 0, none⟩) := hn _ (List.mem_iff_getElem?.2 ⟨2, rfl⟩)
  have E : Fr w [(nb 7, 2, Fq.num (Int.gcd a m : Int)), (nb 8, 2, Fq.num (bezU a m)), (nb 9, 2, Fq.num (bezV a m)), (b3, 2, Fq.num 0), (b2, 2, Fq.num m), (b1, 2, Fq.num a)] w7 := E7
  rw [lay_all hL]
  simp only [putAll, dstOf, List.length_cons, List.length_nil, Nat.zero_add, Nat.reduceAdd, List.getElem?_toArray, List.getElem?_cons_zero, List.getElem?_cons_succ, Option.bind_some, Act.put, List.setIfInBounds_toArray, List.set_cons_succ, List.set_cons_zero]
  rw [e7, e8, e9]
  generalize nb 7 = b7_7 at E ⊢
  generalize nb 8 = b7_8 at E ⊢
  generalize nb 9 = b7_9 at E ⊢
  generalize vs 0 = u7_0
  generalize vs 1 = u7_1
  generalize vs 2 = u7_2
  generalize vs 3 = u7_3
  generalize vs 4 = u7_4
  generalize vs 5 = u7_5
  generalize vs 6 = u7_6
  clear e7 e8 e9 hC hn E7 hL vs L nb
  go_upto_region 4 with (fail)
  refine region_fr (C := [Fq.num (Int.gcd a m : Int), Fq.is (.bool false), Fq.is (.bool true)]) (ks := [none, none, none, none, none, none]) (new := []) E rfl (by kernel_rfl) rfl rfl (fun hp => ⟨?_, ?_, ?_, trivial⟩) ?_
  · exact q_loadInt (off := 0) hp (free_of rfl) trivial (List.mem_iff_getElem?.2 ⟨0, rfl⟩) (.inl rfl) (Nat.le_of_ble_eq_true rfl) (sq_out rfl rfl (fun _ _ => rfl)) (fun us w hl h => ld_num hl h)
  · exact q_call1 (F := (Fq.num (Int.gcd a m : Int)).P) hp (free_of rfl) trivial (enq_M_isOne) (sq_in 0 rfl rfl (by simp) rfl (fun v w h => h)) (fun v w h => exIsOneMB h T2.out)
  · exact q_one (F := fun v _ => v = .bool false) hp (free_of rfl) trivial (sq_in 1 rfl rfl (by simp) rfl (fun v w h => h)) (fun ρ w _ h => ⟨.bool true, by simp [execOp, go_sem, h], rfl⟩)
  intro L vs w8 nb hL hC hn E8
  have e1 : vs 1 = .bool false := hC 1 (by simp)
  have e2 : vs 2 = .bool true := hC 2 (by simp)
  have E : Fr w [(b7_7, 2, Fq.num (Int.gcd a m : Int)), (b7_8, 2, Fq.num (bezU a m)), (b7_9, 2, Fq.num (bezV a m)), (b3, 2, Fq.num 0), (b2, 2, Fq.num m), (b1, 2, Fq.num a)] w8 := E8
  rw [lay_all hL]
  simp only [putAll, dstOf, List.length_cons, List.length_nil, Nat.zero_add, Nat.reduceAdd, List.getElem?_toArray, List.getElem?_cons_zero, List.getElem?_cons_succ, Option.bind_some, Act.put, List.setIfInBounds_toArray, List.set_cons_succ, List.set_cons_zero]
  rw [e1, e2]
  generalize vs 0 = u8_0
  clear e1 e2 hC hn E8 hL vs L nb
  clear T2
  go_upto_region 5 with (fail)
  refine region_fr (C := [Fq.num 0, Fq.any, Fq.is (.int .i64 4)]) (ks := [none, none, none, some (1, Fq.num 0), none, none]) (new := []) E rfl (by kernel_rfl) rfl rfl (fun hp => ⟨?_, ?_, ?_, trivial⟩) ?_
  · exact q_zeroInt hp (free_of rfl) trivial (fun w => Num.zero w)
  · exact q_storeOldInt hp (List.mem_iff_getElem?.2 ⟨3, rfl⟩) rfl rfl (sq_out rfl rfl (fun _ _ => rfl)) (sq_in 0 rfl rfl (by simp) rfl (fun v w h => intV_num h)) (fun _ _ => trivial) (newik_ne rfl)
  · exact q_assign hp (free_of rfl) trivial (sq_const (fun _ => rfl))
  intro L vs w9 nb hL hC hn E9
  have e2 : vs 2 = .int .i64 4 := hC 2 (by simp)
  have E : Fr w [(b7_7, 2, Fq.num (Int.gcd a m : Int)), (b7_8, 2, Fq.num (bezU a m)), (b7_9, 2, Fq.num (bezV a m)), (b3, 2, Fq.num 0), (b2, 2, Fq.num m), (b1, 2, Fq.num a)] w9 := E9
  rw [lay_all hL]
  simp only [putAll, dstOf, List.length_cons, List.length_nil, Nat.zero_add, Nat.reduceAdd, List.getElem?_toArray, List.getElem?_cons_zero, List.getElem?_cons_succ, Option.bind_some, Act.put, List.setIfInBounds_toArray, List.set_cons_succ, List.set_cons_zero]
  rw [e2]
  generalize vs 0 = u9_0
  clear e2 hC hn E9 hL vs L nb
  clear HP
  obtain ⟨p0, p1, c0, c1, hP⟩ := box_num (E.box 3 rfl)
  clear B5 B6 ha hm
  go_wp2
  refine bodyPost_ret (v := .tuple #[.agg #[p0, p1], .int .i64 4]) ?_ rfl ⟨_, rfl, E.below, ⟨_, _, rfl, hP, rfl⟩⟩
  simp [results, Tryd.results41, go_sem, c0, c1]

set_option maxRecDepth 100000 in
set_option maxHeartbeats 4000000 in
theorem exCrtP {w : World} {v v' u u' : Value} {r1 m1 r2 m2 : Int} (h : Num w v r1) (h' : Num w v' m1) (g : Num w u r2) (g' : Num w u' m2) (ha : ab r1 < pw 100) (hb : ab m1 < pw 100) (hc : ab r2 < pw 100) (hd : ab m2 < pw 100) (h1 : 0 < m1) (h2 : 0 < m2) (hz : (r2 - r1) % (Int.gcd m1 m2 : Int) = 0) :
    Calls Tryd.prog 31 #[v, v', u, u'] w fun e w' => ∃ v', e = .returned v' ∧ Below w.heap.size w w' ∧ (Fq.tup3 (Fq.num (crtR r1 m1 r2 m2)) (Fq.num (m1 * (m2 / (Int.gcd m1 m2 : Int)))) (Fq.is (.int .i64 0))).P v' w' := by
  replace ha := hidd ha
  replace hb := hidd hb
  replace hc := hidd hc
  replace hd := hidd hd
  obtain ⟨n0, ao0, k0, c0, rfl⟩ := h.parts
  obtain ⟨n1, ao1, k1, c1, rfl⟩ := h'.parts
  obtain ⟨n2, ao2, k2, c2, rfl⟩ := g.parts
  obtain ⟨n3, ao3, k3, c3, rfl⟩ := g'.parts
  obtain ⟨w1, b1, hw1, hb1, hs1, E⟩ := fr_start w (F := Fq.num r1) (us := [.bool n0, .slice ao0 k0 c0]) 29 rfl (by simp) (tame_int _ _ _ _) h
  obtain ⟨w2, b2, hw2, hb2, hs2, E⟩ := fr_more E hs1 (F := Fq.num m1) (us := [.bool n1, .slice ao1 k1 c1]) 29 rfl (by simp) (tame_int _ _ _ _) (h'.mono E.below)
  obtain ⟨w3, b3, hw3, hb3, hs3, E⟩ := fr_more E hs2 (F := Fq.num r2) (us := [.bool n2, .slice ao2 k2 c2]) 29 rfl (by simp) (tame_int _ _ _ _) (g.mono E.below)
  obtain ⟨w4, b4, hw4, hb4, hs4, E⟩ := fr_more E hs3 (F := Fq.num m2) (us := [.bool n3, .slice ao3 k3 c3]) 29 rfl (by simp) (tame_int _ _ _ _) (g'.mono E.below)
  obtain ⟨w5, b5, hw5, hb5, hs5, E⟩ := fr_more E hs4 (F := Fq.num 0) (us := [.bool false, .slice none 0 0]) 29 rfl (by simp) (tame_int _ _ _ _) (Num.zero _)
  obtain ⟨w6, b6, hw6, hb6, hs6, E⟩ := fr_more E hs5 (F := Fq.num 0) (us := [.bool false, .slice none 0 0]) 29 rfl (by simp) (tame_int _ _ _ _) (Num.zero _)
  go_enter Tryd.func31, Tryd.ntmps31
  go_upto_region 1 with (fail)
  rw [← hw1]
  rw [← hw2]
  rw [← hw3]
  rw [← hw4]
  rw [← hw5]
  rw [← hw6]
  rw [← hb6]
  rw [← hb5]
  rw [← hb4]
  rw [← hb3]
  rw [← hb2]
  rw [← hb1]
  clear hw1 hw2 hw3 hw4 hw5 hw6 hb1 hb2 hb3 hb4 hb5 hb6 hs6 hs1 hs2 hs3 hs4 hs5
  have T1 : Hid (¬ cmpI m1 0 ≤ 0) := fun e => by have := cmpI_le0.1 e; omega
  have T2 : Hid (¬ cmpI m2 0 ≤ 0) := fun e => by have := cmpI_le0.1 e; omega
  have HP := hidd h2
  have HG : Hid ((Int.gcd m1 m2 : Int) ≠ 0) := by have := gcd_pos_r (a := m1) (show m2 ≠ 0 by omega); show _ ≠ _; omega
  have T3 : Hid (cmpI ((r2 - r1) % (Int.gcd m1 m2 : Int)) 0 = 0) := cmpIq0.2 hz
  have HQ : Hid (m2 / (Int.gcd m1 m2 : Int) ≠ 0) := by have := (crt_part (m1 := m1) h2).1; show _ ≠ _; omega
  have HR : Hid (m1 * (m2 / (Int.gcd m1 m2 : Int)) ≠ 0) := Int.mul_ne_zero (by omega) HQ.out
  clear h1 h2 hz
  refine region_fr (C := [Fq.num m1, Fq.is (.int .i64 (cmpI m1 0)), Fq.is (.bool false), Fq.is (.bool false), Fq.num m2, Fq.is (.int .i64 (cmpI m2 0)), Fq.is (.bool false), Fq.is (.bool false)]) (ks := [none, none, none, none, none, none]) (new := []) E rfl (by kernel_rfl) rfl rfl (fun hp => ⟨?_, ?_, ?_, ?_, ?_, ?_, ?_, ?_, trivial⟩) ?_
  · exact q_loadInt (off := 0) hp (free_of rfl) trivial (List.mem_iff_getElem?.2 ⟨4, rfl⟩) (.inl rfl) (Nat.le_of_ble_eq_true rfl) (sq_out rfl rfl (fun _ _ => rfl)) (fun us w hl h => ld_num hl h)
  · exact q_call1 (F := (Fq.num m1).P) hp (free_of rfl) trivial (enq_Sign) (sq_in 0 rfl rfl (by simp) rfl (fun v w h => h)) (fun v w h => exSign h)
  · exact q_one (F := fun v _ => v = .int .i64 (cmpI m1 0)) hp (free_of rfl) trivial (sq_in 1 rfl rfl (by simp) rfl (fun v w h => h)) (fun ρ w hc h => ⟨.bool false, by simp [execOp, go_sem, h, hc, T1.out], rfl⟩)
  · exact q_move hp (free_of rfl) trivial (sq_in 2 rfl rfl (by simp) rfl (fun v w h => h))
  · exact q_loadInt (off := 0) hp (free_of rfl) (gq_some rfl rfl (by simp) rfl (fun v w h => h)) (List.mem_iff_getElem?.2 ⟨2, rfl⟩) (.inl rfl) (Nat.le_of_ble_eq_true rfl) (sq_out rfl rfl (fun _ _ => rfl)) (fun us w hl h => ld_num hl h)
  · exact q_call1 (F := (Fq.num m2).P) hp (free_of rfl) (gq_some rfl rfl (by simp) rfl (fun v w h => h)) (enq_Sign) (sq_in 4 rfl rfl (by simp) rfl (fun v w h => h)) (fun v w h => exSign h)
  · exact q_one (F := fun v _ => v = .int .i64 (cmpI m2 0)) hp (free_of rfl) (gq_some rfl rfl (by simp) rfl (fun v w h => h)) (sq_in 5 rfl rfl (by simp) rfl (fun v w h => h)) (fun ρ w hc h => ⟨.bool false, by simp [execOp, go_sem, h, hc, T2.out], rfl⟩)
  · exact q_two (F := fun v _ => v = .bool false) (G := fun v _ => v = .bool false) hp (free_of rfl) trivial (sq_in 3 rfl rfl (by simp) rfl (fun v w h => h)) (sq_in 6 rfl rfl (by simp) rfl (fun v w h => h)) (fun ρ w hc h h' => ⟨_, by simp [execOp, go_sem, h, h'], rfl⟩)
  intro L vs w7 nb hL hC hn E7
  have e1 : vs 1 = .int .i64 (cmpI m1 0) := hC 1 (by simp)
  have e2 : vs 2 = .bool false := hC 2 (by simp)
  have e3 : vs 3 = .bool false := hC 3 (by simp)
  have e5 : vs 5 = .int .i64 (cmpI m2 0) := hC 5 (by simp)
  have e6 : vs 6 = .bool false := hC 6 (by simp)
  have e7 : vs 7 = .bool false := hC 7 (by simp)
  have E : Fr w [(b6, 2, Fq.num 0), (b5, 2, Fq.num 0), (b4, 2, Fq.num m2), (b3, 2, Fq.num r2), (b2, 2, Fq.num m1), (b1, 2, Fq.num r1)] w7 := E7
  rw [lay_all hL]
  simp only [putAll, dstOf, List.length_cons, List.length_nil, Nat.zero_add, Nat.reduceAdd, List.getElem?_toArray, List.getElem?_cons_zero, List.getElem?_cons_succ, Option.bind_some, Act.put, List.setIfInBounds_toArray, List.set_cons_succ, List.set_cons_zero]
  rw [e1, e2, e3, e5, e6, e7]
  generalize vs 0 = u7_0
  generalize vs 4 = u7_4
  clear e1 e2 e3 e5 e6 e7 hC hn E7 hL vs L nb
  clear T1 T2
  go_upto_region 3 with (fail)
  have B8 : Hid (ab ((Int.gcd m1 m2 : Int)) < pw 100) := ab_gcdB hb.out hd.out (by omega) (by omega)
  have B9 : Hid (ab (bezU m1 m2) < pw 100) := bezU_ab HP.out hd.out
  refine region_fr (C := [Fq.num m1, Fq.num m2, Fq.tup3 (Fq.num (Int.gcd m1 m2 : Int)) (Fq.num (bezU m1 m2)) (Fq.num (bezV m1 m2)), Fq.tup3 (Fq.num (Int.gcd m1 m2 : Int)) (Fq.num (bezU m1 m2)) (Fq.num (bezV m1 m2)), Fq.num (Int.gcd m1 m2 : Int), Fq.num (bezU m1 m2), Fq.num (bezV m1 m2), Fq.any, Fq.any, Fq.any, Fq.any, Fq.any, Fq.any]) (ks := [none, none, none, none, none, none]) (new := [⟨7, 10, 2, Fq.num 0, Fq.num (Int.gcd m1 m2 : Int), none⟩, ⟨8, 11, 2, Fq.num 0, Fq.num (bezU m1 m2), none⟩, ⟨9, 12, 2, Fq.num 0, Fq.num (bezV m1 m2), none⟩]) E rfl (by kernel_rfl) rfl rfl (fun hp => ⟨?_, ?_, ?_, ?_, ?_, ?_, ?_, ?_, ?_, ?_, ?_, ?_, ?_, trivial⟩) ?_
  · exact q_loadInt (off := 0) hp (free_of rfl) trivial (List.mem_iff_getElem?.2 ⟨4, rfl⟩) (.inl rfl) (Nat.le_of_ble_eq_true rfl) (sq_out rfl rfl (fun _ _ => rfl)) (fun us w hl h => ld_num hl h)
  · exact q_loadInt (off := 0) hp (free_of rfl) trivial (List.mem_iff_getElem?.2 ⟨2, rfl⟩) (.inl rfl) (Nat.le_of_ble_eq_true rfl) (sq_out rfl rfl (fun _ _ => rfl)) (fun us w hl h => ld_num hl h)
  · exact q_call2 (F := (Fq.num m1).P) (G := (Fq.num m2).P) hp (free_of rfl) trivial (enq_Bezout) (sq_in 0 rfl rfl (by simp) rfl (fun v w h => h)) (sq_in 1 rfl rfl (by simp) rfl (fun v w h => h)) (fun v v' w h h' => exBezout h h' (Int.lt_of_lt_of_le hb.out (pw_le (by omega))) (Int.lt_of_lt_of_le hd.out (pw_le (by omega))) HP.out)
  · exact q_move hp (free_of rfl) trivial (sq_in 2 rfl rfl (by simp) rfl (fun v w h => h))
  · exact q_extract3 hp (free_of rfl) trivial (sq_in 3 rfl rfl (by simp) rfl (fun v w h => h)) (fun v1 v2 v3 w h1 h2 h3 => ⟨_, rfl, h1⟩)
  · exact q_extract3 hp (free_of rfl) trivial (sq_in 3 rfl rfl (by simp) rfl (fun v w h => h)) (fun v1 v2 v3 w h1 h2 h3 => ⟨_, rfl, h2⟩)
  · exact q_extract3 hp (free_of rfl) trivial (sq_in 3 rfl rfl (by simp) rfl (fun v w h => h)) (fun v1 v2 v3 w h1 h2 h3 => ⟨_, rfl, h3⟩)
  · exact q_allocInt hp (List.mem_iff_getElem?.2 ⟨0, rfl⟩) rfl rfl rfl rfl (Nat.ne_of_beq_eq_false rfl) (fun _ _ => trivial) (old_ne rfl) (newk_ne rfl) (fun w => Num.zero w)
  · exact q_allocInt hp (List.mem_iff_getElem?.2 ⟨1, rfl⟩) rfl rfl rfl rfl (Nat.ne_of_beq_eq_false rfl) (fun _ _ => trivial) (old_ne rfl) (newk_ne rfl) (fun w => Num.zero w)
  · exact q_allocInt hp (List.mem_iff_getElem?.2 ⟨2, rfl⟩) rfl rfl rfl rfl (Nat.ne_of_beq_eq_false rfl) (fun _ _ => trivial) (old_ne rfl) (newk_ne rfl) (fun w => Num.zero w)
  · exact q_storeNewInt hp (List.mem_iff_getElem?.2 ⟨0, rfl⟩) rfl rfl rfl (own_ptr rfl rfl (by simp) rfl) (sq_in 4 rfl rfl (by simp) rfl (fun v w h => intV_num h)) (fun _ _ => trivial) (old_ne rfl) (newi_ne rfl)
  · exact q_storeNewInt hp (List.mem_iff_getElem?.2 ⟨1, rfl⟩) rfl rfl rfl (own_ptr rfl rfl (by simp) rfl) (sq_in 5 rfl rfl (by simp) rfl (fun v w h => intV_num h)) (fun _ _ => trivial) (old_ne rfl) (newi_ne rfl)
  · exact q_storeNewInt hp (List.mem_iff_getElem?.2 ⟨2, rfl⟩) rfl rfl rfl (own_ptr rfl rfl (by simp) rfl) (sq_in 6 rfl rfl (by simp) rfl (fun v w h => intV_num h)) (fun _ _ => trivial) (old_ne rfl) (newi_ne rfl)
  intro L vs w10 nb hL hC hn E10
  have e7 : vs 7 = .pointer (some ⟨nb 7, 0, none⟩) := hn _ (List.mem_iff_getElem?.2 ⟨0, rfl⟩)
  have e8 : vs 8 = .pointer (some ⟨nb 8, 0, none⟩) := hn _ (List.mem_iff_getElem?.2 ⟨1, rfl⟩)
  have e9 : vs 9 = .pointer (some ⟨nb 9, 0, none⟩) := hn _ (List.mem_iff_getElem?.2 ⟨2, rfl⟩)
  have E : Fr w [(nb 7, 2, Fq.num (Int.gcd m1 m2 : Int)), (nb 8, 2, Fq.num (bezU m1 m2)), (nb 9, 2, Fq.num (bezV m1 m2)), (b6, 2, Fq.num 0), (b5, 2, Fq.num 0), (b4, 2, Fq.num m2), (b3, 2, Fq.num r2), (b2, 2, Fq.num m1), (b1, 2, Fq.num r1)] w10 := E10
  rw [lay_all hL]
  simp only [putAll, dstOf, List.length_cons, List.length_nil, Nat.zero_add, Nat.reduceAdd, List.getElem?_toArray, List.getElem?_cons_zero, List.getElem?_cons_succ, Option.bind_some, Act.put, List.setIfInBounds_toArray, List.set_cons_succ, List.set_cons_zero]
  rw [e7, e8, e9]
  generalize nb 7 = b10_7 at E ⊢
  generalize nb 8 = b10_8 at E ⊢
  generalize nb 9 = b10_9 at E ⊢
  generalize vs 0 = u10_0
  generalize vs 1 = u10_1
  generalize vs 2 = u10_2
  generalize vs 3 = u10_3
  generalize vs 4 = u10_4
  generalize vs 5 = u10_5
  generalize vs 6 = u10_6
  clear e7 e8 e9 hC hn E10 hL vs L nb
  go_upto_region 4 with (fail)
  have B11 : Hid (ab ((r2 - r1)) < pw 101) := ab_subB hc.out ha.out (by omega) (by omega)
  have B12 : Hid (ab (((r2 - r1) / (Int.gcd m1 m2 : Int))) < pw 102) := ab_divB B11.out (by omega)
  have B13 : Hid (ab (((r2 - r1) % (Int.gcd m1 m2 : Int))) < pw 100) := ab_modB HG.out B8.out
  refine region_fr (C := [Fq.num r2, Fq.num r1, Fq.num (r2 - r1), Fq.num (Int.gcd m1 m2 : Int), Fq.tup3 (Fq.num ((r2 - r1) / (Int.gcd m1 m2 : Int))) (Fq.num ((r2 - r1) % (Int.gcd m1 m2 : Int))) (Fq.is (.int .i64 0)), Fq.tup3 (Fq.num ((r2 - r1) / (Int.gcd m1 m2 : Int))) (Fq.num ((r2 - r1) % (Int.gcd m1 m2 : Int))) (Fq.is (.int .i64 0)), Fq.num ((r2 - r1) / (Int.gcd m1 m2 : Int)), Fq.num ((r2 - r1) % (Int.gcd m1 m2 : Int)), Fq.is (.int .i64 0), Fq.any, Fq.any, Fq.any, Fq.any, Fq.is (.int .i64 0)]) (ks := [none, none, none, none, none, none, none, none, none]) (new := [⟨9, 11, 2, Fq.num 0, Fq.num ((r2 - r1) / (Int.gcd m1 m2 : Int)), none⟩, ⟨10, 12, 2, Fq.num 0, Fq.num ((r2 - r1) % (Int.gcd m1 m2 : Int)), none⟩]) E rfl (by kernel_rfl) rfl rfl (fun hp => ⟨?_, ?_, ?_, ?_, ?_, ?_, ?_, ?_, ?_, ?_, ?_, ?_, ?_, ?_, trivial⟩) ?_
  · exact q_loadInt (off := 0) hp (free_of rfl) trivial (List.mem_iff_getElem?.2 ⟨6, rfl⟩) (.inl rfl) (Nat.le_of_ble_eq_true rfl) (sq_out rfl rfl (fun _ _ => rfl)) (fun us w hl h => ld_num hl h)
  · exact q_loadInt (off := 0) hp (free_of rfl) trivial (List.mem_iff_getElem?.2 ⟨8, rfl⟩) (.inl rfl) (Nat.le_of_ble_eq_true rfl) (sq_out rfl rfl (fun _ _ => rfl)) (fun us w hl h => ld_num hl h)
  · exact q_call2 (F := (Fq.num r2).P) (G := (Fq.num r1).P) hp (free_of rfl) trivial (enq_Sub) (sq_in 0 rfl rfl (by simp) rfl (fun v w h => h)) (sq_in 1 rfl rfl (by simp) rfl (fun v w h => h)) (fun v v' w h h' => exK (SubV h h') B11.out (by omega))
  · exact q_loadInt (off := 0) hp (free_of rfl) trivial (List.mem_iff_getElem?.2 ⟨0, rfl⟩) (.inl rfl) (Nat.le_of_ble_eq_true rfl) (sq_out rfl rfl (fun _ _ => rfl)) (fun us w hl h => ld_num hl h)
  · exact q_call2 (F := (Fq.num (r2 - r1)).P) (G := (Fq.num (Int.gcd m1 m2 : Int)).P) hp (free_of rfl) trivial (enq_DivMod) (sq_in 2 rfl rfl (by simp) rfl (fun v w h => h)) (sq_in 3 rfl rfl (by simp) rfl (fun v w h => h)) (fun v v' w h h' => exDMq h h' HG.out B12.out B13.out (by omega) (by omega))
  · exact q_move hp (free_of rfl) trivial (sq_in 4 rfl rfl (by simp) rfl (fun v w h => h))
  · exact q_extract3 hp (free_of rfl) trivial (sq_in 5 rfl rfl (by simp) rfl (fun v w h => h)) (fun v1 v2 v3 w h1 h2 h3 => ⟨_, rfl, h1⟩)
  · exact q_extract3 hp (free_of rfl) trivial (sq_in 5 rfl rfl (by simp) rfl (fun v w h => h)) (fun v1 v2 v3 w h1 h2 h3 => ⟨_, rfl, h2⟩)
  · exact q_extract3 hp (free_of rfl) trivial (sq_in 5 rfl rfl (by simp) rfl (fun v w h => h)) (fun v1 v2 v3 w h1 h2 h3 => ⟨_, rfl, h3⟩)
  · exact q_allocInt hp (List.mem_iff_getElem?.2 ⟨0, rfl⟩) rfl rfl rfl rfl (Nat.ne_of_beq_eq_false rfl) (fun _ _ => trivial) (old_ne rfl) (newk_ne rfl) (fun w => Num.zero w)
  · exact q_allocInt hp (List.mem_iff_getElem?.2 ⟨1, rfl⟩) rfl rfl rfl rfl (Nat.ne_of_beq_eq_false rfl) (fun _ _ => trivial) (old_ne rfl) (newk_ne rfl) (fun w => Num.zero w)
  · exact q_storeNewInt hp (List.mem_iff_getElem?.2 ⟨0, rfl⟩) rfl rfl rfl (own_ptr rfl rfl (by simp) rfl) (sq_in 6 rfl rfl (by simp) rfl (fun v w h => intV_num h)) (fun _ _ => trivial) (old_ne rfl) (newi_ne rfl)
  · exact q_storeNewInt hp (List.mem_iff_getElem?.2 ⟨1, rfl⟩) rfl rfl rfl (own_ptr rfl rfl (by simp) rfl) (sq_in 7 rfl rfl (by simp) rfl (fun v w h => intV_num h)) (fun _ _ => trivial) (old_ne rfl) (newi_ne rfl)
  · exact q_assign hp (free_of rfl) trivial (sq_in 8 rfl rfl (by simp) rfl (fun v w h => h))
  intro L vs w14 nb hL hC hn E14
  have e8 : vs 8 = .int .i64 0 := hC 8 (by simp)
  have e13 : vs 13 = .int .i64 0 := hC 13 (by simp)
  have e9 : vs 9 = .pointer (some ⟨nb 9, 0, none⟩) := hn _ (List.mem_iff_getElem?.2 ⟨0, rfl⟩)
  have e10 : vs 10 = .pointer (some ⟨nb 10, 0, none⟩) := hn _ (List.mem_iff_getElem?.2 ⟨1, rfl⟩)
  have E : Fr w [(nb 9, 2, Fq.num ((r2 - r1) / (Int.gcd m1 m2 : Int))), (nb 10, 2, Fq.num ((r2 - r1) % (Int.gcd m1 m2 : Int))), (b10_7, 2, Fq.num (Int.gcd m1 m2 : Int)), (b10_8, 2, Fq.num (bezU m1 m2)), (b10_9, 2, Fq.num (bezV m1 m2)), (b6, 2, Fq.num 0), (b5, 2, Fq.num 0), (b4, 2, Fq.num m2), (b3, 2, Fq.num r2), (b2, 2, Fq.num m1), (b1, 2, Fq.num r1)] w14 := E14
  rw [lay_all hL]
  simp only [putAll, dstOf, List.length_cons, List.length_nil, Nat.zero_add, Nat.reduceAdd, List.getElem?_toArray, List.getElem?_cons_zero, List.getElem?_cons_succ, Option.bind_some, Act.put, List.setIfInBounds_toArray, List.set_cons_succ, List.set_cons_zero]
  rw [e8, e13, e9, e10]
  generalize nb 9 = b14_9 at E ⊢
  generalize nb 10 = b14_10 at E ⊢
  generalize vs 0 = u14_0
  generalize vs 1 = u14_1
  generalize vs 2 = u14_2
  generalize vs 3 = u14_3
  generalize vs 4 = u14_4
  generalize vs 5 = u14_5
  generalize vs 6 = u14_6
  generalize vs 7 = u14_7
  clear e8 e13 e9 e10 hC hn E14 hL vs L nb
  go_upto_region 5 with (fail)
  refine region_fr (C := [Fq.num ((r2 - r1) % (Int.gcd m1 m2 : Int)), Fq.is (.int .i64 (cmpI ((r2 - r1) % (Int.gcd m1 m2 : Int)) 0)), Fq.is (.bool false)]) (ks := [none, none, none, none, none, none, none, none, none, none, none]) (new := []) E rfl (by kernel_rfl) rfl rfl (fun hp => ⟨?_, ?_, ?_, trivial⟩) ?_
  · exact q_loadInt (off := 0) hp (free_of rfl) trivial (List.mem_iff_getElem?.2 ⟨1, rfl⟩) (.inl rfl) (Nat.le_of_ble_eq_true rfl) (sq_out rfl rfl (fun _ _ => rfl)) (fun us w hl h => ld_num hl h)
  · exact q_call1 (F := (Fq.num ((r2 - r1) % (Int.gcd m1 m2 : Int))).P) hp (free_of rfl) trivial (enq_Sign) (sq_in 0 rfl rfl (by simp) rfl (fun v w h => h)) (fun v w h => exSign h)
  · exact q_one (F := fun v _ => v = .int .i64 (cmpI ((r2 - r1) % (Int.gcd m1 m2 : Int)) 0)) hp (free_of rfl) trivial (sq_in 1 rfl rfl (by simp) rfl (fun v w h => h)) (fun ρ w hc h => ⟨.bool false, by simp [execOp, go_sem, h, hc, T3.out], rfl⟩)
  intro L vs w15 nb hL hC hn E15
  have e1 : vs 1 = .int .i64 (cmpI ((r2 - r1) % (Int.gcd m1 m2 : Int)) 0) := hC 1 (by simp)
  have e2 : vs 2 = .bool false := hC 2 (by simp)
  have E : Fr w [(b14_9, 2, Fq.num ((r2 - r1) / (Int.gcd m1 m2 : Int))), (b14_10, 2, Fq.num ((r2 - r1) % (Int.gcd m1 m2 : Int))), (b10_7, 2, Fq.num (Int.gcd m1 m2 : Int)), (b10_8, 2, Fq.num (bezU m1 m2)), (b10_9, 2, Fq.num (bezV m1 m2)), (b6, 2, Fq.num 0), (b5, 2, Fq.num 0), (b4, 2, Fq.num m2), (b3, 2, Fq.num r2), (b2, 2, Fq.num m1), (b1, 2, Fq.num r1)] w15 := E15
  rw [lay_all hL]
  simp only [putAll, dstOf, List.length_cons, List.length_nil, Nat.zero_add, Nat.reduceAdd, List.getElem?_toArray, List.getElem?_cons_zero, List.getElem?_cons_succ, Option.bind_some, Act.put, List.setIfInBounds_toArray, List.set_cons_succ, List.set_cons_zero]
  rw [e1, e2]
  generalize vs 0 = u15_0
  clear e1 e2 hC hn E15 hL vs L nb
  clear T3
  go_upto_region 7 with (fail)
  have B16 : Hid (ab ((m2 / (Int.gcd m1 m2 : Int))) < pw 101) := ab_divB hd.out (by omega)
  have B17 : Hid (ab ((m2 % (Int.gcd m1 m2 : Int))) < pw 100) := ab_modB HG.out B8.out
  refine region_fr (C := [Fq.num m2, Fq.num (Int.gcd m1 m2 : Int), Fq.tup3 (Fq.num (m2 / (Int.gcd m1 m2 : Int))) (Fq.num (m2 % (Int.gcd m1 m2 : Int))) (Fq.is (.int .i64 0)), Fq.tup3 (Fq.num (m2 / (Int.gcd m1 m2 : Int))) (Fq.num (m2 % (Int.gcd m1 m2 : Int))) (Fq.is (.int .i64 0)), Fq.num (m2 / (Int.gcd m1 m2 : Int)), Fq.num (m2 % (Int.gcd m1 m2 : Int)), Fq.is (.int .i64 0), Fq.any, Fq.any, Fq.any, Fq.any, Fq.is (.int .i64 0)]) (ks := [none, none, none, none, none, none, none, none, none, none, none]) (new := [⟨7, 9, 2, Fq.num 0, Fq.num (m2 / (Int.gcd m1 m2 : Int)), none⟩, ⟨8, 10, 2, Fq.num 0, Fq.num (m2 % (Int.gcd m1 m2 : Int)), none⟩]) E rfl (by kernel_rfl) rfl rfl (fun hp => ⟨?_, ?_, ?_, ?_, ?_, ?_, ?_, ?_, ?_, ?_, ?_, ?_, trivial⟩) ?_
  · exact q_loadInt (off := 0) hp (free_of rfl) trivial (List.mem_iff_getElem?.2 ⟨7, rfl⟩) (.inl rfl) (Nat.le_of_ble_eq_true rfl) (sq_out rfl rfl (fun _ _ => rfl)) (fun us w hl h => ld_num hl h)
  · exact q_loadInt (off := 0) hp (free_of rfl) trivial (List.mem_iff_getElem?.2 ⟨2, rfl⟩) (.inl rfl) (Nat.le_of_ble_eq_true rfl) (sq_out rfl rfl (fun _ _ => rfl)) (fun us w hl h => ld_num hl h)
  · exact q_call2 (F := (Fq.num m2).P) (G := (Fq.num (Int.gcd m1 m2 : Int)).P) hp (free_of rfl) trivial (enq_DivMod) (sq_in 0 rfl rfl (by simp) rfl (fun v w h => h)) (sq_in 1 rfl rfl (by simp) rfl (fun v w h => h)) (fun v v' w h h' => exDMq h h' HG.out B16.out B17.out (by omega) (by omega))
  · exact q_move hp (free_of rfl) trivial (sq_in 2 rfl rfl (by simp) rfl (fun v w h => h))
  · exact q_extract3 hp (free_of rfl) trivial (sq_in 3 rfl rfl (by simp) rfl (fun v w h => h)) (fun v1 v2 v3 w h1 h2 h3 => ⟨_, rfl, h1⟩)
  · exact q_extract3 hp (free_of rfl) trivial (sq_in 3 rfl rfl (by simp) rfl (fun v w h => h)) (fun v1 v2 v3 w h1 h2 h3 => ⟨_, rfl, h2⟩)
  · exact q_extract3 hp (free_of rfl) trivial (sq_in 3 rfl rfl (by simp) rfl (fun v w h => h)) (fun v1 v2 v3 w h1 h2 h3 => ⟨_, rfl, h3⟩)
  · exact q_allocInt hp (List.mem_iff_getElem?.2 ⟨0, rfl⟩) rfl rfl rfl rfl (Nat.ne_of_beq_eq_false rfl) (fun _ _ => trivial) (old_ne rfl) (newk_ne rfl) (fun w => Num.zero w)
  · exact q_allocInt hp (List.mem_iff_getElem?.2 ⟨1, rfl⟩) rfl rfl rfl rfl (Nat.ne_of_beq_eq_false rfl) (fun _ _ => trivial) (old_ne rfl) (newk_ne rfl) (fun w => Num.zero w)
  · exact q_storeNewInt hp (List.mem_iff_getElem?.2 ⟨0, rfl⟩) rfl rfl rfl (own_ptr rfl rfl (by simp) rfl) (sq_in 4 rfl rfl (by simp) rfl (fun v w h => intV_num h)) (fun _ _ => trivial) (old_ne rfl) (newi_ne rfl)
  · exact q_storeNewInt hp (List.mem_iff_getElem?.2 ⟨1, rfl⟩) rfl rfl rfl (own_ptr rfl rfl (by simp) rfl) (sq_in 5 rfl rfl (by simp) rfl (fun v w h => intV_num h)) (fun _ _ => trivial) (old_ne rfl) (newi_ne rfl)
  · exact q_assign hp (free_of rfl) trivial (sq_in 6 rfl rfl (by simp) rfl (fun v w h => h))
  intro L vs w18 nb hL hC hn E18
  have e6 : vs 6 = .int .i64 0 := hC 6 (by simp)
  have e11 : vs 11 = .int .i64 0 := hC 11 (by simp)
  have e7 : vs 7 = .pointer (some ⟨nb 7, 0, none⟩) := hn _ (List.mem_iff_getElem?.2 ⟨0, rfl⟩)
  have e8 : vs 8 = .pointer (some ⟨nb 8, 0, none⟩) := hn _ (List.mem_iff_getElem?.2 ⟨1, rfl⟩)
  have E : Fr w [(nb 7, 2, Fq.num (m2 / (Int.gcd m1 m2 : Int))), (nb 8, 2, Fq.num (m2 % (Int.gcd m1 m2 : Int))), (b14_9, 2, Fq.num ((r2 - r1) / (Int.gcd m1 m2 : Int))), (b14_10, 2, Fq.num ((r2 - r1) % (Int.gcd m1 m2 : Int))), (b10_7, 2, Fq.num (Int.gcd m1 m2 : Int)), (b10_8, 2, Fq.num (bezU m1 m2)), (b10_9, 2, Fq.num (bezV m1 m2)), (b6, 2, Fq.num 0), (b5, 2, Fq.num 0), (b4, 2, Fq.num m2), (b3, 2, Fq.num r2), (b2, 2, Fq.num m1), (b1, 2, Fq.num r1)] w18 := E18
  rw [lay_all hL]
  simp only [putAll, dstOf, List.length_cons, List.length_nil, Nat.zero_add, Nat.reduceAdd, List.getElem?_toArray, List.getElem?_cons_zero, List.getElem?_cons_succ, Option.bind_some, Act.put, List.setIfInBounds_toArray, List.set_cons_succ, List.set_cons_zero]
  rw [e6, e11, e7, e8]
  generalize nb 7 = b18_7 at E ⊢
  generalize nb 8 = b18_8 at E ⊢
  generalize vs 0 = u18_0
  generalize vs 1 = u18_1
  generalize vs 2 = u18_2
  generalize vs 3 = u18_3
  generalize vs 4 = u18_4
  generalize vs 5 = u18_5
  clear e6 e11 e7 e8 hC hn E18 hL vs L nb
  go_upto_region 8 with (fail)
  have B19 : Hid (ab ((((r2 - r1) / (Int.gcd m1 m2 : Int)) * bezU m1 m2)) < pw 202) := ab_mulM B12.out B9.out (by omega)
  have B20 : Hid (ab (((((r2 - r1) / (Int.gcd m1 m2 : Int)) * bezU m1 m2) % (m2 / (Int.gcd m1 m2 : Int)))) < pw 101) := ab_modB HQ.out B16.out
  refine region_fr (C := [Fq.num (m2 / (Int.gcd m1 m2 : Int)), Fq.any, Fq.num ((r2 - r1) / (Int.gcd m1 m2 : Int)), Fq.num (bezU m1 m2), Fq.num (((r2 - r1) / (Int.gcd m1 m2 : Int)) * bezU m1 m2), Fq.num ((((r2 - r1) / (Int.gcd m1 m2 : Int)) * bezU m1 m2) % (m2 / (Int.gcd m1 m2 : Int))), Fq.any]) (ks := [none, none, some (6, Fq.num ((((r2 - r1) / (Int.gcd m1 m2 : Int)) * bezU m1 m2) % (m2 / (Int.gcd m1 m2 : Int)))), none, none, none, none, none, none, none, none, none, none]) (new := [⟨1, 1, 2, Fq.num (m2 / (Int.gcd m1 m2 : Int)), Fq.num (m2 / (Int.gcd m1 m2 : Int)), (some (.clo 72))⟩]) E rfl (by kernel_rfl) rfl rfl (fun hp => ⟨?_, ?_, ?_, ?_, ?_, ?_, ?_, trivial⟩) ?_
  · exact q_loadInt (off := 0) hp (free_of rfl) trivial (List.mem_iff_getElem?.2 ⟨0, rfl⟩) (.inl rfl) (Nat.le_of_ble_eq_true rfl) (sq_out rfl rfl (fun _ _ => rfl)) (fun us w hl h => ld_num hl h)
  · exact q_callMake (F := (Fq.num (m2 / (Int.gcd m1 m2 : Int))).P) hp enq_M_within (List.mem_iff_getElem?.2 ⟨0, rfl⟩) rfl rfl rfl (sq_in 0 rfl rfl (by simp) rfl (fun v w h => h)) (fun v w h => exWithin h) (fun _ _ => trivial) (old_ne rfl) (newks_ne rfl)
  · exact q_loadInt (off := 0) hp (free_of rfl) trivial (List.mem_iff_getElem?.2 ⟨2, rfl⟩) (.inr rfl) (Nat.le_of_ble_eq_true rfl) (sq_out rfl rfl (fun _ _ => rfl)) (fun us w hl h => ld_num hl h)
  · exact q_loadInt (off := 0) hp (free_of rfl) trivial (List.mem_iff_getElem?.2 ⟨5, rfl⟩) (.inl rfl) (Nat.le_of_ble_eq_true rfl) (sq_out rfl rfl (fun _ _ => rfl)) (fun us w hl h => ld_num hl h)
  · exact q_call2 (F := (Fq.num ((r2 - r1) / (Int.gcd m1 m2 : Int))).P) (G := (Fq.num (bezU m1 m2)).P) hp (free_of rfl) trivial (enq_Mul) (sq_in 2 rfl rfl (by simp) rfl (fun v w h => h)) (sq_in 3 rfl rfl (by simp) rfl (fun v w h => h)) (fun v v' w h h' => exK (MulV h h') B19.out (by omega))
  · exact q_callCloIn (F := (Fq.num (((r2 - r1) / (Int.gcd m1 m2 : Int)) * bezU m1 m2)).P) hp (free_of rfl) trivial enq_M_within1 (List.mem_iff_getElem?.2 ⟨0, rfl⟩) rfl (own_ptr rfl rfl (by simp) rfl) (sq_in 4 rfl rfl (by simp) rfl (fun v w h => h)) (fun v b w h hb => exResidue h hb HQ.out (Int.lt_of_lt_of_le B19.out (pw_le (by omega))) (Int.lt_of_lt_of_le B16.out (pw_le (by omega))))
  · exact q_storeOldInt hp (List.mem_iff_getElem?.2 ⟨2, rfl⟩) rfl rfl (sq_out rfl rfl (fun _ _ => rfl)) (sq_in 5 rfl rfl (by simp) rfl (fun v w h => intV_num h)) (fun _ _ => trivial) (newik_ne rfl)
  intro L vs w21 nb hL hC hn E21
  have e1 : vs 1 = cloV 72 (nb 1) := hn _ (List.mem_iff_getElem?.2 ⟨0, rfl⟩)
  have E : Fr w [(nb 1, 2, Fq.num (m2 / (Int.gcd m1 m2 : Int))), (b18_7, 2, Fq.num (m2 / (Int.gcd m1 m2 : Int))), (b18_8, 2, Fq.num (m2 % (Int.gcd m1 m2 : Int))), (b14_9, 2, Fq.num ((((r2 - r1) / (Int.gcd m1 m2 : Int)) * bezU m1 m2) % (m2 / (Int.gcd m1 m2 : Int)))), (b14_10, 2, Fq.num ((r2 - r1) % (Int.gcd m1 m2 : Int))), (b10_7, 2, Fq.num (Int.gcd m1 m2 : Int)), (b10_8, 2, Fq.num (bezU m1 m2)), (b10_9, 2, Fq.num (bezV m1 m2)), (b6, 2, Fq.num 0), (b5, 2, Fq.num 0), (b4, 2, Fq.num m2), (b3, 2, Fq.num r2), (b2, 2, Fq.num m1), (b1, 2, Fq.num r1)] w21 := E21
  rw [lay_all hL]
  simp only [putAll, dstOf, List.length_cons, List.length_nil, Nat.zero_add, Nat.reduceAdd, List.getElem?_toArray, List.getElem?_cons_zero, List.getElem?_cons_succ, Option.bind_some, Act.put, List.setIfInBounds_toArray, List.set_cons_succ, List.set_cons_zero]
  rw [e1]
  generalize nb 1 = b21_1 at E ⊢
  generalize vs 0 = u21_0
  generalize vs 2 = u21_2
  generalize vs 3 = u21_3
  generalize vs 4 = u21_4
  generalize vs 5 = u21_5
  clear e1 hC hn E21 hL vs L nb
  go_upto_region 9 with (fail)
  have B22 : Hid (ab ((m1 * (m2 / (Int.gcd m1 m2 : Int)))) < pw 201) := ab_mulM hb.out B16.out (by omega)
  refine region_fr (C := [Fq.num m1, Fq.num (m2 / (Int.gcd m1 m2 : Int)), Fq.num (m1 * (m2 / (Int.gcd m1 m2 : Int))), Fq.any, Fq.any]) (ks := [none, none, none, none, none, none, none, none, none, none, none, none, none, none]) (new := [⟨3, 4, 2, Fq.num 0, Fq.num (m1 * (m2 / (Int.gcd m1 m2 : Int))), none⟩]) E rfl (by kernel_rfl) rfl rfl (fun hp => ⟨?_, ?_, ?_, ?_, ?_, trivial⟩) ?_
  · exact q_loadInt (off := 0) hp (free_of rfl) trivial (List.mem_iff_getElem?.2 ⟨12, rfl⟩) (.inl rfl) (Nat.le_of_ble_eq_true rfl) (sq_out rfl rfl (fun _ _ => rfl)) (fun us w hl h => ld_num hl h)
  · exact q_loadInt (off := 0) hp (free_of rfl) trivial (List.mem_iff_getElem?.2 ⟨1, rfl⟩) (.inl rfl) (Nat.le_of_ble_eq_true rfl) (sq_out rfl rfl (fun _ _ => rfl)) (fun us w hl h => ld_num hl h)
  · exact q_call2 (F := (Fq.num m1).P) (G := (Fq.num (m2 / (Int.gcd m1 m2 : Int))).P) hp (free_of rfl) trivial (enq_Mul) (sq_in 0 rfl rfl (by simp) rfl (fun v w h => h)) (sq_in 1 rfl rfl (by simp) rfl (fun v w h => h)) (fun v v' w h h' => exK (MulV h h') B22.out (by omega))
  · exact q_allocInt hp (List.mem_iff_getElem?.2 ⟨0, rfl⟩) rfl rfl rfl rfl (Nat.ne_of_beq_eq_false rfl) (fun _ _ => trivial) (old_ne rfl) (newk_ne rfl) (fun w => Num.zero w)
  · exact q_storeNewInt hp (List.mem_iff_getElem?.2 ⟨0, rfl⟩) rfl rfl rfl (own_ptr rfl rfl (by simp) rfl) (sq_in 2 rfl rfl (by simp) rfl (fun v w h => intV_num h)) (fun _ _ => trivial) (old_ne rfl) (newi_ne rfl)
  intro L vs w23 nb hL hC hn E23
  have e3 : vs 3 = .pointer (some ⟨nb 3, 0, none⟩) := hn _ (List.mem_iff_getElem?.2 ⟨0, rfl⟩)
  have E : Fr w [(nb 3, 2, Fq.num (m1 * (m2 / (Int.gcd m1 m2 : Int)))), (b21_1, 2, Fq.num (m2 / (Int.gcd m1 m2 : Int))), (b18_7, 2, Fq.num (m2 / (Int.gcd m1 m2 : Int))), (b18_8, 2, Fq.num (m2 % (Int.gcd m1 m2 : Int))), (b14_9, 2, Fq.num ((((r2 - r1) / (Int.gcd m1 m2 : Int)) * bezU m1 m2) % (m2 / (Int.gcd m1 m2 : Int)))), (b14_10, 2, Fq.num ((r2 - r1) % (Int.gcd m1 m2 : Int))), (b10_7, 2, Fq.num (Int.gcd m1 m2 : Int)), (b10_8, 2, Fq.num (bezU m1 m2)), (b10_9, 2, Fq.num (bezV m1 m2)), (b6, 2, Fq.num 0), (b5, 2, Fq.num 0), (b4, 2, Fq.num m2), (b3, 2, Fq.num r2), (b2, 2, Fq.num m1), (b1, 2, Fq.num r1)] w23 := E23
  rw [lay_all hL]
  simp only [putAll, dstOf, List.length_cons, List.length_nil, Nat.zero_add, Nat.reduceAdd, List.getElem?_toArray, List.getElem?_cons_zero, List.getElem?_cons_succ, Option.bind_some, Act.put, List.setIfInBounds_toArray, List.set_cons_succ, List.set_cons_zero]
  rw [e3]
  generalize nb 3 = b23_3 at E ⊢
  generalize vs 0 = u23_0
  generalize vs 1 = u23_1
  generalize vs 2 = u23_2
  clear e3 hC hn E23 hL vs L nb
  go_upto_region 10 with (fail)
  have B24 : Hid (ab ((m1 * ((((r2 - r1) / (Int.gcd m1 m2 : Int)) * bezU m1 m2) % (m2 / (Int.gcd m1 m2 : Int))))) < pw 201) := ab_mulM hb.out B20.out (by omega)
  have B25 : Hid (ab ((r1 + (m1 * ((((r2 - r1) / (Int.gcd m1 m2 : Int)) * bezU m1 m2) % (m2 / (Int.gcd m1 m2 : Int)))))) < pw 202) := ab_addB ha.out B24.out (by omega) (by omega)
  have B26 : Hid (ab (((r1 + (m1 * ((((r2 - r1) / (Int.gcd m1 m2 : Int)) * bezU m1 m2) % (m2 / (Int.gcd m1 m2 : Int))))) % (m1 * (m2 / (Int.gcd m1 m2 : Int))))) < pw 201) := ab_modB HR.out B22.out
  refine region_fr (C := [Fq.num (m1 * (m2 / (Int.gcd m1 m2 : Int))), Fq.any, Fq.num r1, Fq.num m1, Fq.num ((((r2 - r1) / (Int.gcd m1 m2 : Int)) * bezU m1 m2) % (m2 / (Int.gcd m1 m2 : Int))), Fq.num (m1 * ((((r2 - r1) / (Int.gcd m1 m2 : Int)) * bezU m1 m2) % (m2 / (Int.gcd m1 m2 : Int)))), Fq.num (r1 + (m1 * ((((r2 - r1) / (Int.gcd m1 m2 : Int)) * bezU m1 m2) % (m2 / (Int.gcd m1 m2 : Int))))), Fq.num ((r1 + (m1 * ((((r2 - r1) / (Int.gcd m1 m2 : Int)) * bezU m1 m2) % (m2 / (Int.gcd m1 m2 : Int))))) % (m1 * (m2 / (Int.gcd m1 m2 : Int)))), Fq.num (m1 * (m2 / (Int.gcd m1 m2 : Int))), Fq.any, Fq.any, Fq.is (.int .i64 0)]) (ks := [none, none, none, none, none, none, none, none, none, some (10, Fq.num (m1 * (m2 / (Int.gcd m1 m2 : Int)))), some (9, Fq.num ((r1 + (m1 * ((((r2 - r1) / (Int.gcd m1 m2 : Int)) * bezU m1 m2) % (m2 / (Int.gcd m1 m2 : Int))))) % (m1 * (m2 / (Int.gcd m1 m2 : Int))))), none, none, none, none]) (new := [⟨1, 1, 2, Fq.num (m1 * (m2 / (Int.gcd m1 m2 : Int))), Fq.num (m1 * (m2 / (Int.gcd m1 m2 : Int))), (some (.clo 72))⟩]) E rfl (by kernel_rfl) rfl rfl (fun hp => ⟨?_, ?_, ?_, ?_, ?_, ?_, ?_, ?_, ?_, ?_, ?_, ?_, trivial⟩) ?_
  · exact q_loadInt (off := 0) hp (free_of rfl) trivial (List.mem_iff_getElem?.2 ⟨0, rfl⟩) (.inl rfl) (Nat.le_of_ble_eq_true rfl) (sq_out rfl rfl (fun _ _ => rfl)) (fun us w hl h => ld_num hl h)
  · exact q_callMake (F := (Fq.num (m1 * (m2 / (Int.gcd m1 m2 : Int)))).P) hp enq_M_within (List.mem_iff_getElem?.2 ⟨0, rfl⟩) rfl rfl rfl (sq_in 0 rfl rfl (by simp) rfl (fun v w h => h)) (fun v w h => exWithin h) (fun _ _ => trivial) (old_ne rfl) (newks_ne rfl)
  · exact q_loadInt (off := 0) hp (free_of rfl) trivial (List.mem_iff_getElem?.2 ⟨14, rfl⟩) (.inl rfl) (Nat.le_of_ble_eq_true rfl) (sq_out rfl rfl (fun _ _ => rfl)) (fun us w hl h => ld_num hl h)
  · exact q_loadInt (off := 0) hp (free_of rfl) trivial (List.mem_iff_getElem?.2 ⟨13, rfl⟩) (.inl rfl) (Nat.le_of_ble_eq_true rfl) (sq_out rfl rfl (fun _ _ => rfl)) (fun us w hl h => ld_num hl h)
  · exact q_loadInt (off := 0) hp (free_of rfl) trivial (List.mem_iff_getElem?.2 ⟨4, rfl⟩) (.inl rfl) (Nat.le_of_ble_eq_true rfl) (sq_out rfl rfl (fun _ _ => rfl)) (fun us w hl h => ld_num hl h)
  · exact q_call2 (F := (Fq.num m1).P) (G := (Fq.num ((((r2 - r1) / (Int.gcd m1 m2 : Int)) * bezU m1 m2) % (m2 / (Int.gcd m1 m2 : Int)))).P) hp (free_of rfl) trivial (enq_Mul) (sq_in 3 rfl rfl (by simp) rfl (fun v w h => h)) (sq_in 4 rfl rfl (by simp) rfl (fun v w h => h)) (fun v v' w h h' => exK (MulV h h') B24.out (by omega))
  · exact q_call2 (F := (Fq.num r1).P) (G := (Fq.num (m1 * ((((r2 - r1) / (Int.gcd m1 m2 : Int)) * bezU m1 m2) % (m2 / (Int.gcd m1 m2 : Int))))).P) hp (free_of rfl) trivial (enq_Add) (sq_in 2 rfl rfl (by simp) rfl (fun v w h => h)) (sq_in 5 rfl rfl (by simp) rfl (fun v w h => h)) (fun v v' w h h' => exK (AddV h h') B25.out (by omega))
  · exact q_callCloIn (F := (Fq.num (r1 + (m1 * ((((r2 - r1) / (Int.gcd m1 m2 : Int)) * bezU m1 m2) % (m2 / (Int.gcd m1 m2 : Int)))))).P) hp (free_of rfl) trivial enq_M_within1 (List.mem_iff_getElem?.2 ⟨0, rfl⟩) rfl (own_ptr rfl rfl (by simp) rfl) (sq_in 6 rfl rfl (by simp) rfl (fun v w h => h)) (fun v b w h hb => exResidue h hb HR.out (Int.lt_of_lt_of_le B25.out (pw_le (by omega))) (Int.lt_of_lt_of_le B22.out (pw_le (by omega))))
  · exact q_loadInt (off := 0) hp (free_of rfl) trivial (List.mem_iff_getElem?.2 ⟨0, rfl⟩) (.inl rfl) (Nat.le_of_ble_eq_true rfl) (sq_out rfl rfl (fun _ _ => rfl)) (fun us w hl h => ld_num hl h)
  · exact q_storeOldInt hp (List.mem_iff_getElem?.2 ⟨10, rfl⟩) rfl rfl (sq_out rfl rfl (fun _ _ => rfl)) (sq_in 7 rfl rfl (by simp) rfl (fun v w h => intV_num h)) (fun _ _ => trivial) (newik_ne rfl)
  · exact q_storeOldInt hp (List.mem_iff_getElem?.2 ⟨9, rfl⟩) rfl rfl (sq_out rfl rfl (fun _ _ => rfl)) (sq_in 8 rfl rfl (by simp) rfl (fun v w h => intV_num h)) (fun _ _ => trivial) (newik_ne rfl)
  · exact q_assign hp (free_of rfl) trivial (sq_const (fun _ => rfl))
  intro L vs w27 nb hL hC hn E27
  have e11 : vs 11 = .int .i64 0 := hC 11 (by simp)
  have e1 : vs 1 = cloV 72 (nb 1) := hn _ (List.mem_iff_getElem?.2 ⟨0, rfl⟩)
  have E : Fr w [(nb 1, 2, Fq.num (m1 * (m2 / (Int.gcd m1 m2 : Int)))), (b23_3, 2, Fq.num (m1 * (m2 / (Int.gcd m1 m2 : Int)))), (b21_1, 2, Fq.num (m2 / (Int.gcd m1 m2 : Int))), (b18_7, 2, Fq.num (m2 / (Int.gcd m1 m2 : Int))), (b18_8, 2, Fq.num (m2 % (Int.gcd m1 m2 : Int))), (b14_9, 2, Fq.num ((((r2 - r1) / (Int.gcd m1 m2 : Int)) * bezU m1 m2) % (m2 / (Int.gcd m1 m2 : Int)))), (b14_10, 2, Fq.num ((r2 - r1) % (Int.gcd m1 m2 : Int))), (b10_7, 2, Fq.num (Int.gcd m1 m2 : Int)), (b10_8, 2, Fq.num (bezU m1 m2)), (b10_9, 2, Fq.num (bezV m1 m2)), (b6, 2, Fq.num (m1 * (m2 / (Int.gcd m1 m2 : Int)))), (b5, 2, Fq.num ((r1 + (m1 * ((((r2 - r1) / (Int.gcd m1 m2 : Int)) * bezU m1 m2) % (m2 / (Int.gcd m1 m2 : Int))))) % (m1 * (m2 / (Int.gcd m1 m2 : Int))))), (b4, 2, Fq.num m2), (b3, 2, Fq.num r2), (b2, 2, Fq.num m1), (b1, 2, Fq.num r1)] w27 := E27
  rw [lay_all hL]
  simp only [putAll, dstOf, List.length_cons, List.length_nil, Nat.zero_add, Nat.reduceAdd, List.getElem?_toArray, List.getElem?_cons_zero, List.getElem?_cons_succ, Option.bind_some, Act.put, List.setIfInBounds_toArray, List.set_cons_succ, List.set_cons_zero]
  rw [e11, e1]
  generalize nb 1 = b27_1 at E ⊢
  generalize vs 0 = u27_0
  generalize vs 2 = u27_2
  generalize vs 3 = u27_3
  generalize vs 4 = u27_4
  generalize vs 5 = u27_5
  generalize vs 6 = u27_6
  generalize vs 7 = u27_7
  generalize vs 8 = u27_8
  clear e11 e1 hC hn E27 hL vs L nb
  clear HP HG HQ HR
  obtain ⟨p0, p1, c0, c1, hP⟩ := box_num (E.box 11 rfl)
  obtain ⟨q0, q1, d0, d1, hQ⟩ := box_num (E.box 10 rfl)
  clear B8 B9 B11 B12 B13 B16 B17 B19 B20 B22 B24 B25 B26 ha hb hc hd
  go_wp2
  refine bodyPost_ret (v := .tuple #[.agg #[p0, p1], .agg #[q0, q1], .int .i64 0]) ?_ rfl ⟨_, rfl, E.below, ⟨_, _, _, rfl, hP, hQ, rfl⟩⟩
  simp [results, Tryd.results31, go_sem, c0, c1, d0, d1]

set_option maxRecDepth 100000 in
set_option maxHeartbeats 4000000 in
theorem exCrtN {w : World} {v v' u u' : Value} {r1 m1 r2 m2 : Int} (h : Num w v r1) (h' : Num w v' m1) (g : Num w u r2) (g' : Num w u' m2) (ha : ab r1 < pw 100) (hb : ab m1 < pw 100) (hc : ab r2 < pw 100) (hd : ab m2 < pw 100) (h1 : 0 < m1) (h2 : 0 < m2) (hz : (r2 - r1) % (Int.gcd m1 m2 : Int) ≠ 0) :
    Calls Tryd.prog 31 #[v, v', u, u'] w fun e w' => ∃ v', e = .returned v' ∧ Below w.heap.size w w' ∧ (Fq.tup3 (Fq.num 0) (Fq.num 0) (Fq.is (.int .i64 6))).P v' w' := by
  replace ha := hidd ha
  replace hb := hidd hb
  replace hc := hidd hc
  replace hd := hidd hd
  obtain ⟨n0, ao0, k0, c0, rfl⟩ := h.parts
  obtain ⟨n1, ao1, k1, c1, rfl⟩ := h'.parts
  obtain ⟨n2, ao2, k2, c2, rfl⟩ := g.parts
  obtain ⟨n3, ao3, k3, c3, rfl⟩ := g'.parts
  obtain ⟨w1, b1, hw1, hb1, hs1, E⟩ := fr_start w (F := Fq.num r1) (us := [.bool n0, .slice ao0 k0 c0]) 29 rfl (by simp) (tame_int _ _ _ _) h
  obtain ⟨w2, b2, hw2, hb2, hs2, E⟩ := fr_more E hs1 (F := Fq.num m1) (us := [.bool n1, .slice ao1 k1 c1]) 29 rfl (by simp) (tame_int _ _ _ _) (h'.mono E.below)
  obtain ⟨w3, b3, hw3, hb3, hs3, E⟩ := fr_more E hs2 (F := Fq.num r2) (us := [.bool n2, .slice ao2 k2 c2]) 29 rfl (by simp) (tame_int _ _ _ _) (g.mono E.below)
  obtain ⟨w4, b4, hw4, hb4, hs4, E⟩ := fr_more E hs3 (F := Fq.num m2) (us := [.bool n3, .slice ao3 k3 c3]) 29 rfl (by simp) (tame_int _ _ _ _) (g'.mono E.below)
  obtain ⟨w5, b5, hw5, hb5, hs5, E⟩ := fr_more E hs4 (F := Fq.num 0) (us := [.bool false, .slice none 0 0]) 29 rfl (by simp) (tame_int _ _ _ _) (Num.zero _)
  obtain ⟨w6, b6, hw6, hb6, hs6, E⟩ := fr_more E hs5 (F := Fq.num 0) (us := [.bool false, .slice none 0 0]) 29 rfl (by simp) (tame_int _ _ _ _) (Num.zero _)
  go_enter Tryd.func31, Tryd.ntmps31
  go_upto_region 1 with (fail)
  rw [← hw1]
  rw [← hw2]
  rw [← hw3]
  rw [← hw4]
  rw [← hw5]
  rw [← hw6]
  rw [← hb6]
  rw [← hb5]
  rw [← hb4]
  rw [← hb3]
  rw [← hb2]
  rw [← hb1]
  clear hw1 hw2 hw3 hw4 hw5 hw6 hb1 hb2 hb3 hb4 hb5 hb6 hs6 hs1 hs2 hs3 hs4 hs5
  have T1 : Hid (¬ cmpI m1 0 ≤ 0) := fun e => by have := cmpI_le0.1 e; omega
  have T2 : Hid (¬ cmpI m2 0 ≤ 0) := fun e => by have := cmpI_le0.1 e; omega
  have HP := hidd h2
  have HG : Hid ((Int.gcd m1 m2 : Int) ≠ 0) := by have := gcd_pos_r (a := m1) (show m2 ≠ 0 by omega); show _ ≠ _; omega
  have T3 : Hid (¬ cmpI ((r2 - r1) % (Int.gcd m1 m2 : Int)) 0 = 0) := fun e => hz (cmpIq0.1 e)
  have HQ : Hid (m2 / (Int.gcd m1 m2 : Int) ≠ 0) := by have := (crt_part (m1 := m1) h2).1; show _ ≠ _; omega
  have HR : Hid (m1 * (m2 / (Int.gcd m1 m2 : Int)) ≠ 0) := Int.mul_ne_zero (by omega) HQ.out
  clear h1 h2 hz
  refine region_fr (C := [Fq.num m1, Fq.is (.int .i64 (cmpI m1 0)), Fq.is (.bool false), Fq.is (.bool false), Fq.num m2, Fq.is (.int .i64 (cmpI m2 0)), Fq.is (.bool false), Fq.is (.bool false)]) (ks := [none, none, none, none, none, none]) (new := []) E rfl (by kernel_rfl) rfl rfl (fun hp => ⟨?_, ?_, ?_, ?_, ?_, ?_, ?_, ?_, trivial⟩) ?_
  · exact q_loadInt (off := 0) hp (free_of rfl) trivial (List.mem_iff_getElem?.2 ⟨4, rfl⟩) (.inl rfl) (Nat.le_of_ble_eq_true rfl) (sq_out rfl rfl (fun _ _ => rfl)) (fun us w hl h => ld_num hl h)
  · exact q_call1 (F := (Fq.num m1).P) hp (free_of rfl) trivial (enq_Sign) (sq_in 0 rfl rfl (by simp) rfl (fun v w h => h)) (fun v w h => exSign h)
  · exact q_one (F := fun v _ => v = .int .i64 (cmpI m1 0)) hp (free_of rfl) trivial (sq_in 1 rfl rfl (by simp) rfl (fun v w h => h)) (fun ρ w hc h => ⟨.bool false, by simp [execOp, go_sem, h, hc, T1.out], rfl⟩)
  · exact q_move hp (free_of rfl) trivial (sq_in 2 rfl rfl (by simp) rfl (fun v w h => h))
  · exact q_loadInt (off := 0) hp (free_of rfl) (gq_some rfl rfl (by simp) rfl (fun v w h => h)) (List.mem_iff_getElem?.2 ⟨2, rfl⟩) (.inl rfl) (Nat.le_of_ble_eq_true rfl) (sq_out rfl rfl (fun _ _ => rfl)) (fun us w hl h => ld_num hl h)
  · exact q_call1 (F := (Fq.num m2).P) hp (free_of rfl) (gq_some rfl rfl (by simp) rfl (fun v w h => h)) (enq_Sign) (sq_in 4 rfl rfl (by simp) rfl (fun v w h => h)) (fun v w h => exSign h)
  · exact q_one (F := fun v _ => v = .int .i64 (cmpI m2 0)) hp (free_of rfl) (gq_some rfl rfl (by simp) rfl (fun v w h => h)) (sq_in 5 rfl rfl (by simp) rfl (fun v w h => h)) (fun ρ w hc h => ⟨.bool false, by simp [execOp, go_sem, h, hc, T2.out], rfl⟩)
  · exact q_two (F := fun v _ => v = .bool false) (G := fun v _ => v = .bool false) hp (free_of rfl) trivial (sq_in 3 rfl rfl (by simp) rfl (fun v w h => h)) (sq_in 6 rfl rfl (by simp) rfl (fun v w h => h)) (fun ρ w hc h h' => ⟨_, by simp [execOp, go_sem, h, h'], rfl⟩)
  intro L vs w7 nb hL hC hn E7
  have e1 : vs 1 = .int .i64 (cmpI m1 0) := hC 1 (by simp)
  have e2 : vs 2 = .bool false := hC 2 (by simp)
  have e3 : vs 3 = .bool false := hC 3 (by simp)
  have e5 : vs 5 = .int .i64 (cmpI m2 0) := hC 5 (by simp)
  have e6 : vs 6 = .bool false := hC 6 (by simp)
  have e7 : vs 7 = .bool false := hC 7 (by simp)
  have E : Fr w [(b6, 2, Fq.num 0), (b5, 2, Fq.num 0), (b4, 2, Fq.num m2), (b3, 2, Fq.num r2), (b2, 2, Fq.num m1), (b1, 2, Fq.num r1)] w7 := E7
  rw [lay_all hL]
  simp only [putAll, dstOf, List.length_cons, List.length_nil, Nat.zero_add, Nat.reduceAdd, List.getElem?_toArray, List.getElem?_cons_zero, List.getElem?_cons_succ, Option.bind_some, Act.put, List.setIfInBounds_toArray, List.set_cons_succ, List.set_cons_zero]
  rw [e1, e2, e3, e5, e6, e7]
  generalize vs 0 = u7_0
  generalize vs 4 = u7_4
  clear e1 e2 e3 e5 e6 e7 hC hn E7 hL vs L nb
  clear T1 T2
  go_upto_region 3 with (fail)
  have B8 : Hid (ab ((Int.gcd m1 m2 : Int)) < pw 100) := ab_gcdB hb.out hd.out (by omega) (by omega)
  have B9 : Hid (ab (bezU m1 m2) < pw 100) := bezU_ab HP.out hd.out
  refine region_fr (C := [Fq.num m1, Fq.num m2, Fq.tup3 (Fq.num (Int.gcd m1 m2 : Int)) (Fq.num (bezU m1 m2)) (Fq.num (bezV m1 m2)), Fq.tup3 (Fq.num (Int.gcd m1 m2 : Int)) (Fq.num (bezU m1 m2)) (Fq.num (bezV m1 m2)), Fq.num (Int.gcd m1 m2 : Int), Fq.num (bezU m1 m2), Fq.num (bezV m1 m2), Fq.any, Fq.any, Fq.any, Fq.any, Fq.any, Fq.any]) (ks := [none, none, none, none, none, none]) (new := [⟨7, 10, 2, Fq.num 0, Fq.num (Int.gcd m1 m2 : Int), none⟩, ⟨8, 11, 2, Fq.num 0, Fq.num (bezU m1 m2), none⟩, ⟨9, 12, 2, Fq.num 0, Fq.num (bezV m1 m2), none⟩]) E rfl (by kernel_rfl) rfl rfl (fun hp => ⟨?_, ?_, ?_, ?_, ?_, ?_, ?_, ?_, ?_, ?_, ?_, ?_, ?_, trivial⟩) ?_
  · exact q_loadInt (off := 0) hp (free_of rfl) trivial (List.mem_iff_getElem?.2 ⟨4, rfl⟩) (.inl rfl) (Nat.le_of_ble_eq_true rfl) (sq_out rfl rfl (fun _ _ => rfl)) (fun us w hl h => ld_num hl h)
  · exact q_loadInt (off := 0) hp (free_of rfl) trivial (List.mem_iff_getElem?.2 ⟨2, rfl⟩) (.inl rfl) (Nat.le_of_ble_eq_true rfl) (sq_out rfl rfl (fun _ _ => rfl)) (fun us w hl h => ld_num hl h)
  · exact q_call2 (F := (Fq.num m1).P) (G := (Fq.num m2).P) hp (free_of rfl) trivial (enq_Bezout) (sq_in 0 rfl rfl (by simp) rfl (fun v w h => h)) (sq_in 1 rfl rfl (by simp) rfl (fun v w h => h)) (fun v v' w h h' => exBezout h h' (Int.lt_of_lt_of_le hb.out (pw_le (by omega))) (Int.lt_of_lt_of_le hd.out (pw_le (by omega))) HP.out)
  · exact q_move hp (free_of rfl) trivial (sq_in 2 rfl rfl (by simp) rfl (fun v w h => h))
  · exact q_extract3 hp (free_of rfl) trivial (sq_in 3 rfl rfl (by simp) rfl (fun v w h => h)) (fun v1 v2 v3 w h1 h2 h3 => ⟨_, rfl, h1⟩)
  · exact q_extract3 hp (free_of rfl) trivial (sq_in 3 rfl rfl (by simp) rfl (fun v w h => h)) (fun v1 v2 v3 w h1 h2 h3 => ⟨_, rfl, h2⟩)
  · exact q_extract3 hp (free_of rfl) trivial (sq_in 3 rfl rfl (by simp) rfl (fun v w h => h)) (fun v1 v2 v3 w h1 h2 h3 => ⟨_, rfl, h3⟩)
  · exact q_allocInt hp (List.mem_iff_getElem?.2 ⟨0, rfl⟩) rfl rfl rfl rfl (Nat.ne_of_beq_eq_false rfl) (fun _ _ => trivial) (old_ne rfl) (newk_ne rfl) (fun w => Num.zero w)
  · exact q_allocInt hp (List.mem_iff_getElem?.2 ⟨1, rfl⟩) rfl rfl rfl rfl (Nat.ne_of_beq_eq_false rfl) (fun _ _ => trivial) (old_ne rfl) (newk_ne rfl) (fun w => Num.zero w)
  · exact q_allocInt hp (List.mem_iff_getElem?.2 ⟨2, rfl⟩) rfl rfl rfl rfl (Nat.ne_of_beq_eq_false rfl) (fun _ _ => trivial) (old_ne rfl) (newk_ne rfl) (fun w => Num.zero w)
  · exact q_storeNewInt hp (List.mem_iff_getElem?.2 ⟨0, rfl⟩) rfl rfl rfl (own_ptr rfl rfl (by simp) rfl) (sq_in 4 rfl rfl (by simp) rfl (fun v w h => intV_num h)) (fun _ _ => trivial) (old_ne rfl) (newi_ne rfl)
  · exact q_storeNewInt hp (List.mem_iff_getElem?.2 ⟨1, rfl⟩) rfl rfl rfl (own_ptr rfl rfl (by simp) rfl) (sq_in 5 rfl rfl (by simp) rfl (fun v w h => intV_num h)) (fun _ _ => trivial) (old_ne rfl) (newi_ne rfl)
  · exact q_storeNewInt hp (List.mem_iff_getElem?.2 ⟨2, rfl⟩) rfl rfl rfl (own_ptr rfl rfl (by simp) rfl) (sq_in 6 rfl rfl (by simp) rfl (fun v w h => intV_num h)) (fun _ _ => trivial) (old_ne rfl) (newi_ne rfl)
  intro L vs w10 nb hL hC hn E10
  have e7 : vs 7 = .pointer (some ⟨nb 7, 0, none⟩) := hn _ (List.mem_iff_getElem?.2 ⟨0, rfl⟩)
  have e8 : vs 8 = .pointer (some ⟨nb 8, 0, none⟩) := hn _ (List.mem_iff_getElem?.2 ⟨1, rfl⟩)
  have e9 : vs 9 = .pointer (some ⟨nb 9, 0, none⟩) := hn _ (List.mem_iff_getElem?.2 ⟨2, rfl⟩)
  have E : Fr w [(nb 7, 2, Fq.num (Int.gcd m1 m2 : Int)), (nb 8, 2, Fq.num (bezU m1 m2)), (nb 9, 2, Fq.num (bezV m1 m2)), (b6, 2, Fq.num 0), (b5, 2, Fq.num 0), (b4, 2, Fq.num m2), (b3, 2, Fq.num r2), (b2, 2, Fq.num m1), (b1, 2, Fq.num r1)] w10 := E10
  rw [lay_all hL]
  simp only [putAll, dstOf, List.length_cons, List.length_nil, Nat.zero_add, Nat.reduceAdd, List.getElem?_toArray, List.getElem?_cons_zero, List.getElem?_cons_succ, Option.bind_some, Act.put, List.setIfInBounds_toArray, List.set_cons_succ, List.set_cons_zero]
  rw [e7, e8, e9]
  generalize nb 7 = b10_7 at E ⊢
  generalize nb 8 = b10_8 at E ⊢
  generalize nb 9 = b10_9 at E ⊢
  generalize vs 0 = u10_0
  generalize vs 1 = u10_1
  generalize vs 2 = u10_2
  generalize vs 3 = u10_3
  generalize vs 4 = u10_4
  generalize vs 5 = u10_5
  generalize vs 6 = u10_6
  clear e7 e8 e9 hC hn E10 hL vs L nb
  go_upto_region 4 with (fail)
  have B11 : Hid (ab ((r2 - r1)) < pw 101) := ab_subB hc.out ha.out (by omega) (by omega)
  have B12 : Hid (ab (((r2 - r1) / (Int.gcd m1 m2 : Int))) < pw 102) := ab_divB B11.out (by omega)
  have B13 : Hid (ab (((r2 - r1) % (Int.gcd m1 m2 : Int))) < pw 100) := ab_modB HG.out B8.out
  refine region_fr (C := [Fq.num r2, Fq.num r1, Fq.num (r2 - r1), Fq.num (Int.gcd m1 m2 : Int), Fq.tup3 (Fq.num ((r2 - r1) / (Int.gcd m1 m2 : Int))) (Fq.num ((r2 - r1) % (Int.gcd m1 m2 : Int))) (Fq.is (.int .i64 0)), Fq.tup3 (Fq.num ((r2 - r1) / (Int.gcd m1 m2 : Int))) (Fq.num ((r2 - r1) % (Int.gcd m1 m2 : Int))) (Fq.is (.int .i64 0)), Fq.num ((r2 - r1) / (Int.gcd m1 m2 : Int)), Fq.num ((r2 - r1) % (Int.gcd m1 m2 : Int)), Fq.is (.int .i64 0), Fq.any, Fq.any, Fq.any, Fq.any, Fq.is (.int .i64 0)]) (ks := [none, none, none, none, none, none, none, none, none]) (new := [⟨9, 11, 2, Fq.num 0, Fq.num ((r2 - r1) / (Int.gcd m1 m2 : Int)), none⟩, ⟨10, 12, 2, Fq.num 0, Fq.num ((r2 - r1) % (Int.gcd m1 m2 : Int)), none⟩]) E rfl (by kernel_rfl) rfl rfl (fun hp => ⟨?_, ?_, ?_, ?_, ?_, ?_, ?_, ?_, ?_, ?_, ?_, ?_, ?_, ?_, trivial⟩) ?_
  · exact q_loadInt (off := 0) hp (free_of rfl) trivial (List.mem_iff_getElem?.2 ⟨6, rfl⟩) (.inl rfl) (Nat.le_of_ble_eq_true rfl) (sq_out rfl rfl (fun _ _ => rfl)) (fun us w hl h => ld_num hl h)
  · exact q_loadInt (off := 0) hp (free_of rfl) trivial (List.mem_iff_getElem?.2 ⟨8, rfl⟩) (.inl rfl) (Nat.le_of_ble_eq_true rfl) (sq_out rfl rfl (fun _ _ => rfl)) (fun us w hl h => ld_num hl h)
  · exact q_call2 (F := (Fq.num r2).P) (G := (Fq.num r1).P) hp (free_of rfl) trivial (enq_Sub) (sq_in 0 rfl rfl (by simp) rfl (fun v w h => h)) (sq_in 1 rfl rfl (by simp) rfl (fun v w h => h)) (fun v v' w h h' => exK (SubV h h') B11.out (by omega))
  · exact q_loadInt (off := 0) hp (free_of rfl) trivial (List.mem_iff_getElem?.2 ⟨0, rfl⟩) (.inl rfl) (Nat.le_of_ble_eq_true rfl) (sq_out rfl rfl (fun _ _ => rfl)) (fun us w hl h => ld_num hl h)
  · exact q_call2 (F := (Fq.num (r2 - r1)).P) (G := (Fq.num (Int.gcd m1 m2 : Int)).P) hp (free_of rfl) trivial (enq_DivMod) (sq_in 2 rfl rfl (by simp) rfl (fun v w h => h)) (sq_in 3 rfl rfl (by simp) rfl (fun v w h => h)) (fun v v' w h h' => exDMq h h' HG.out B12.out B13.out (by omega) (by omega))
  · exact q_move hp (free_of rfl) trivial (sq_in 4 rfl rfl (by simp) rfl (fun v w h => h))
  · exact q_extract3 hp (free_of rfl) trivial (sq_in 5 rfl rfl (by simp) rfl (fun v w h => h)) (fun v1 v2 v3 w h1 h2 h3 => ⟨_, rfl, h1⟩)
  · exact q_extract3 hp (free_of rfl) trivial (sq_in 5 rfl rfl (by simp) rfl (fun v w h => h)) (fun v1 v2 v3 w h1 h2 h3 => ⟨_, rfl, h2⟩)
  · exact q_extract3 hp (free_of rfl) trivial (sq_in 5 rfl rfl (by simp) rfl (fun v w h => h)) (fun v1 v2 v3 w h1 h2 h3 => ⟨_, rfl, h3⟩)
  · exact q_allocInt hp (List.mem_iff_getElem?.2 ⟨0, rfl⟩) rfl rfl rfl rfl (Nat.ne_of_beq_eq_false rfl) (fun _ _ => trivial) (old_ne rfl) (newk_ne rfl) (fun w => Num.zero w)
  · exact q_allocInt hp (List.mem_iff_getElem?.2 ⟨1, rfl⟩) rfl rfl rfl rfl (Nat.ne_of_beq_eq_false rfl) (fun _ _ => trivial) (old_ne rfl) (newk_ne rfl) (fun w => Num.zero w)
  · exact q_storeNewInt hp (List.mem_iff_getElem?.2 ⟨0, rfl⟩) rfl rfl rfl (own_ptr rfl rfl (by simp) rfl) (sq_in 6 rfl rfl (by simp) rfl (fun v w h => intV_num h)) (fun _ _ => trivial) (old_ne rfl) (newi_ne rfl)
  · exact q_storeNewInt hp (List.mem_iff_getElem?.2 ⟨1, rfl⟩) rfl rfl rfl (own_ptr rfl rfl (by simp) rfl) (sq_in 7 rfl rfl (by simp) rfl (fun v w h => intV_num h)) (fun _ _ => trivial) (old_ne rfl) (newi_ne rfl)
  · exact q_assign hp (free_of rfl) trivial (sq_in 8 rfl rfl (by simp) rfl (fun v w h => h))
  intro L vs w14 nb hL hC hn E14
  have e8 : vs 8 = .int .i64 0 := hC 8 (by simp)
  have e13 : vs 13 = .int .i64 0 := hC 13 (by simp)
  have e9 : vs 9 = .pointer (some ⟨nb 9, 0, none⟩) := hn _ (List.mem_iff_getElem?.2 ⟨0, rfl⟩)
  have e10 : vs 10 = .pointer (some ⟨nb 10, 0, none⟩) := hn _ (List.mem_iff_getElem?.2 ⟨1, rfl⟩)
  have E : Fr w [(nb 9, 2, Fq.num ((r2 - r1) / (Int.gcd m1 m2 : Int))), (nb 10, 2, Fq.num ((r2 - r1) % (Int.gcd m1 m2 : Int))), (b10_7, 2, Fq.num (Int.gcd m1 m2 : Int)), (b10_8, 2, Fq.num (bezU m1 m2)), (b10_9, 2, Fq.num (bezV m1 m2)), (b6, 2, Fq.num 0), (b5, 2, Fq.num 0), (b4, 2, Fq.num m2), (b3, 2, Fq.num r2), (b2, 2, Fq.num m1), (b1, 2, Fq.num r1)] w14 := E14
  rw [lay_all hL]
  simp only [putAll, dstOf, List.length_cons, List.length_nil, Nat.zero_add, Nat.reduceAdd, List.getElem?_toArray, List.getElem?_cons_zero, List.getElem?_cons_succ, Option.bind_some, Act.put, List.setIfInBounds_toArray, List.set_cons_succ, List.set_cons_zero]
  rw [e8, e13, e9, e10]
  generalize nb 9 = b14_9 at E ⊢
  generalize nb 10 = b14_10 at E ⊢
  generalize vs 0 = u14_0
  generalize vs 1 = u14_1
  generalize vs 2 = u14_2
  generalize vs 3 = u14_3
  generalize vs 4 = u14_4
  generalize vs 5 = u14_5
  generalize vs 6 = u14_6
  generalize vs 7 = u14_7
  clear e8 e13 e9 e10 hC hn E14 hL vs L nb
  go_upto_region 5 with (fail)
  refine region_fr (C := [Fq.num ((r2 - r1) % (Int.gcd m1 m2 : Int)), Fq.is (.int .i64 (cmpI ((r2 - r1) % (Int.gcd m1 m2 : Int)) 0)), Fq.is (.bool true)]) (ks := [none, none, none, none, none, none, none, none, none, none, none]) (new := []) E rfl (by kernel_rfl) rfl rfl (fun hp => ⟨?_, ?_, ?_, trivial⟩) ?_
  · exact q_loadInt (off := 0) hp (free_of rfl) trivial (List.mem_iff_getElem?.2 ⟨1, rfl⟩) (.inl rfl) (Nat.le_of_ble_eq_true rfl) (sq_out rfl rfl (fun _ _ => rfl)) (fun us w hl h => ld_num hl h)
  · exact q_call1 (F := (Fq.num ((r2 - r1) % (Int.gcd m1 m2 : Int))).P) hp (free_of rfl) trivial (enq_Sign) (sq_in 0 rfl rfl (by simp) rfl (fun v w h => h)) (fun v w h => exSign h)
  · exact q_one (F := fun v _ => v = .int .i64 (cmpI ((r2 - r1) % (Int.gcd m1 m2 : Int)) 0)) hp (free_of rfl) trivial (sq_in 1 rfl rfl (by simp) rfl (fun v w h => h)) (fun ρ w hc h => ⟨.bool true, by simp [execOp, go_sem, h, hc, T3.out], rfl⟩)
  intro L vs w15 nb hL hC hn E15
  have e1 : vs 1 = .int .i64 (cmpI ((r2 - r1) % (Int.gcd m1 m2 : Int)) 0) := hC 1 (by simp)
  have e2 : vs 2 = .bool true := hC 2 (by simp)
  have E : Fr w [(b14_9, 2, Fq.num ((r2 - r1) / (Int.gcd m1 m2 : Int))), (b14_10, 2, Fq.num ((r2 - r1) % (Int.gcd m1 m2 : Int))), (b10_7, 2, Fq.num (Int.gcd m1 m2 : Int)), (b10_8, 2, Fq.num (bezU m1 m2)), (b10_9, 2, Fq.num (bezV m1 m2)), (b6, 2, Fq.num 0), (b5, 2, Fq.num 0), (b4, 2, Fq.num m2), (b3, 2, Fq.num r2), (b2, 2, Fq.num m1), (b1, 2, Fq.num r1)] w15 := E15
  rw [lay_all hL]
  simp only [putAll, dstOf, List.length_cons, List.length_nil, Nat.zero_add, Nat.reduceAdd, List.getElem?_toArray, List.getElem?_cons_zero, List.getElem?_cons_succ, Option.bind_some, Act.put, List.setIfInBounds_toArray, List.set_cons_succ, List.set_cons_zero]
  rw [e1, e2]
  generalize vs 0 = u15_0
  clear e1 e2 hC hn E15 hL vs L nb
  clear T3
  go_upto_region 6 with (fail)
  refine region_fr (C := [Fq.num 0, Fq.num 0, Fq.any, Fq.any, Fq.is (.int .i64 6)]) (ks := [none, none, none, none, none, some (3, Fq.num 0), some (2, Fq.num 0), none, none, none, none]) (new := []) E rfl (by kernel_rfl) rfl rfl (fun hp => ⟨?_, ?_, ?_, ?_, ?_, trivial⟩) ?_
  · exact q_zeroInt hp (free_of rfl) trivial (fun w => Num.zero w)
  · exact q_zeroInt hp (free_of rfl) trivial (fun w => Num.zero w)
  · exact q_storeOldInt hp (List.mem_iff_getElem?.2 ⟨6, rfl⟩) rfl rfl (sq_out rfl rfl (fun _ _ => rfl)) (sq_in 0 rfl rfl (by simp) rfl (fun v w h => intV_num h)) (fun _ _ => trivial) (newik_ne rfl)
  · exact q_storeOldInt hp (List.mem_iff_getElem?.2 ⟨5, rfl⟩) rfl rfl (sq_out rfl rfl (fun _ _ => rfl)) (sq_in 1 rfl rfl (by simp) rfl (fun v w h => intV_num h)) (fun _ _ => trivial) (newik_ne rfl)
  · exact q_assign hp (free_of rfl) trivial (sq_const (fun _ => rfl))
  intro L vs w16 nb hL hC hn E16
  have e4 : vs 4 = .int .i64 6 := hC 4 (by simp)
  have E : Fr w [(b14_9, 2, Fq.num ((r2 - r1) / (Int.gcd m1 m2 : Int))), (b14_10, 2, Fq.num ((r2 - r1) % (Int.gcd m1 m2 : Int))), (b10_7, 2, Fq.num (Int.gcd m1 m2 : Int)), (b10_8, 2, Fq.num (bezU m1 m2)), (b10_9, 2, Fq.num (bezV m1 m2)), (b6, 2, Fq.num 0), (b5, 2, Fq.num 0), (b4, 2, Fq.num m2), (b3, 2, Fq.num r2), (b2, 2, Fq.num m1), (b1, 2, Fq.num r1)] w16 := E16
  rw [lay_all hL]
  simp only [putAll, dstOf, List.length_cons, List.length_nil, Nat.zero_add, Nat.reduceAdd, List.getElem?_toArray, List.getElem?_cons_zero, List.getElem?_cons_succ, Option.bind_some, Act.put, List.setIfInBounds_toArray, List.set_cons_succ, List.set_cons_zero]
  rw [e4]
  generalize vs 0 = u16_0
  generalize vs 1 = u16_1
  clear e4 hC hn E16 hL vs L nb
  clear HP HG HQ HR
  obtain ⟨p0, p1, c0, c1, hP⟩ := box_num (E.box 6 rfl)
  obtain ⟨q0, q1, d0, d1, hQ⟩ := box_num (E.box 5 rfl)
  clear B8 B9 B11 B12 B13 ha hb hc hd
  go_wp2
  refine bodyPost_ret (v := .tuple #[.agg #[p0, p1], .agg #[q0, q1], .int .i64 6]) ?_ rfl ⟨_, rfl, E.below, ⟨_, _, _, rfl, hP, hQ, rfl⟩⟩
  simp [results, Tryd.results31, go_sem, c0, c1, d0, d1]

end Go.Proofs.YtieobgadihcgeaaDoor

/- Walks of the reference: Power. Walk of the reference: Pow. Walk of the reference: Sqrt. Walk of the reference: Root. -/
namespace Go.Proofs.YtieobgadihcgeaaDoor
open Go Go.RowKit

end Go.Proofs.YtieobgadihcgeaaDoor

namespace Go.Proofs.YtieobgadihcgeaaDoor
open Go Go.RowKit

theorem bits_uniq {v : Int} {m m' : Nat} (h : IsBits v m) (h' : IsBits v m') : m = m' := by
  rcases h with ⟨h1, h2⟩ | ⟨h1, h2, h3⟩ <;> rcases h' with ⟨h4, h5⟩ | ⟨h4, h5, h6⟩
  · omega
  · have := pow_two_pos (m' - 1); omega
  · have := pow_two_pos (m - 1); omega
  · rcases Nat.lt_trichotomy m m' with h | h | h
    · have := two_pow_le (show m ≤ m' - 1 by omega); omega
    · exact h
    · have := two_pow_le (show m' ≤ m - 1 by omega); omega

end Go.Proofs.YtieobgadihcgeaaDoor

namespace Go.Proofs.YtieobgadihcgeaaDoor
open Go Go.RowKit

end Go.Proofs.YtieobgadihcgeaaDoor

namespace Go.Proofs.YtieobgadihcgeaaDoor
open Go Go.RowKit

theorem exRCmp' {w : World} {v v' : Value} {z z' : Int} (h : Num w v z) (h' : Num w v' z') : Calls Tryd.prog 61 #[v, v'] w fun e w' => ∃ v', e = .returned v' ∧ Below w.heap.size w w' ∧ v' = .int .i64 (cmpI z z') :=
  (RCmpV h h').mono fun _ _ hh => ⟨_, hh.1, hh.2, rfl⟩

end Go.Proofs.YtieobgadihcgeaaDoor

/- Walk: a binary digit of a number; how many there are. -/
namespace Go.Proofs.YtieobgadihcgeaaDoor
open Go Go.RowKit

/-- A binary digit of a size lies in its word. -/
theorem bit_of_val {xs : List Int} (hd : Digs xs) {k r : Nat} (hk : k < xs.length) (hr : r < 32) : (val xs / 2 ^ (32 * k + r)) % 2 = (xs.getD k 0 / 2 ^ r) % 2 := by
  have h1 := val_split xs (k := k) (by omega)
  have h2 := val_drop_step xs hk
  have h3 := val_lt (hd.take k)
  have h4 := val_nonneg (hd.take k)
  rw [List.length_take, Nat.min_eq_left (by omega)] at h3
  rw [Int.pow_add, ← pw_two, ← Int.ediv_ediv_of_nonneg (by have := pw_pos k; omega)]
  have e1 : val xs / pw k = xs.getD k 0 + 4294967296 * val (xs.drop (k + 1)) := by
    rw [h1, Int.add_mul_ediv_left _ _ (by have := pw_pos k; omega), Int.ediv_eq_zero_of_lt h4 h3, Int.zero_add, h2]
  rw [e1]
  have e2 : (4294967296 : Int) = 2 ^ r * 2 ^ (32 - r) := by rw [← Int.pow_add, show r + (32 - r) = 32 by omega]; rfl
  obtain ⟨m, hm⟩ : ∃ m, 32 - r = m + 1 := ⟨31 - r, by omega⟩
  rw [e2, hm, Int.mul_assoc, Int.add_mul_ediv_left _ _ (by have := pow_two_pos r; omega), pow_two_succ, Int.mul_assoc, Int.mul_left_comm, Int.add_mul_emod_self_left]

theorem and_one (x : Int) (h0 : 0 ≤ x) (h1 : x < 4294967296) : bits .and .u32 x 1 = x % 2 := by
  obtain ⟨n, rfl⟩ := Int.eq_ofNat_of_zero_le h0
  have hn : n < 4294967296 := by omega
  have h2 : (BitVec.ofInt 32 ((n : Nat) : Int)).toNat = n := by rw [BitVec.ofInt_natCast, BitVec.toNat_ofNat]; exact Nat.mod_eq_of_lt (by omega)
  show IntKind.u32.wrap (((BitVec.ofInt 32 (n : Int)) &&& (BitVec.ofInt 32 1)).toNat : Int) = _
  rw [BitVec.toNat_and, h2]
  have h3 : (BitVec.ofInt 32 1).toNat = 1 := rfl
  rw [h3, Nat.and_one_is_mod]
  simp only [IntKind.wrap, IntKind.bits, IntKind.signed]
  simp
  omega

set_option maxRecDepth 20000 in
set_option maxHeartbeats 1000000 in
theorem bit_any (w : World) (na : Bool) (ax : Option Addr) (n cx : Nat) (xs : List Int) (hX : Sl w ax n cx xs) (hb1 : n ≤ 1000000) (i : Nat) (hi : i < 32 * n) :
    Calls Tryd.prog 71 #[.agg #[.bool na, .slice ax n cx], .int .i64 (i : Int)] w fun e w' => e = .returned (.bool (decide ((val xs / 2 ^ i) % 2 = 1))) ∧ Below w.heap.size w w' := by
  have hX0 := hX.mono (alloc_below w (.cells #[.bool na, .slice ax n cx] 29))
  have hk : i / 32 < n := by omega
  obtain ⟨b, off, rfl, hbl, x, hxc, hx0, hx1, HX⟩ := hX0.cells.at (k := i / 32) (by rw [hX.len]; exact hk)
  have hB := bit_of_val hX.digs (k := i / 32) (r := i % 32) (by rw [hX.len]; exact hk) (by omega)
  rw [HX.out, show 32 * (i / 32) + i % 32 = i by omega] at hB
  rw [hB]
  have e3 : 0 ≤ x / 2 ^ (i % 32) ∧ x / 2 ^ (i % 32) < 4294967296 := by
    have h := Int.ediv_nonneg hx0 (show (0 : Int) ≤ 2 ^ (i % 32) by have := pow_two_pos (i % 32); omega)
    have h2 := Int.ediv_le_self (a := x) (2 ^ (i % 32)) hx0
    omega
  have e4 := and_one _ e3.1 e3.2
  have g1 : (0 : Int) ≤ (i : Int) / 32 ∧ (i : Int) / 32 < n := by omega
  have g2 : (0 : Int) ≤ (i : Int) % 32 := by omega
  have HB := hidd hB
  clear hB
  go_enter Tryd.func71, Tryd.ntmps71
  go_wp2
  go_ret
  refine ⟨?_, alloc_below _ _⟩
  by_cases h : x / 2 ^ (i % 32) % 2 = 1 <;> simp [h]

/-- How many binary digits a number has. -/
def nbits (z : Int) : Nat := if z = 0 then 0 else z.natAbs.log2 + 1
theorem nbits_isBits (z : Int) : IsBits (ab z) (nbits z) := by
  unfold nbits IsBits ab
  by_cases h : z = 0
  · rw [if_pos h, h]; exact .inl ⟨rfl, rfl⟩
  · rw [if_neg h]
    right
    have h0 : z.natAbs ≠ 0 := by omega
    have h1 := Nat.log2_self_le h0
    have h2 := Nat.lt_log2_self (n := z.natAbs)
    refine ⟨by omega, ?_, ?_⟩
    · rw [show z.natAbs.log2 + 1 - 1 = z.natAbs.log2 by omega]
      exact_mod_cast h1
    · exact_mod_cast h2
theorem nbits_le {z : Int} {k : Nat} (h : ab z < pw k) : nbits z ≤ 32 * k := by
  rcases nbits_isBits z with ⟨_, h2⟩ | ⟨h1, h2, _⟩
  · omega
  · rw [pw_two] at h
    by_cases hc : nbits z ≤ 32 * k
    · exact hc
    · exfalso
      have h3 : (2 : Int) ^ (32 * k) ≤ 2 ^ (nbits z - 1) := two_pow_le (by omega)
      omega
theorem nbits_top {z : Int} : z.natAbs / 2 ^ nbits z = 0 := by
  rcases nbits_isBits z with ⟨h1, _⟩ | ⟨_, _, h3⟩
  · unfold ab at h1
    have : z.natAbs = 0 := by omega
    rw [this]; simp
  · unfold ab at h3
    refine Nat.div_eq_of_lt ?_
    exact_mod_cast h3

theorem exBits {w : World} {v : Value} {z : Int} (h : Num w v z) : Calls Tryd.prog 70 #[v] w fun e w' => ∃ v', e = .returned v' ∧ Below w.heap.size w w' ∧ v' = .int .i64 ((nbits z : Nat) : Int) := by
  obtain ⟨neg, ao, n, c, xs, rfl, hs, hn, rfl, hc, _⟩ := h
  refine (Bits_any _ _ _ _ _ _ hs (by omega)).mono fun e w' hh => ?_
  obtain ⟨m, rfl, hm, _, hb⟩ := hh
  refine ⟨_, rfl, hb, ?_⟩
  have h2 := nbits_isBits (sgn neg (val xs))
  rw [ab_sgn, ab_of (val_nonneg hs.digs)] at h2
  rw [bits_uniq hm h2]
theorem exBit {w : World} {v : Value} {z : Int} {i : Nat} {t : Bool} (h : Num w v z) (hi : i < nbits z) (ht : decide (z.natAbs / 2 ^ i % 2 = 1) = t) : Calls Tryd.prog 71 #[v, .int .i64 (i : Int)] w fun e w' => ∃ v', e = .returned v' ∧ Below w.heap.size w w' ∧ v' = .bool t := by
  obtain ⟨neg, ao, n, c, xs, rfl, hs, hn, hz, hc, _⟩ := h
  have h1 : ab z = val xs := by rw [hz, ab_sgn, ab_of (val_nonneg hs.digs)]
  have h2 : ab z < pw n := by rw [h1]; have := val_lt hs.digs; rwa [hs.len] at this
  refine (bit_any _ _ _ _ _ _ hs (by omega) i (by have := nbits_le h2; omega)).mono fun e w' hh => ?_
  refine ⟨_, hh.1, hh.2, ?_⟩
  rw [← ht, ← h1]
  congr 2
  unfold ab
  refine propext ⟨fun h => ?_, fun h => ?_⟩
  · have : (((z.natAbs / 2 ^ i % 2 : Nat)) : Int) = 1 := by simpa using h
    exact_mod_cast this
  · have : (((z.natAbs / 2 ^ i % 2 : Nat)) : Int) = 1 := by exact_mod_cast h
    simpa using this

theorem measP {i : Nat} : (intOf (.int .i64 ((i : Int) - 1)) + 1).toNat < (intOf (.int .i64 (i : Int)) + 1).toNat := by simp [intOf]
theorem pow_mod_mul (p m : Int) : ((p % m) * (p % m)) % m = (p * p) % m := by rw [← Int.mul_emod]
/-- A step of the power. -/
theorem pow_step {B m : Int} {N i : Nat} {z : Int} (hz : z = B ^ (N / 2 ^ (i + 1)) % m) :
    (N / 2 ^ i % 2 = 1 → (((z * z) % m) * B) % m = B ^ (N / 2 ^ i) % m) ∧ (¬ N / 2 ^ i % 2 = 1 → (z * z) % m = B ^ (N / 2 ^ i) % m) := by
  have e1 : N / 2 ^ (i + 1) = N / 2 ^ i / 2 := by rw [Nat.pow_succ, Nat.div_div_eq_div_mul]
  generalize N / 2 ^ i = q at *
  rw [e1] at hz
  have e2 : (z * z) % m = B ^ (q / 2 + q / 2) % m := by rw [hz, pow_mod_mul, Int.pow_add]
  constructor
  · intro h
    have e3 : q = q / 2 + q / 2 + 1 := by omega
    rw [e2]
    conv => rhs; rw [e3, Int.pow_succ]
    rw [Int.mul_emod, Int.emod_emod_of_dvd _ (Int.dvd_refl _), ← Int.mul_emod]
  · intro h
    have e3 : q = q / 2 + q / 2 := by omega
    rw [e2]
    conv => rhs; rw [e3]

end Go.Proofs.YtieobgadihcgeaaDoor

/- Walk: powers modulo a number. -/
namespace Go.Proofs.YtieobgadihcgeaaDoor
open Go Go.RowKit

/-- The power modulo m, of the residue or of its inverse. -/
noncomputable def powM (a n m : Int) : Int := (if 0 ≤ n then a % m else bezU (a % m) m) ^ n.natAbs % m

set_option maxRecDepth 100000 in
set_option maxHeartbeats 4000000 in
theorem exPowP {w : World} {v v' u : Value} {a n m : Int} (h : Num w v a) (h' : Num w v' n) (g : Num w u m) (ha : ab a < pw 100) (hn : ab n < pw 100) (hm : ab m < pw 100) (h0 : 0 < m) (h1 : 0 ≤ n) :
    Calls Tryd.prog 46 #[v, v', u] w fun e w' => ∃ v', e = .returned v' ∧ Below w.heap.size w w' ∧ (Fq.tup2 (Fq.num (powM a n m)) (Fq.is (.int .i64 0))).P v' w' := by
  replace ha := hidd ha
  replace hn := hidd hn
  replace hm := hidd hm
  obtain ⟨n0, ao0, k0, c0, rfl⟩ := h.parts
  obtain ⟨n1, ao1, k1, c1, rfl⟩ := h'.parts
  obtain ⟨n2, ao2, k2, c2, rfl⟩ := g.parts
  obtain ⟨w1, b1, hw1, hb1, hs1, E⟩ := fr_start w (F := Fq.num a) (us := [.bool n0, .slice ao0 k0 c0]) 29 rfl (by simp) (tame_int _ _ _ _) h
  obtain ⟨w2, b2, hw2, hb2, hs2, E⟩ := fr_more E hs1 (F := Fq.num n) (us := [.bool n1, .slice ao1 k1 c1]) 29 rfl (by simp) (tame_int _ _ _ _) (h'.mono E.below)
  obtain ⟨w3, b3, hw3, hb3, hs3, E⟩ := fr_more E hs2 (F := Fq.num m) (us := [.bool n2, .slice ao2 k2 c2]) 29 rfl (by simp) (tame_int _ _ _ _) (g.mono E.below)
  obtain ⟨w4, b4, hw4, hb4, hs4, E⟩ := fr_more E hs3 (F := Fq.num 0) (us := [.bool false, .slice none 0 0]) 29 rfl (by simp) (tame_int _ _ _ _) (Num.zero _)
  go_enter Tryd.func46, Tryd.ntmps46
  go_upto_region 1 with (fail)
  rw [← hw1]
  rw [← hw2]
  rw [← hw3]
  rw [← hw4]
  rw [← hb4]
  rw [← hb3]
  rw [← hb2]
  rw [← hb1]
  clear hw1 hw2 hw3 hw4 hb1 hb2 hb3 hb4 hs4 hs1 hs2 hs3
  have T1 : Hid (¬ cmpI m 0 ≤ 0) := fun e => by have := cmpI_le0.1 e; omega
  have HM : Hid (m ≠ 0) := by show _ ≠ _; omega
  have HP := hidd h0
  clear h0
  refine region_fr (C := [Fq.num m, Fq.is (.int .i64 (cmpI m 0)), Fq.is (.bool false)]) (ks := [none, none, none, none]) (new := []) E rfl (by kernel_rfl) rfl rfl (fun hp => ⟨?_, ?_, ?_, trivial⟩) ?_
  · exact q_loadInt (off := 0) hp (free_of rfl) trivial (List.mem_iff_getElem?.2 ⟨1, rfl⟩) (.inl rfl) (Nat.le_of_ble_eq_true rfl) (sq_out rfl rfl (fun _ _ => rfl)) (fun us w hl h => ld_num hl h)
  · exact q_call1 (F := (Fq.num m).P) hp (free_of rfl) trivial (enq_Sign) (sq_in 0 rfl rfl (by simp) rfl (fun v w h => h)) (fun v w h => exSign h)
  · exact q_one (F := fun v _ => v = .int .i64 (cmpI m 0)) hp (free_of rfl) trivial (sq_in 1 rfl rfl (by simp) rfl (fun v w h => h)) (fun ρ w hc h => ⟨.bool false, by simp [execOp, go_sem, h, hc, T1.out], rfl⟩)
  intro L vs w5 nb hL hC hn E5
  have e1 : vs 1 = .int .i64 (cmpI m 0) := hC 1 (by simp)
  have e2 : vs 2 = .bool false := hC 2 (by simp)
  have E : Fr w [(b4, 2, Fq.num 0), (b3, 2, Fq.num m), (b2, 2, Fq.num n), (b1, 2, Fq.num a)] w5 := E5
  rw [lay_all hL]
  simp only [putAll, dstOf, List.length_cons, List.length_nil, Nat.zero_add, Nat.reduceAdd, List.getElem?_toArray, List.getElem?_cons_zero, List.getElem?_cons_succ, Option.bind_some, Act.put, List.setIfInBounds_toArray, List.set_cons_succ, List.set_cons_zero]
  rw [e1, e2]
  generalize vs 0 = u5_0
  clear e1 e2 hC hn E5 hL vs L nb
  clear T1
  go_upto_region 3 with (fail)
  refine region_frS (same := [(2, 1)]) (C := [Fq.num m, Fq.any, Fq.any]) (ks := [none, none, none, none]) (new := [⟨1, 1, 2, Fq.num m, Fq.num m, (some (.clo 72))⟩]) E rfl (by kernel_rfl) rfl rfl (fun hp => ⟨?_, ?_, ?_, trivial⟩) ?_
  · exact stepS_of (q_loadInt (off := 0) hp (free_of rfl) trivial (List.mem_iff_getElem?.2 ⟨1, rfl⟩) (.inl rfl) (Nat.le_of_ble_eq_true rfl) (sq_out rfl rfl (fun _ _ => rfl)) (fun us w hl h => ld_num hl h)) rfl
  · exact stepS_of (q_callMake (F := (Fq.num m).P) hp enq_M_within (List.mem_iff_getElem?.2 ⟨0, rfl⟩) rfl rfl rfl (sq_in 0 rfl rfl (by simp) rfl (fun v w h => h)) (fun v w h => exWithin h) (fun _ _ => trivial) (old_ne rfl) (newks_ne rfl)) rfl
  · exact stepS_assign hp (free_of rfl) rfl (j := 1) rfl (by simp) rfl (fun _ _ => trivial) rfl (Nat.ne_of_beq_eq_false rfl)
  intro L vs w6 nb hsm hL hC hn E6
  have e1 : vs 1 = cloV 72 (nb 1) := hn _ (List.mem_iff_getElem?.2 ⟨0, rfl⟩)
  have e2 : vs 2 = cloV 72 (nb 1) := (hsm (2, 1) (by simp) (Nat.lt_of_sub_eq_succ rfl)).trans e1
  have E : Fr w [(nb 1, 2, Fq.num m), (b4, 2, Fq.num 0), (b3, 2, Fq.num m), (b2, 2, Fq.num n), (b1, 2, Fq.num a)] w6 := E6
  rw [lay_all hL]
  simp only [putAll, dstOf, List.length_cons, List.length_nil, Nat.zero_add, Nat.reduceAdd, List.getElem?_toArray, List.getElem?_cons_zero, List.getElem?_cons_succ, Option.bind_some, Act.put, List.setIfInBounds_toArray, List.set_cons_succ, List.set_cons_zero]
  rw [e1, e2]
  generalize nb 1 = b6_1 at E ⊢
  generalize vs 0 = u6_0
  clear e1 e2 hsm hC hn E6 hL vs L nb
  go_upto_region 4 with (fail)
  have B7 : Hid (ab ((a % m)) < pw 100) := ab_modB HM.out hm.out
  refine region_fr (C := [Fq.is (cloV 72 b6_1), Fq.num a, Fq.num (a % m), Fq.any, Fq.any]) (ks := [none, none, none, none, none]) (new := [⟨3, 4, 2, Fq.num 0, Fq.num (a % m), none⟩]) E rfl (by kernel_rfl) rfl rfl (fun hp => ⟨?_, ?_, ?_, ?_, ?_, trivial⟩) ?_
  · exact q_move hp (free_of rfl) trivial (sq_out rfl rfl (fun _ _ => rfl))
  · exact q_loadInt (off := 0) hp (free_of rfl) trivial (List.mem_iff_getElem?.2 ⟨4, rfl⟩) (.inl rfl) (Nat.le_of_ble_eq_true rfl) (sq_out rfl rfl (fun _ _ => rfl)) (fun us w hl h => ld_num hl h)
  · exact q_callCloOut (F := (Fq.num a).P) hp (free_of rfl) trivial enq_M_within1 (List.mem_iff_getElem?.2 ⟨0, rfl⟩) rfl (sq_in 0 rfl rfl (by simp) rfl (fun v w h => h)) (sq_in 1 rfl rfl (by simp) rfl (fun v w h => h)) (fun v w h hb => exResidue h hb HM.out (Int.lt_of_lt_of_le ha.out (pw_le (by omega))) (Int.lt_of_lt_of_le hm.out (pw_le (by omega))))
  · exact q_allocInt hp (List.mem_iff_getElem?.2 ⟨0, rfl⟩) rfl rfl rfl rfl (Nat.ne_of_beq_eq_false rfl) (fun _ _ => trivial) (old_ne rfl) (newk_ne rfl) (fun w => Num.zero w)
  · exact q_storeNewInt hp (List.mem_iff_getElem?.2 ⟨0, rfl⟩) rfl rfl rfl (own_ptr rfl rfl (by simp) rfl) (sq_in 2 rfl rfl (by simp) rfl (fun v w h => intV_num h)) (fun _ _ => trivial) (old_ne rfl) (newi_ne rfl)
  intro L vs w8 nb hL hC hn E8
  have e0 : vs 0 = cloV 72 b6_1 := hC 0 (by simp)
  have e3 : vs 3 = .pointer (some ⟨nb 3, 0, none⟩) := hn _ (List.mem_iff_getElem?.2 ⟨0, rfl⟩)
  have E : Fr w [(nb 3, 2, Fq.num (a % m)), (b6_1, 2, Fq.num m), (b4, 2, Fq.num 0), (b3, 2, Fq.num m), (b2, 2, Fq.num n), (b1, 2, Fq.num a)] w8 := E8
  rw [lay_all hL]
  simp only [putAll, dstOf, List.length_cons, List.length_nil, Nat.zero_add, Nat.reduceAdd, List.getElem?_toArray, List.getElem?_cons_zero, List.getElem?_cons_succ, Option.bind_some, Act.put, List.setIfInBounds_toArray, List.set_cons_succ, List.set_cons_zero]
  rw [e0, e3]
  generalize nb 3 = b8_3 at E ⊢
  generalize vs 1 = u8_1
  generalize vs 2 = u8_2
  clear e0 e3 hC hn E8 hL vs L nb
  have T2 : Hid (¬ cmpI n 0 < 0) := fun e => by have := cmpIqlt.1 e; omega
  have HB : Hid (a % m = if 0 ≤ n then a % m else bezU (a % m) m) := (if_pos h1).symm
  clear h1
  go_upto_region 5 with (fail)
  refine region_fr (C := [Fq.num n, Fq.is (.int .i64 (cmpI n 0)), Fq.is (.bool false)]) (ks := [none, none, none, none, none, none]) (new := []) E rfl (by kernel_rfl) rfl rfl (fun hp => ⟨?_, ?_, ?_, trivial⟩) ?_
  · exact q_loadInt (off := 0) hp (free_of rfl) trivial (List.mem_iff_getElem?.2 ⟨4, rfl⟩) (.inl rfl) (Nat.le_of_ble_eq_true rfl) (sq_out rfl rfl (fun _ _ => rfl)) (fun us w hl h => ld_num hl h)
  · exact q_call1 (F := (Fq.num n).P) hp (free_of rfl) trivial (enq_Sign) (sq_in 0 rfl rfl (by simp) rfl (fun v w h => h)) (fun v w h => exSign h)
  · exact q_one (F := fun v _ => v = .int .i64 (cmpI n 0)) hp (free_of rfl) trivial (sq_in 1 rfl rfl (by simp) rfl (fun v w h => h)) (fun ρ w hc h => ⟨.bool false, by simp [execOp, go_sem, h, hc, T2.out], rfl⟩)
  intro L vs w9 nb hL hC hn E9
  have e1 : vs 1 = .int .i64 (cmpI n 0) := hC 1 (by simp)
  have e2 : vs 2 = .bool false := hC 2 (by simp)
  have E : Fr w [(b8_3, 2, Fq.num (a % m)), (b6_1, 2, Fq.num m), (b4, 2, Fq.num 0), (b3, 2, Fq.num m), (b2, 2, Fq.num n), (b1, 2, Fq.num a)] w9 := E9
  rw [lay_all hL]
  simp only [putAll, dstOf, List.length_cons, List.length_nil, Nat.zero_add, Nat.reduceAdd, List.getElem?_toArray, List.getElem?_cons_zero, List.getElem?_cons_succ, Option.bind_some, Act.put, List.setIfInBounds_toArray, List.set_cons_succ, List.set_cons_zero]
  rw [e1, e2]
  generalize vs 0 = u9_0
  clear e1 e2 hC hn E9 hL vs L nb
  clear T2
  obtain ⟨B, hB⟩ : ∃ B, B = a % m := ⟨_, rfl⟩
  have BB : Hid (ab B < pw 100) := by show _ < _; rw [hB]; exact B7.out
  have HB2 : Hid (B = if 0 ≤ n then a % m else bezU (a % m) m) := hB.trans HB.out
  clear HB
  replace E : Fr w [(b8_3, 2, Fq.num B), (b6_1, 2, Fq.num m), (b4, 2, Fq.num 0), (b3, 2, Fq.num m), (b2, 2, Fq.num n), (b1, 2, Fq.num a)] w9 := by rw [hB]; exact E
  clear hB
  go_upto_region 10 with (fail)
  have B10 : Hid (ab ((1)) < pw 3) := ab_lit (by decide)
  have B11 : Hid (ab (((1) % m)) < pw 100) := ab_modB HM.out hm.out
  refine region_fr (C := [Fq.is (cloV 72 b6_1), Fq.num (1), Fq.num ((1) % m), Fq.any, Fq.any]) (ks := [none, none, none, none, none, none]) (new := [⟨3, 4, 2, Fq.num 0, Fq.num ((1) % m), none⟩]) E rfl (by kernel_rfl) rfl rfl (fun hp => ⟨?_, ?_, ?_, ?_, ?_, trivial⟩) ?_
  · exact q_move hp (free_of rfl) trivial (sq_out rfl rfl (fun _ _ => rfl))
  · exact q_call1 (F := (Fq.is (.int .i64 1)).P) hp (free_of rfl) trivial (enq_Of) (sq_const (fun _ => rfl)) (fun v w h => (by subst h; exact OfK w (1) (by omega) (by omega)))
  · exact q_callCloOut (F := (Fq.num (1)).P) hp (free_of rfl) trivial enq_M_within1 (List.mem_iff_getElem?.2 ⟨1, rfl⟩) rfl (sq_in 0 rfl rfl (by simp) rfl (fun v w h => h)) (sq_in 1 rfl rfl (by simp) rfl (fun v w h => h)) (fun v w h hb => exResidue h hb HM.out (Int.lt_of_lt_of_le B10.out (pw_le (by omega))) (Int.lt_of_lt_of_le hm.out (pw_le (by omega))))
  · exact q_allocInt hp (List.mem_iff_getElem?.2 ⟨0, rfl⟩) rfl rfl rfl rfl (Nat.ne_of_beq_eq_false rfl) (fun _ _ => trivial) (old_ne rfl) (newk_ne rfl) (fun w => Num.zero w)
  · exact q_storeNewInt hp (List.mem_iff_getElem?.2 ⟨0, rfl⟩) rfl rfl rfl (own_ptr rfl rfl (by simp) rfl) (sq_in 2 rfl rfl (by simp) rfl (fun v w h => intV_num h)) (fun _ _ => trivial) (old_ne rfl) (newi_ne rfl)
  intro L vs w12 nb hL hC hn E12
  have e0 : vs 0 = cloV 72 b6_1 := hC 0 (by simp)
  have e3 : vs 3 = .pointer (some ⟨nb 3, 0, none⟩) := hn _ (List.mem_iff_getElem?.2 ⟨0, rfl⟩)
  have E : Fr w [(nb 3, 2, Fq.num ((1) % m)), (b8_3, 2, Fq.num B), (b6_1, 2, Fq.num m), (b4, 2, Fq.num 0), (b3, 2, Fq.num m), (b2, 2, Fq.num n), (b1, 2, Fq.num a)] w12 := E12
  rw [lay_all hL]
  simp only [putAll, dstOf, List.length_cons, List.length_nil, Nat.zero_add, Nat.reduceAdd, List.getElem?_toArray, List.getElem?_cons_zero, List.getElem?_cons_succ, Option.bind_some, Act.put, List.setIfInBounds_toArray, List.set_cons_succ, List.set_cons_zero]
  rw [e0, e3]
  generalize nb 3 = b12_3 at E ⊢
  generalize vs 1 = u12_1
  generalize vs 2 = u12_2
  clear e0 e3 hC hn E12 hL vs L nb
  have HNB : Hid (nbits n ≤ 3200) := nbits_le hn.out
  have TW : Hid (IntKind.i64.wrap (((nbits n : Nat) : Int) - 1) = ((nbits n : Nat) : Int) - 1) := IntWalk.i64_in _ (by have := HNB.out; omega)
  go_upto_region 11 with (fail)
  refine region_fr (C := [Fq.num n, Fq.is (.int .i64 ((nbits n : Nat) : Int)), Fq.is (.int .i64 (((nbits n : Nat) : Int) - 1)), Fq.is (.int .i64 (((nbits n : Nat) : Int) - 1))]) (ks := [none, none, none, none, none, none, none]) (new := []) E rfl (by kernel_rfl) rfl rfl (fun hp => ⟨?_, ?_, ?_, ?_, trivial⟩) ?_
  · exact q_loadInt (off := 0) hp (free_of rfl) trivial (List.mem_iff_getElem?.2 ⟨5, rfl⟩) (.inl rfl) (Nat.le_of_ble_eq_true rfl) (sq_out rfl rfl (fun _ _ => rfl)) (fun us w hl h => ld_num hl h)
  · exact q_call1 (F := (Fq.num n).P) hp (free_of rfl) trivial (enq_Bits) (sq_in 0 rfl rfl (by simp) rfl (fun v w h => h)) (fun v w h => exBits h)
  · exact q_one (F := fun v _ => v = .int .i64 ((nbits n : Nat) : Int)) hp (free_of rfl) trivial (sq_in 1 rfl rfl (by simp) rfl (fun v w h => h)) (fun ρ w hc h => ⟨.int .i64 (((nbits n : Nat) : Int) - 1), by simp [execOp, go_sem, h, hc, TW.out], rfl⟩)
  · exact q_assign hp (free_of rfl) trivial (sq_in 2 rfl rfl (by simp) rfl (fun v w h => h))
  intro L vs w13 nb hL hC hn E13
  have e1 : vs 1 = .int .i64 ((nbits n : Nat) : Int) := hC 1 (by simp)
  have e2 : vs 2 = .int .i64 (((nbits n : Nat) : Int) - 1) := hC 2 (by simp)
  have e3 : vs 3 = .int .i64 (((nbits n : Nat) : Int) - 1) := hC 3 (by simp)
  have E : Fr w [(b12_3, 2, Fq.num ((1) % m)), (b8_3, 2, Fq.num B), (b6_1, 2, Fq.num m), (b4, 2, Fq.num 0), (b3, 2, Fq.num m), (b2, 2, Fq.num n), (b1, 2, Fq.num a)] w13 := E13
  rw [lay_all hL]
  simp only [putAll, dstOf, List.length_cons, List.length_nil, Nat.zero_add, Nat.reduceAdd, List.getElem?_toArray, List.getElem?_cons_zero, List.getElem?_cons_succ, Option.bind_some, Act.put, List.setIfInBounds_toArray, List.set_cons_succ, List.set_cons_zero]
  rw [e1, e2, e3]
  generalize vs 0 = u13_0
  clear e1 e2 e3 hC hn E13 hL vs L nb
  clear TW
  have HS := hidd E
  go_upto_region 12 with (fail)
  go_loopw [13] (fun vi W => ∃ j : Nat, j ≤ nbits n ∧ vi = .int .i64 ((j : Int) - 1) ∧ Fr w [(b12_3, 2, Fq.num (B ^ (n.natAbs / 2 ^ j) % m)), (b8_3, 2, Fq.num B), (b6_1, 2, Fq.num m), (b4, 2, Fq.num 0), (b3, 2, Fq.num m), (b2, 2, Fq.num n), (b1, 2, Fq.num a)] W) (fun vi _ => (intOf vi + 1).toNat)
  case atStart => exact ⟨nbits n, Nat.le_refl _, rfl, by rw [nbits_top, Int.pow_zero]; exact HS.out⟩
  case round =>
    obtain ⟨j, hj, rfl, E⟩ := hrel
    clear HS
    by_cases h0 : j = 0
    · subst h0
      have TL : Hid (¬ 0 ≤ ((0 : Nat) : Int) - 1) := by show ¬ _; omega
      have ET : Hid (B ^ (n.natAbs / 2 ^ 0) % m = powM a n m) := by show _ = _; unfold powM; rw [Nat.pow_zero, Nat.div_one, ← HB2.out]
      rw [ET.out] at E
      clear hj
      go_upto_region 12 with (fail)
      refine region_fr (C := [Fq.is (.int .i64 (((0 : Nat) : Int) - 1)), Fq.is (.bool false)]) (ks := [none, none, none, none, none, none, none]) (new := []) E rfl (by kernel_rfl) rfl rfl (fun hp => ⟨?_, ?_, trivial⟩) ?_
      · exact q_move hp (free_of rfl) trivial (sq_out rfl rfl (fun _ _ => rfl))
      · exact q_one (F := fun v _ => v = .int .i64 (((0 : Nat) : Int) - 1)) hp (free_of rfl) trivial (sq_in 0 rfl rfl (by simp) rfl (fun v w h => h)) (fun ρ w hc h => ⟨.bool false, by simp [execOp, go_sem, h, hc], rfl⟩)
      intro L vs w14 nb hL hC hn E14
      have e0 : vs 0 = .int .i64 (((0 : Nat) : Int) - 1) := hC 0 (by simp)
      have e1 : vs 1 = .bool false := hC 1 (by simp)
      have E : Fr w [(b12_3, 2, Fq.num (powM a n m)), (b8_3, 2, Fq.num B), (b6_1, 2, Fq.num m), (b4, 2, Fq.num 0), (b3, 2, Fq.num m), (b2, 2, Fq.num n), (b1, 2, Fq.num a)] w14 := E14
      rw [lay_all hL]
      simp only [putAll, dstOf, List.length_cons, List.length_nil, Nat.zero_add, Nat.reduceAdd, List.getElem?_toArray, List.getElem?_cons_zero, List.getElem?_cons_succ, Option.bind_some, Act.put, List.setIfInBounds_toArray, List.set_cons_succ, List.set_cons_zero]
      rw [e0, e1]
      clear e0 e1 hC hn E14 hL vs L nb
      clear TL
      go_upto_region 17 with (fail)
      refine region_fr (C := [Fq.num (powM a n m), Fq.any, Fq.is (.int .i64 0)]) (ks := [none, none, none, some (1, Fq.num (powM a n m)), none, none, none]) (new := []) E rfl (by kernel_rfl) rfl rfl (fun hp => ⟨?_, ?_, ?_, trivial⟩) ?_
      · exact q_loadInt (off := 0) hp (free_of rfl) trivial (List.mem_iff_getElem?.2 ⟨0, rfl⟩) (.inl rfl) (Nat.le_of_ble_eq_true rfl) (sq_out rfl rfl (fun _ _ => rfl)) (fun us w hl h => ld_num hl h)
      · exact q_storeOldInt hp (List.mem_iff_getElem?.2 ⟨3, rfl⟩) rfl rfl (sq_out rfl rfl (fun _ _ => rfl)) (sq_in 0 rfl rfl (by simp) rfl (fun v w h => intV_num h)) (fun _ _ => trivial) (newik_ne rfl)
      · exact q_assign hp (free_of rfl) trivial (sq_const (fun _ => rfl))
      intro L vs w15 nb hL hC hn E15
      have e2 : vs 2 = .int .i64 0 := hC 2 (by simp)
      have E : Fr w [(b12_3, 2, Fq.num (powM a n m)), (b8_3, 2, Fq.num B), (b6_1, 2, Fq.num m), (b4, 2, Fq.num (powM a n m)), (b3, 2, Fq.num m), (b2, 2, Fq.num n), (b1, 2, Fq.num a)] w15 := E15
      rw [lay_all hL]
      simp only [putAll, dstOf, List.length_cons, List.length_nil, Nat.zero_add, Nat.reduceAdd, List.getElem?_toArray, List.getElem?_cons_zero, List.getElem?_cons_succ, Option.bind_some, Act.put, List.setIfInBounds_toArray, List.set_cons_succ, List.set_cons_zero]
      rw [e2]
      generalize vs 0 = u15_0
      clear e2 hC hn E15 hL vs L nb
      clear HM HP HB2 HNB ET
      obtain ⟨p0, p1, c0, c1, hP⟩ := box_num (E.box 3 rfl)
      clear B7 B10 B11 ha hn hm BB
      go_wp2
      refine bodyPost_ret (v := .tuple #[.agg #[p0, p1], .int .i64 0]) ?_ rfl ⟨_, rfl, E.below, ⟨_, _, rfl, hP, rfl⟩⟩
      simp [results, Tryd.results46, go_sem, c0, c1]
    · obtain ⟨i, rfl⟩ : ∃ i, j = i + 1 := ⟨j - 1, by omega⟩
      have ei : (((i + 1 : Nat) : Int) - 1) = (i : Int) := by omega
      rw [ei]
      have HJ := hidd hj
      obtain ⟨z, hz⟩ : ∃ z, z = B ^ (n.natAbs / 2 ^ (i + 1)) % m := ⟨_, rfl⟩
      rw [← hz] at E
      have Bz : Hid (ab z < pw 100) := by show _ < _; rw [hz]; exact ab_modB HM.out hm.out
      have HZ := hidd (pow_step hz)
      have TL : Hid (0 ≤ (i : Int)) := by show 0 ≤ _; omega
      have hw : wrap64 ((i : Int) - 1) = (i : Int) - 1 := by have := HJ.out; have := HNB.out; simp only [wrap64]; omega
      clear ei hz h0 hj
      go_upto_region 12 with (fail)
      refine region_fr (C := [Fq.is (.int .i64 (i : Int)), Fq.is (.bool true)]) (ks := [none, none, none, none, none, none, none]) (new := []) E rfl (by kernel_rfl) rfl rfl (fun hp => ⟨?_, ?_, trivial⟩) ?_
      · exact q_move hp (free_of rfl) trivial (sq_out rfl rfl (fun _ _ => rfl))
      · exact q_one (F := fun v _ => v = .int .i64 (i : Int)) hp (free_of rfl) trivial (sq_in 0 rfl rfl (by simp) rfl (fun v w h => h)) (fun ρ w hc h => ⟨.bool true, by simp [execOp, go_sem, h, hc, TL.out], rfl⟩)
      intro L vs w16 nb hL hC hn E16
      have e0 : vs 0 = .int .i64 (i : Int) := hC 0 (by simp)
      have e1 : vs 1 = .bool true := hC 1 (by simp)
      have E : Fr w [(b12_3, 2, Fq.num z), (b8_3, 2, Fq.num B), (b6_1, 2, Fq.num m), (b4, 2, Fq.num 0), (b3, 2, Fq.num m), (b2, 2, Fq.num n), (b1, 2, Fq.num a)] w16 := E16
      rw [lay_all hL]
      simp only [putAll, dstOf, List.length_cons, List.length_nil, Nat.zero_add, Nat.reduceAdd, List.getElem?_toArray, List.getElem?_cons_zero, List.getElem?_cons_succ, Option.bind_some, Act.put, List.setIfInBounds_toArray, List.set_cons_succ, List.set_cons_zero]
      rw [e0, e1]
      clear e0 e1 hC hn E16 hL vs L nb
      clear TL
      go_upto_region 14 with (fail)
      have B17 : Hid (ab ((z * z)) < pw 200) := ab_mulM Bz.out Bz.out (by omega)
      have B18 : Hid (ab (((z * z) % m)) < pw 100) := ab_modB HM.out hm.out
      refine region_fr (C := [Fq.is (cloV 72 b6_1), Fq.num z, Fq.num z, Fq.num (z * z), Fq.num ((z * z) % m), Fq.any]) (ks := [some (5, Fq.num ((z * z) % m)), none, none, none, none, none, none]) (new := []) E rfl (by kernel_rfl) rfl rfl (fun hp => ⟨?_, ?_, ?_, ?_, ?_, ?_, trivial⟩) ?_
      · exact q_move hp (free_of rfl) trivial (sq_out rfl rfl (fun _ _ => rfl))
      · exact q_loadInt (off := 0) hp (free_of rfl) trivial (List.mem_iff_getElem?.2 ⟨0, rfl⟩) (.inr rfl) (Nat.le_of_ble_eq_true rfl) (sq_out rfl rfl (fun _ _ => rfl)) (fun us w hl h => ld_num hl h)
      · exact q_loadInt (off := 0) hp (free_of rfl) trivial (List.mem_iff_getElem?.2 ⟨0, rfl⟩) (.inr rfl) (Nat.le_of_ble_eq_true rfl) (sq_out rfl rfl (fun _ _ => rfl)) (fun us w hl h => ld_num hl h)
      · exact q_call2 (F := (Fq.num z).P) (G := (Fq.num z).P) hp (free_of rfl) trivial (enq_Mul) (sq_in 1 rfl rfl (by simp) rfl (fun v w h => h)) (sq_in 2 rfl rfl (by simp) rfl (fun v w h => h)) (fun v v' w h h' => exK (MulV h h') B17.out (by omega))
      · exact q_callCloOut (F := (Fq.num (z * z)).P) hp (free_of rfl) trivial enq_M_within1 (List.mem_iff_getElem?.2 ⟨2, rfl⟩) rfl (sq_in 0 rfl rfl (by simp) rfl (fun v w h => h)) (sq_in 3 rfl rfl (by simp) rfl (fun v w h => h)) (fun v w h hb => exResidue h hb HM.out (Int.lt_of_lt_of_le B17.out (pw_le (by omega))) (Int.lt_of_lt_of_le hm.out (pw_le (by omega))))
      · exact q_storeOldInt hp (List.mem_iff_getElem?.2 ⟨0, rfl⟩) rfl rfl (sq_out rfl rfl (fun _ _ => rfl)) (sq_in 4 rfl rfl (by simp) rfl (fun v w h => intV_num h)) (fun _ _ => trivial) (newik_ne rfl)
      intro L vs w19 nb hL hC hn E19
      have e0 : vs 0 = cloV 72 b6_1 := hC 0 (by simp)
      have E : Fr w [(b12_3, 2, Fq.num ((z * z) % m)), (b8_3, 2, Fq.num B), (b6_1, 2, Fq.num m), (b4, 2, Fq.num 0), (b3, 2, Fq.num m), (b2, 2, Fq.num n), (b1, 2, Fq.num a)] w19 := E19
      rw [lay_all hL]
      simp only [putAll, dstOf, List.length_cons, List.length_nil, Nat.zero_add, Nat.reduceAdd, List.getElem?_toArray, List.getElem?_cons_zero, List.getElem?_cons_succ, Option.bind_some, Act.put, List.setIfInBounds_toArray, List.set_cons_succ, List.set_cons_zero]
      rw [e0]
      generalize vs 1 = u19_1
      generalize vs 2 = u19_2
      generalize vs 3 = u19_3
      generalize vs 4 = u19_4
      clear e0 hC hn E19 hL vs L nb
      by_cases hb : n.natAbs / 2 ^ i % 2 = 1
      · have TB : Hid (decide (n.natAbs / 2 ^ i % 2 = 1) = true) := decide_eq_true hb
        have EZ : Hid ((((z * z) % m) * B) % m = B ^ (n.natAbs / 2 ^ i) % m) := HZ.out.1 hb
        clear hb HZ
        go_upto_region 15 with (fail)
        refine region_fr (C := [Fq.num n, Fq.is (.int .i64 (i : Int)), Fq.is (.bool true)]) (ks := [none, none, none, none, none, none, none]) (new := []) E rfl (by kernel_rfl) rfl rfl (fun hp => ⟨?_, ?_, ?_, trivial⟩) ?_
        · exact q_loadInt (off := 0) hp (free_of rfl) trivial (List.mem_iff_getElem?.2 ⟨5, rfl⟩) (.inl rfl) (Nat.le_of_ble_eq_true rfl) (sq_out rfl rfl (fun _ _ => rfl)) (fun us w hl h => ld_num hl h)
        · exact q_move hp (free_of rfl) trivial (sq_out rfl rfl (fun _ _ => rfl))
        · exact q_call2 (F := (Fq.num n).P) (G := (Fq.is (.int .i64 (i : Int))).P) hp (free_of rfl) trivial (enq_M_bit) (sq_in 0 rfl rfl (by simp) rfl (fun v w h => h)) (sq_in 1 rfl rfl (by simp) rfl (fun v w h => h)) (fun v v' w h h' => (by subst h'; exact exBit h (by have := HJ.out; omega) TB.out))
        intro L vs w20 nb hL hC hn E20
        have e1 : vs 1 = .int .i64 (i : Int) := hC 1 (by simp)
        have e2 : vs 2 = .bool true := hC 2 (by simp)
        have E : Fr w [(b12_3, 2, Fq.num ((z * z) % m)), (b8_3, 2, Fq.num B), (b6_1, 2, Fq.num m), (b4, 2, Fq.num 0), (b3, 2, Fq.num m), (b2, 2, Fq.num n), (b1, 2, Fq.num a)] w20 := E20
        rw [lay_all hL]
        simp only [putAll, dstOf, List.length_cons, List.length_nil, Nat.zero_add, Nat.reduceAdd, List.getElem?_toArray, List.getElem?_cons_zero, List.getElem?_cons_succ, Option.bind_some, Act.put, List.setIfInBounds_toArray, List.set_cons_succ, List.set_cons_zero]
        rw [e1, e2]
        generalize vs 0 = u20_0
        clear e1 e2 hC hn E20 hL vs L nb
        clear TB
        go_upto_region 16 with (fail)
        have B21 : Hid (ab ((((z * z) % m) * B)) < pw 200) := ab_mulM B18.out BB.out (by omega)
        have B22 : Hid (ab (((((z * z) % m) * B) % m)) < pw 100) := ab_modB HM.out hm.out
        refine region_fr (C := [Fq.is (cloV 72 b6_1), Fq.num ((z * z) % m), Fq.num B, Fq.num (((z * z) % m) * B), Fq.num ((((z * z) % m) * B) % m), Fq.any]) (ks := [some (5, Fq.num ((((z * z) % m) * B) % m)), none, none, none, none, none, none]) (new := []) E rfl (by kernel_rfl) rfl rfl (fun hp => ⟨?_, ?_, ?_, ?_, ?_, ?_, trivial⟩) ?_
        · exact q_move hp (free_of rfl) trivial (sq_out rfl rfl (fun _ _ => rfl))
        · exact q_loadInt (off := 0) hp (free_of rfl) trivial (List.mem_iff_getElem?.2 ⟨0, rfl⟩) (.inr rfl) (Nat.le_of_ble_eq_true rfl) (sq_out rfl rfl (fun _ _ => rfl)) (fun us w hl h => ld_num hl h)
        · exact q_loadInt (off := 0) hp (free_of rfl) trivial (List.mem_iff_getElem?.2 ⟨1, rfl⟩) (.inl rfl) (Nat.le_of_ble_eq_true rfl) (sq_out rfl rfl (fun _ _ => rfl)) (fun us w hl h => ld_num hl h)
        · exact q_call2 (F := (Fq.num ((z * z) % m)).P) (G := (Fq.num B).P) hp (free_of rfl) trivial (enq_Mul) (sq_in 1 rfl rfl (by simp) rfl (fun v w h => h)) (sq_in 2 rfl rfl (by simp) rfl (fun v w h => h)) (fun v v' w h h' => exK (MulV h h') B21.out (by omega))
        · exact q_callCloOut (F := (Fq.num (((z * z) % m) * B)).P) hp (free_of rfl) trivial enq_M_within1 (List.mem_iff_getElem?.2 ⟨2, rfl⟩) rfl (sq_in 0 rfl rfl (by simp) rfl (fun v w h => h)) (sq_in 3 rfl rfl (by simp) rfl (fun v w h => h)) (fun v w h hb => exResidue h hb HM.out (Int.lt_of_lt_of_le B21.out (pw_le (by omega))) (Int.lt_of_lt_of_le hm.out (pw_le (by omega))))
        · exact q_storeOldInt hp (List.mem_iff_getElem?.2 ⟨0, rfl⟩) rfl rfl (sq_out rfl rfl (fun _ _ => rfl)) (sq_in 4 rfl rfl (by simp) rfl (fun v w h => intV_num h)) (fun _ _ => trivial) (newik_ne rfl)
        intro L vs w23 nb hL hC hn E23
        have e0 : vs 0 = cloV 72 b6_1 := hC 0 (by simp)
        have E : Fr w [(b12_3, 2, Fq.num ((((z * z) % m) * B) % m)), (b8_3, 2, Fq.num B), (b6_1, 2, Fq.num m), (b4, 2, Fq.num 0), (b3, 2, Fq.num m), (b2, 2, Fq.num n), (b1, 2, Fq.num a)] w23 := E23
        rw [lay_all hL]
        simp only [putAll, dstOf, List.length_cons, List.length_nil, Nat.zero_add, Nat.reduceAdd, List.getElem?_toArray, List.getElem?_cons_zero, List.getElem?_cons_succ, Option.bind_some, Act.put, List.setIfInBounds_toArray, List.set_cons_succ, List.set_cons_zero]
        rw [e0]
        generalize vs 1 = u23_1
        generalize vs 2 = u23_2
        generalize vs 3 = u23_3
        generalize vs 4 = u23_4
        clear e0 hC hn E23 hL vs L nb
        go_wp2
        go_roundw
        case rel => exact ⟨i, by have := HJ.out; omega, by first | go_num | (rw [hw]; go_num), by rw [← EZ.out]; exact E⟩
        case measure => first | exact measP | (rw [hw]; exact measP)
      · have TB : Hid (decide (n.natAbs / 2 ^ i % 2 = 1) = false) := decide_eq_false hb
        have EZ : Hid ((z * z) % m = B ^ (n.natAbs / 2 ^ i) % m) := HZ.out.2 hb
        clear hb HZ
        go_upto_region 15 with (fail)
        refine region_fr (C := [Fq.num n, Fq.is (.int .i64 (i : Int)), Fq.is (.bool false)]) (ks := [none, none, none, none, none, none, none]) (new := []) E rfl (by kernel_rfl) rfl rfl (fun hp => ⟨?_, ?_, ?_, trivial⟩) ?_
        · exact q_loadInt (off := 0) hp (free_of rfl) trivial (List.mem_iff_getElem?.2 ⟨5, rfl⟩) (.inl rfl) (Nat.le_of_ble_eq_true rfl) (sq_out rfl rfl (fun _ _ => rfl)) (fun us w hl h => ld_num hl h)
        · exact q_move hp (free_of rfl) trivial (sq_out rfl rfl (fun _ _ => rfl))
        · exact q_call2 (F := (Fq.num n).P) (G := (Fq.is (.int .i64 (i : Int))).P) hp (free_of rfl) trivial (enq_M_bit) (sq_in 0 rfl rfl (by simp) rfl (fun v w h => h)) (sq_in 1 rfl rfl (by simp) rfl (fun v w h => h)) (fun v v' w h h' => (by subst h'; exact exBit h (by have := HJ.out; omega) TB.out))
        intro L vs w24 nb hL hC hn E24
        have e1 : vs 1 = .int .i64 (i : Int) := hC 1 (by simp)
        have e2 : vs 2 = .bool false := hC 2 (by simp)
        have E : Fr w [(b12_3, 2, Fq.num ((z * z) % m)), (b8_3, 2, Fq.num B), (b6_1, 2, Fq.num m), (b4, 2, Fq.num 0), (b3, 2, Fq.num m), (b2, 2, Fq.num n), (b1, 2, Fq.num a)] w24 := E24
        rw [lay_all hL]
        simp only [putAll, dstOf, List.length_cons, List.length_nil, Nat.zero_add, Nat.reduceAdd, List.getElem?_toArray, List.getElem?_cons_zero, List.getElem?_cons_succ, Option.bind_some, Act.put, List.setIfInBounds_toArray, List.set_cons_succ, List.set_cons_zero]
        rw [e1, e2]
        generalize vs 0 = u24_0
        clear e1 e2 hC hn E24 hL vs L nb
        clear TB
        go_wp2
        go_roundw
        case rel => exact ⟨i, by have := HJ.out; omega, by first | go_num | (rw [hw]; go_num), by rw [← EZ.out]; exact E⟩
        case measure => first | exact measP | (rw [hw]; exact measP)

set_option maxRecDepth 100000 in
set_option maxHeartbeats 4000000 in
theorem exPowN {w : World} {v v' u : Value} {a n m : Int} (h : Num w v a) (h' : Num w v' n) (g : Num w u m) (ha : ab a < pw 100) (hn : ab n < pw 100) (hm : ab m < pw 100) (h0 : 0 < m) (h1 : n < 0) (hg : Int.gcd (a % m) m = 1) :
    Calls Tryd.prog 46 #[v, v', u] w fun e w' => ∃ v', e = .returned v' ∧ Below w.heap.size w w' ∧ (Fq.tup2 (Fq.num (powM a n m)) (Fq.is (.int .i64 0))).P v' w' := by
  replace ha := hidd ha
  replace hn := hidd hn
  replace hm := hidd hm
  obtain ⟨n0, ao0, k0, c0, rfl⟩ := h.parts
  obtain ⟨n1, ao1, k1, c1, rfl⟩ := h'.parts
  obtain ⟨n2, ao2, k2, c2, rfl⟩ := g.parts
  obtain ⟨w1, b1, hw1, hb1, hs1, E⟩ := fr_start w (F := Fq.num a) (us := [.bool n0, .slice ao0 k0 c0]) 29 rfl (by simp) (tame_int _ _ _ _) h
  obtain ⟨w2, b2, hw2, hb2, hs2, E⟩ := fr_more E hs1 (F := Fq.num n) (us := [.bool n1, .slice ao1 k1 c1]) 29 rfl (by simp) (tame_int _ _ _ _) (h'.mono E.below)
  obtain ⟨w3, b3, hw3, hb3, hs3, E⟩ := fr_more E hs2 (F := Fq.num m) (us := [.bool n2, .slice ao2 k2 c2]) 29 rfl (by simp) (tame_int _ _ _ _) (g.mono E.below)
  obtain ⟨w4, b4, hw4, hb4, hs4, E⟩ := fr_more E hs3 (F := Fq.num 0) (us := [.bool false, .slice none 0 0]) 29 rfl (by simp) (tame_int _ _ _ _) (Num.zero _)
  go_enter Tryd.func46, Tryd.ntmps46
  go_upto_region 1 with (fail)
  rw [← hw1]
  rw [← hw2]
  rw [← hw3]
  rw [← hw4]
  rw [← hb4]
  rw [← hb3]
  rw [← hb2]
  rw [← hb1]
  clear hw1 hw2 hw3 hw4 hb1 hb2 hb3 hb4 hs4 hs1 hs2 hs3
  have T1 : Hid (¬ cmpI m 0 ≤ 0) := fun e => by have := cmpI_le0.1 e; omega
  have HM : Hid (m ≠ 0) := by show _ ≠ _; omega
  have HP := hidd h0
  clear h0
  refine region_fr (C := [Fq.num m, Fq.is (.int .i64 (cmpI m 0)), Fq.is (.bool false)]) (ks := [none, none, none, none]) (new := []) E rfl (by kernel_rfl) rfl rfl (fun hp => ⟨?_, ?_, ?_, trivial⟩) ?_
  · exact q_loadInt (off := 0) hp (free_of rfl) trivial (List.mem_iff_getElem?.2 ⟨1, rfl⟩) (.inl rfl) (Nat.le_of_ble_eq_true rfl) (sq_out rfl rfl (fun _ _ => rfl)) (fun us w hl h => ld_num hl h)
  · exact q_call1 (F := (Fq.num m).P) hp (free_of rfl) trivial (enq_Sign) (sq_in 0 rfl rfl (by simp) rfl (fun v w h => h)) (fun v w h => exSign h)
  · exact q_one (F := fun v _ => v = .int .i64 (cmpI m 0)) hp (free_of rfl) trivial (sq_in 1 rfl rfl (by simp) rfl (fun v w h => h)) (fun ρ w hc h => ⟨.bool false, by simp [execOp, go_sem, h, hc, T1.out], rfl⟩)
  intro L vs w5 nb hL hC hn E5
  have e1 : vs 1 = .int .i64 (cmpI m 0) := hC 1 (by simp)
  have e2 : vs 2 = .bool false := hC 2 (by simp)
  have E : Fr w [(b4, 2, Fq.num 0), (b3, 2, Fq.num m), (b2, 2, Fq.num n), (b1, 2, Fq.num a)] w5 := E5
  rw [lay_all hL]
  simp only [putAll, dstOf, List.length_cons, List.length_nil, Nat.zero_add, Nat.reduceAdd, List.getElem?_toArray, List.getElem?_cons_zero, List.getElem?_cons_succ, Option.bind_some, Act.put, List.setIfInBounds_toArray, List.set_cons_succ, List.set_cons_zero]
  rw [e1, e2]
  generalize vs 0 = u5_0
  clear e1 e2 hC hn E5 hL vs L nb
  clear T1
  go_upto_region 3 with (fail)
  refine region_frS (same := [(2, 1)]) (C := [Fq.num m, Fq.any, Fq.any]) (ks := [none, none, none, none]) (new := [⟨1, 1, 2, Fq.num m, Fq.num m, (some (.clo 72))⟩]) E rfl (by kernel_rfl) rfl rfl (fun hp => ⟨?_, ?_, ?_, trivial⟩) ?_
  · exact stepS_of (q_loadInt (off := 0) hp (free_of rfl) trivial (List.mem_iff_getElem?.2 ⟨1, rfl⟩) (.inl rfl) (Nat.le_of_ble_eq_true rfl) (sq_out rfl rfl (fun _ _ => rfl)) (fun us w hl h => ld_num hl h)) rfl
  · exact stepS_of (q_callMake (F := (Fq.num m).P) hp enq_M_within (List.mem_iff_getElem?.2 ⟨0, rfl⟩) rfl rfl rfl (sq_in 0 rfl rfl (by simp) rfl (fun v w h => h)) (fun v w h => exWithin h) (fun _ _ => trivial) (old_ne rfl) (newks_ne rfl)) rfl
  · exact stepS_assign hp (free_of rfl) rfl (j := 1) rfl (by simp) rfl (fun _ _ => trivial) rfl (Nat.ne_of_beq_eq_false rfl)
  intro L vs w6 nb hsm hL hC hn E6
  have e1 : vs 1 = cloV 72 (nb 1) := hn _ (List.mem_iff_getElem?.2 ⟨0, rfl⟩)
  have e2 : vs 2 = cloV 72 (nb 1) := (hsm (2, 1) (by simp) (Nat.lt_of_sub_eq_succ rfl)).trans e1
  have E : Fr w [(nb 1, 2, Fq.num m), (b4, 2, Fq.num 0), (b3, 2, Fq.num m), (b2, 2, Fq.num n), (b1, 2, Fq.num a)] w6 := E6
  rw [lay_all hL]
  simp only [putAll, dstOf, List.length_cons, List.length_nil, Nat.zero_add, Nat.reduceAdd, List.getElem?_toArray, List.getElem?_cons_zero, List.getElem?_cons_succ, Option.bind_some, Act.put, List.setIfInBounds_toArray, List.set_cons_succ, List.set_cons_zero]
  rw [e1, e2]
  generalize nb 1 = b6_1 at E ⊢
  generalize vs 0 = u6_0
  clear e1 e2 hsm hC hn E6 hL vs L nb
  go_upto_region 4 with (fail)
  have B7 : Hid (ab ((a % m)) < pw 100) := ab_modB HM.out hm.out
  refine region_fr (C := [Fq.is (cloV 72 b6_1), Fq.num a, Fq.num (a % m), Fq.any, Fq.any]) (ks := [none, none, none, none, none]) (new := [⟨3, 4, 2, Fq.num 0, Fq.num (a % m), none⟩]) E rfl (by kernel_rfl) rfl rfl (fun hp => ⟨?_, ?_, ?_, ?_, ?_, trivial⟩) ?_
  · exact q_move hp (free_of rfl) trivial (sq_out rfl rfl (fun _ _ => rfl))
  · exact q_loadInt (off := 0) hp (free_of rfl) trivial (List.mem_iff_getElem?.2 ⟨4, rfl⟩) (.inl rfl) (Nat.le_of_ble_eq_true rfl) (sq_out rfl rfl (fun _ _ => rfl)) (fun us w hl h => ld_num hl h)
  · exact q_callCloOut (F := (Fq.num a).P) hp (free_of rfl) trivial enq_M_within1 (List.mem_iff_getElem?.2 ⟨0, rfl⟩) rfl (sq_in 0 rfl rfl (by simp) rfl (fun v w h => h)) (sq_in 1 rfl rfl (by simp) rfl (fun v w h => h)) (fun v w h hb => exResidue h hb HM.out (Int.lt_of_lt_of_le ha.out (pw_le (by omega))) (Int.lt_of_lt_of_le hm.out (pw_le (by omega))))
  · exact q_allocInt hp (List.mem_iff_getElem?.2 ⟨0, rfl⟩) rfl rfl rfl rfl (Nat.ne_of_beq_eq_false rfl) (fun _ _ => trivial) (old_ne rfl) (newk_ne rfl) (fun w => Num.zero w)
  · exact q_storeNewInt hp (List.mem_iff_getElem?.2 ⟨0, rfl⟩) rfl rfl rfl (own_ptr rfl rfl (by simp) rfl) (sq_in 2 rfl rfl (by simp) rfl (fun v w h => intV_num h)) (fun _ _ => trivial) (old_ne rfl) (newi_ne rfl)
  intro L vs w8 nb hL hC hn E8
  have e0 : vs 0 = cloV 72 b6_1 := hC 0 (by simp)
  have e3 : vs 3 = .pointer (some ⟨nb 3, 0, none⟩) := hn _ (List.mem_iff_getElem?.2 ⟨0, rfl⟩)
  have E : Fr w [(nb 3, 2, Fq.num (a % m)), (b6_1, 2, Fq.num m), (b4, 2, Fq.num 0), (b3, 2, Fq.num m), (b2, 2, Fq.num n), (b1, 2, Fq.num a)] w8 := E8
  rw [lay_all hL]
  simp only [putAll, dstOf, List.length_cons, List.length_nil, Nat.zero_add, Nat.reduceAdd, List.getElem?_toArray, List.getElem?_cons_zero, List.getElem?_cons_succ, Option.bind_some, Act.put, List.setIfInBounds_toArray, List.set_cons_succ, List.set_cons_zero]
  rw [e0, e3]
  generalize nb 3 = b8_3 at E ⊢
  generalize vs 1 = u8_1
  generalize vs 2 = u8_2
  clear e0 e3 hC hn E8 hL vs L nb
  have T2 : Hid (cmpI n 0 < 0) := cmpIqlt.2 h1
  have HG : Hid (Int.gcd (a % m) m = 1) := hg
  have HB : Hid (bezU (a % m) m = if 0 ≤ n then a % m else bezU (a % m) m) := (if_neg (by omega)).symm
  clear h1 hg
  go_upto_region 5 with (fail)
  refine region_fr (C := [Fq.num n, Fq.is (.int .i64 (cmpI n 0)), Fq.is (.bool true)]) (ks := [none, none, none, none, none, none]) (new := []) E rfl (by kernel_rfl) rfl rfl (fun hp => ⟨?_, ?_, ?_, trivial⟩) ?_
  · exact q_loadInt (off := 0) hp (free_of rfl) trivial (List.mem_iff_getElem?.2 ⟨4, rfl⟩) (.inl rfl) (Nat.le_of_ble_eq_true rfl) (sq_out rfl rfl (fun _ _ => rfl)) (fun us w hl h => ld_num hl h)
  · exact q_call1 (F := (Fq.num n).P) hp (free_of rfl) trivial (enq_Sign) (sq_in 0 rfl rfl (by simp) rfl (fun v w h => h)) (fun v w h => exSign h)
  · exact q_one (F := fun v _ => v = .int .i64 (cmpI n 0)) hp (free_of rfl) trivial (sq_in 1 rfl rfl (by simp) rfl (fun v w h => h)) (fun ρ w hc h => ⟨.bool true, by simp [execOp, go_sem, h, hc, T2.out], rfl⟩)
  intro L vs w9 nb hL hC hn E9
  have e1 : vs 1 = .int .i64 (cmpI n 0) := hC 1 (by simp)
  have e2 : vs 2 = .bool true := hC 2 (by simp)
  have E : Fr w [(b8_3, 2, Fq.num (a % m)), (b6_1, 2, Fq.num m), (b4, 2, Fq.num 0), (b3, 2, Fq.num m), (b2, 2, Fq.num n), (b1, 2, Fq.num a)] w9 := E9
  rw [lay_all hL]
  simp only [putAll, dstOf, List.length_cons, List.length_nil, Nat.zero_add, Nat.reduceAdd, List.getElem?_toArray, List.getElem?_cons_zero, List.getElem?_cons_succ, Option.bind_some, Act.put, List.setIfInBounds_toArray, List.set_cons_succ, List.set_cons_zero]
  rw [e1, e2]
  generalize vs 0 = u9_0
  clear e1 e2 hC hn E9 hL vs L nb
  clear T2
  go_upto_region 6 with (fail)
  have B10 : Hid (ab (bezU (a % m) m) < pw 100) := bezU_ab HP.out hm.out
  refine region_fr (C := [Fq.num (a % m), Fq.num m, Fq.tup2 (Fq.num (bezU (a % m) m)) (Fq.is (.int .i64 0)), Fq.tup2 (Fq.num (bezU (a % m) m)) (Fq.is (.int .i64 0)), Fq.num (bezU (a % m) m), Fq.is (.int .i64 0), Fq.any, Fq.any, Fq.is (.int .i64 0)]) (ks := [none, none, none, none, none, none]) (new := [⟨6, 7, 2, Fq.num 0, Fq.num (bezU (a % m) m), none⟩]) E rfl (by kernel_rfl) rfl rfl (fun hp => ⟨?_, ?_, ?_, ?_, ?_, ?_, ?_, ?_, ?_, trivial⟩) ?_
  · exact q_loadInt (off := 0) hp (free_of rfl) trivial (List.mem_iff_getElem?.2 ⟨0, rfl⟩) (.inl rfl) (Nat.le_of_ble_eq_true rfl) (sq_out rfl rfl (fun _ _ => rfl)) (fun us w hl h => ld_num hl h)
  · exact q_loadInt (off := 0) hp (free_of rfl) trivial (List.mem_iff_getElem?.2 ⟨3, rfl⟩) (.inl rfl) (Nat.le_of_ble_eq_true rfl) (sq_out rfl rfl (fun _ _ => rfl)) (fun us w hl h => ld_num hl h)
  · exact q_call2 (F := (Fq.num (a % m)).P) (G := (Fq.num m).P) hp (free_of rfl) trivial (enq_M_Inv) (sq_in 0 rfl rfl (by simp) rfl (fun v w h => h)) (sq_in 1 rfl rfl (by simp) rfl (fun v w h => h)) (fun v v' w h h' => exInvP h h' (Int.lt_of_lt_of_le B7.out (pw_le (by omega))) (Int.lt_of_lt_of_le hm.out (pw_le (by omega))) HP.out HG.out)
  · exact q_move hp (free_of rfl) trivial (sq_in 2 rfl rfl (by simp) rfl (fun v w h => h))
  · exact q_extract2 hp (free_of rfl) trivial (sq_in 3 rfl rfl (by simp) rfl (fun v w h => h)) (fun v1 v2 w h1 h2 => ⟨_, rfl, h1⟩)
  · exact q_extract2 hp (free_of rfl) trivial (sq_in 3 rfl rfl (by simp) rfl (fun v w h => h)) (fun v1 v2 w h1 h2 => ⟨_, rfl, h2⟩)
  · exact q_allocInt hp (List.mem_iff_getElem?.2 ⟨0, rfl⟩) rfl rfl rfl rfl (Nat.ne_of_beq_eq_false rfl) (fun _ _ => trivial) (old_ne rfl) (newk_ne rfl) (fun w => Num.zero w)
  · exact q_storeNewInt hp (List.mem_iff_getElem?.2 ⟨0, rfl⟩) rfl rfl rfl (own_ptr rfl rfl (by simp) rfl) (sq_in 4 rfl rfl (by simp) rfl (fun v w h => intV_num h)) (fun _ _ => trivial) (old_ne rfl) (newi_ne rfl)
  · exact q_assign hp (free_of rfl) trivial (sq_in 5 rfl rfl (by simp) rfl (fun v w h => h))
  intro L vs w11 nb hL hC hn E11
  have e5 : vs 5 = .int .i64 0 := hC 5 (by simp)
  have e8 : vs 8 = .int .i64 0 := hC 8 (by simp)
  have e6 : vs 6 = .pointer (some ⟨nb 6, 0, none⟩) := hn _ (List.mem_iff_getElem?.2 ⟨0, rfl⟩)
  have E : Fr w [(nb 6, 2, Fq.num (bezU (a % m) m)), (b8_3, 2, Fq.num (a % m)), (b6_1, 2, Fq.num m), (b4, 2, Fq.num 0), (b3, 2, Fq.num m), (b2, 2, Fq.num n), (b1, 2, Fq.num a)] w11 := E11
  rw [lay_all hL]
  simp only [putAll, dstOf, List.length_cons, List.length_nil, Nat.zero_add, Nat.reduceAdd, List.getElem?_toArray, List.getElem?_cons_zero, List.getElem?_cons_succ, Option.bind_some, Act.put, List.setIfInBounds_toArray, List.set_cons_succ, List.set_cons_zero]
  rw [e5, e8, e6]
  generalize nb 6 = b11_6 at E ⊢
  generalize vs 0 = u11_0
  generalize vs 1 = u11_1
  generalize vs 2 = u11_2
  generalize vs 3 = u11_3
  generalize vs 4 = u11_4
  clear e5 e8 e6 hC hn E11 hL vs L nb
  go_upto_region 7 with (fail)
  refine region_fr (C := [Fq.is (.int .i64 0), Fq.is (.bool false)]) (ks := [none, none, none, none, none, none, none]) (new := []) E rfl (by kernel_rfl) rfl rfl (fun hp => ⟨?_, ?_, trivial⟩) ?_
  · exact q_move hp (free_of rfl) trivial (sq_out rfl rfl (fun _ _ => rfl))
  · exact q_one (F := fun v _ => v = .int .i64 0) hp (free_of rfl) trivial (sq_in 0 rfl rfl (by simp) rfl (fun v w h => h)) (fun ρ w hc h => ⟨.bool false, by simp [execOp, go_sem, h, hc], rfl⟩)
  intro L vs w12 nb hL hC hn E12
  have e0 : vs 0 = .int .i64 0 := hC 0 (by simp)
  have e1 : vs 1 = .bool false := hC 1 (by simp)
  have E : Fr w [(b11_6, 2, Fq.num (bezU (a % m) m)), (b8_3, 2, Fq.num (a % m)), (b6_1, 2, Fq.num m), (b4, 2, Fq.num 0), (b3, 2, Fq.num m), (b2, 2, Fq.num n), (b1, 2, Fq.num a)] w12 := E12
  rw [lay_all hL]
  simp only [putAll, dstOf, List.length_cons, List.length_nil, Nat.zero_add, Nat.reduceAdd, List.getElem?_toArray, List.getElem?_cons_zero, List.getElem?_cons_succ, Option.bind_some, Act.put, List.setIfInBounds_toArray, List.set_cons_succ, List.set_cons_zero]
  rw [e0, e1]
  clear e0 e1 hC hn E12 hL vs L nb
  go_upto_region 9 with (fail)
  refine region_fr (C := [Fq.num (bezU (a % m) m), Fq.any]) (ks := [none, some (1, Fq.num (bezU (a % m) m)), none, none, none, none, none]) (new := []) E rfl (by kernel_rfl) rfl rfl (fun hp => ⟨?_, ?_, trivial⟩) ?_
  · exact q_loadInt (off := 0) hp (free_of rfl) trivial (List.mem_iff_getElem?.2 ⟨0, rfl⟩) (.inl rfl) (Nat.le_of_ble_eq_true rfl) (sq_out rfl rfl (fun _ _ => rfl)) (fun us w hl h => ld_num hl h)
  · exact q_storeOldInt hp (List.mem_iff_getElem?.2 ⟨1, rfl⟩) rfl rfl (sq_out rfl rfl (fun _ _ => rfl)) (sq_in 0 rfl rfl (by simp) rfl (fun v w h => intV_num h)) (fun _ _ => trivial) (newik_ne rfl)
  intro L vs w13 nb hL hC hn E13
  have E : Fr w [(b11_6, 2, Fq.num (bezU (a % m) m)), (b8_3, 2, Fq.num (bezU (a % m) m)), (b6_1, 2, Fq.num m), (b4, 2, Fq.num 0), (b3, 2, Fq.num m), (b2, 2, Fq.num n), (b1, 2, Fq.num a)] w13 := E13
  rw [lay_all hL]
  simp only [putAll, dstOf, List.length_cons, List.length_nil, Nat.zero_add, Nat.reduceAdd, List.getElem?_toArray, List.getElem?_cons_zero, List.getElem?_cons_succ, Option.bind_some, Act.put, List.setIfInBounds_toArray, List.set_cons_succ, List.set_cons_zero]
  generalize vs 0 = u13_0
  clear  hC hn E13 hL vs L nb
  clear HG
  obtain ⟨B, hB⟩ : ∃ B, B = bezU (a % m) m := ⟨_, rfl⟩
  have BB : Hid (ab B < pw 100) := by show _ < _; rw [hB]; exact B10.out
  have HB2 : Hid (B = if 0 ≤ n then a % m else bezU (a % m) m) := hB.trans HB.out
  clear HB
  replace E : Fr w [(b11_6, 2, Fq.num (bezU (a % m) m)), (b8_3, 2, Fq.num B), (b6_1, 2, Fq.num m), (b4, 2, Fq.num 0), (b3, 2, Fq.num m), (b2, 2, Fq.num n), (b1, 2, Fq.num a)] w13 := by rw [hB]; exact E
  clear hB
  go_upto_region 10 with (fail)
  have B14 : Hid (ab ((1)) < pw 3) := ab_lit (by decide)
  have B15 : Hid (ab (((1) % m)) < pw 100) := ab_modB HM.out hm.out
  refine region_fr (C := [Fq.is (cloV 72 b6_1), Fq.num (1), Fq.num ((1) % m), Fq.any, Fq.any]) (ks := [none, none, none, none, none, none, none]) (new := [⟨3, 4, 2, Fq.num 0, Fq.num ((1) % m), none⟩]) E rfl (by kernel_rfl) rfl rfl (fun hp => ⟨?_, ?_, ?_, ?_, ?_, trivial⟩) ?_
  · exact q_move hp (free_of rfl) trivial (sq_out rfl rfl (fun _ _ => rfl))
  · exact q_call1 (F := (Fq.is (.int .i64 1)).P) hp (free_of rfl) trivial (enq_Of) (sq_const (fun _ => rfl)) (fun v w h => (by subst h; exact OfK w (1) (by omega) (by omega)))
  · exact q_callCloOut (F := (Fq.num (1)).P) hp (free_of rfl) trivial enq_M_within1 (List.mem_iff_getElem?.2 ⟨2, rfl⟩) rfl (sq_in 0 rfl rfl (by simp) rfl (fun v w h => h)) (sq_in 1 rfl rfl (by simp) rfl (fun v w h => h)) (fun v w h hb => exResidue h hb HM.out (Int.lt_of_lt_of_le B14.out (pw_le (by omega))) (Int.lt_of_lt_of_le hm.out (pw_le (by omega))))
  · exact q_allocInt hp (List.mem_iff_getElem?.2 ⟨0, rfl⟩) rfl rfl rfl rfl (Nat.ne_of_beq_eq_false rfl) (fun _ _ => trivial) (old_ne rfl) (newk_ne rfl) (fun w => Num.zero w)
  · exact q_storeNewInt hp (List.mem_iff_getElem?.2 ⟨0, rfl⟩) rfl rfl rfl (own_ptr rfl rfl (by simp) rfl) (sq_in 2 rfl rfl (by simp) rfl (fun v w h => intV_num h)) (fun _ _ => trivial) (old_ne rfl) (newi_ne rfl)
  intro L vs w16 nb hL hC hn E16
  have e0 : vs 0 = cloV 72 b6_1 := hC 0 (by simp)
  have e3 : vs 3 = .pointer (some ⟨nb 3, 0, none⟩) := hn _ (List.mem_iff_getElem?.2 ⟨0, rfl⟩)
  have E : Fr w [(nb 3, 2, Fq.num ((1) % m)), (b11_6, 2, Fq.num (bezU (a % m) m)), (b8_3, 2, Fq.num B), (b6_1, 2, Fq.num m), (b4, 2, Fq.num 0), (b3, 2, Fq.num m), (b2, 2, Fq.num n), (b1, 2, Fq.num a)] w16 := E16
  rw [lay_all hL]
  simp only [putAll, dstOf, List.length_cons, List.length_nil, Nat.zero_add, Nat.reduceAdd, List.getElem?_toArray, List.getElem?_cons_zero, List.getElem?_cons_succ, Option.bind_some, Act.put, List.setIfInBounds_toArray, List.set_cons_succ, List.set_cons_zero]
  rw [e0, e3]
  generalize nb 3 = b16_3 at E ⊢
  generalize vs 1 = u16_1
  generalize vs 2 = u16_2
  clear e0 e3 hC hn E16 hL vs L nb
  have HNB : Hid (nbits n ≤ 3200) := nbits_le hn.out
  have TW : Hid (IntKind.i64.wrap (((nbits n : Nat) : Int) - 1) = ((nbits n : Nat) : Int) - 1) := IntWalk.i64_in _ (by have := HNB.out; omega)
  go_upto_region 11 with (fail)
  refine region_fr (C := [Fq.num n, Fq.is (.int .i64 ((nbits n : Nat) : Int)), Fq.is (.int .i64 (((nbits n : Nat) : Int) - 1)), Fq.is (.int .i64 (((nbits n : Nat) : Int) - 1))]) (ks := [none, none, none, none, none, none, none, none]) (new := []) E rfl (by kernel_rfl) rfl rfl (fun hp => ⟨?_, ?_, ?_, ?_, trivial⟩) ?_
  · exact q_loadInt (off := 0) hp (free_of rfl) trivial (List.mem_iff_getElem?.2 ⟨6, rfl⟩) (.inl rfl) (Nat.le_of_ble_eq_true rfl) (sq_out rfl rfl (fun _ _ => rfl)) (fun us w hl h => ld_num hl h)
  · exact q_call1 (F := (Fq.num n).P) hp (free_of rfl) trivial (enq_Bits) (sq_in 0 rfl rfl (by simp) rfl (fun v w h => h)) (fun v w h => exBits h)
  · exact q_one (F := fun v _ => v = .int .i64 ((nbits n : Nat) : Int)) hp (free_of rfl) trivial (sq_in 1 rfl rfl (by simp) rfl (fun v w h => h)) (fun ρ w hc h => ⟨.int .i64 (((nbits n : Nat) : Int) - 1), by simp [execOp, go_sem, h, hc, TW.out], rfl⟩)
  · exact q_assign hp (free_of rfl) trivial (sq_in 2 rfl rfl (by simp) rfl (fun v w h => h))
  intro L vs w17 nb hL hC hn E17
  have e1 : vs 1 = .int .i64 ((nbits n : Nat) : Int) := hC 1 (by simp)
  have e2 : vs 2 = .int .i64 (((nbits n : Nat) : Int) - 1) := hC 2 (by simp)
  have e3 : vs 3 = .int .i64 (((nbits n : Nat) : Int) - 1) := hC 3 (by simp)
  have E : Fr w [(b16_3, 2, Fq.num ((1) % m)), (b11_6, 2, Fq.num (bezU (a % m) m)), (b8_3, 2, Fq.num B), (b6_1, 2, Fq.num m), (b4, 2, Fq.num 0), (b3, 2, Fq.num m), (b2, 2, Fq.num n), (b1, 2, Fq.num a)] w17 := E17
  rw [lay_all hL]
  simp only [putAll, dstOf, List.length_cons, List.length_nil, Nat.zero_add, Nat.reduceAdd, List.getElem?_toArray, List.getElem?_cons_zero, List.getElem?_cons_succ, Option.bind_some, Act.put, List.setIfInBounds_toArray, List.set_cons_succ, List.set_cons_zero]
  rw [e1, e2, e3]
  generalize vs 0 = u17_0
  clear e1 e2 e3 hC hn E17 hL vs L nb
  clear TW
  have HS := hidd E
  go_upto_region 12 with (fail)
  go_loopw [13] (fun vi W => ∃ j : Nat, j ≤ nbits n ∧ vi = .int .i64 ((j : Int) - 1) ∧ Fr w [(b16_3, 2, Fq.num (B ^ (n.natAbs / 2 ^ j) % m)), (b11_6, 2, Fq.num (bezU (a % m) m)), (b8_3, 2, Fq.num B), (b6_1, 2, Fq.num m), (b4, 2, Fq.num 0), (b3, 2, Fq.num m), (b2, 2, Fq.num n), (b1, 2, Fq.num a)] W) (fun vi _ => (intOf vi + 1).toNat)
  case atStart => exact ⟨nbits n, Nat.le_refl _, rfl, by rw [nbits_top, Int.pow_zero]; exact HS.out⟩
  case round =>
    obtain ⟨j, hj, rfl, E⟩ := hrel
    clear HS
    by_cases h0 : j = 0
    · subst h0
      have TL : Hid (¬ 0 ≤ ((0 : Nat) : Int) - 1) := by show ¬ _; omega
      have ET : Hid (B ^ (n.natAbs / 2 ^ 0) % m = powM a n m) := by show _ = _; unfold powM; rw [Nat.pow_zero, Nat.div_one, ← HB2.out]
      rw [ET.out] at E
      clear hj
      go_upto_region 12 with (fail)
      refine region_fr (C := [Fq.is (.int .i64 (((0 : Nat) : Int) - 1)), Fq.is (.bool false)]) (ks := [none, none, none, none, none, none, none, none]) (new := []) E rfl (by kernel_rfl) rfl rfl (fun hp => ⟨?_, ?_, trivial⟩) ?_
      · exact q_move hp (free_of rfl) trivial (sq_out rfl rfl (fun _ _ => rfl))
      · exact q_one (F := fun v _ => v = .int .i64 (((0 : Nat) : Int) - 1)) hp (free_of rfl) trivial (sq_in 0 rfl rfl (by simp) rfl (fun v w h => h)) (fun ρ w hc h => ⟨.bool false, by simp [execOp, go_sem, h, hc], rfl⟩)
      intro L vs w18 nb hL hC hn E18
      have e0 : vs 0 = .int .i64 (((0 : Nat) : Int) - 1) := hC 0 (by simp)
      have e1 : vs 1 = .bool false := hC 1 (by simp)
      have E : Fr w [(b16_3, 2, Fq.num (powM a n m)), (b11_6, 2, Fq.num (bezU (a % m) m)), (b8_3, 2, Fq.num B), (b6_1, 2, Fq.num m), (b4, 2, Fq.num 0), (b3, 2, Fq.num m), (b2, 2, Fq.num n), (b1, 2, Fq.num a)] w18 := E18
      rw [lay_all hL]
      simp only [putAll, dstOf, List.length_cons, List.length_nil, Nat.zero_add, Nat.reduceAdd, List.getElem?_toArray, List.getElem?_cons_zero, List.getElem?_cons_succ, Option.bind_some, Act.put, List.setIfInBounds_toArray, List.set_cons_succ, List.set_cons_zero]
      rw [e0, e1]
      clear e0 e1 hC hn E18 hL vs L nb
      clear TL
      go_upto_region 17 with (fail)
      refine region_fr (C := [Fq.num (powM a n m), Fq.any, Fq.is (.int .i64 0)]) (ks := [none, none, none, none, some (1, Fq.num (powM a n m)), none, none, none]) (new := []) E rfl (by kernel_rfl) rfl rfl (fun hp => ⟨?_, ?_, ?_, trivial⟩) ?_
      · exact q_loadInt (off := 0) hp (free_of rfl) trivial (List.mem_iff_getElem?.2 ⟨0, rfl⟩) (.inl rfl) (Nat.le_of_ble_eq_true rfl) (sq_out rfl rfl (fun _ _ => rfl)) (fun us w hl h => ld_num hl h)
      · exact q_storeOldInt hp (List.mem_iff_getElem?.2 ⟨4, rfl⟩) rfl rfl (sq_out rfl rfl (fun _ _ => rfl)) (sq_in 0 rfl rfl (by simp) rfl (fun v w h => intV_num h)) (fun _ _ => trivial) (newik_ne rfl)
      · exact q_assign hp (free_of rfl) trivial (sq_const (fun _ => rfl))
      intro L vs w19 nb hL hC hn E19
      have e2 : vs 2 = .int .i64 0 := hC 2 (by simp)
      have E : Fr w [(b16_3, 2, Fq.num (powM a n m)), (b11_6, 2, Fq.num (bezU (a % m) m)), (b8_3, 2, Fq.num B), (b6_1, 2, Fq.num m), (b4, 2, Fq.num (powM a n m)), (b3, 2, Fq.num m), (b2, 2, Fq.num n), (b1, 2, Fq.num a)] w19 := E19
      rw [lay_all hL]
      simp only [putAll, dstOf, List.length_cons, List.length_nil, Nat.zero_add, Nat.reduceAdd, List.getElem?_toArray, List.getElem?_cons_zero, List.getElem?_cons_succ, Option.bind_some, Act.put, List.setIfInBounds_toArray, List.set_cons_succ, List.set_cons_zero]
      rw [e2]
      generalize vs 0 = u19_0
      clear e2 hC hn E19 hL vs L nb
      clear HM HP HB2 HNB ET
      obtain ⟨p0, p1, c0, c1, hP⟩ := box_num (E.box 4 rfl)
      clear B7 B10 B14 B15 ha hn hm BB
      go_wp2
      refine bodyPost_ret (v := .tuple #[.agg #[p0, p1], .int .i64 0]) ?_ rfl ⟨_, rfl, E.below, ⟨_, _, rfl, hP, rfl⟩⟩
      simp [results, Tryd.results46, go_sem, c0, c1]
    · obtain ⟨i, rfl⟩ : ∃ i, j = i + 1 := ⟨j - 1, by omega⟩
      have ei : (((i + 1 : Nat) : Int) - 1) = (i : Int) := by omega
      rw [ei]
      have HJ := hidd hj
      obtain ⟨z, hz⟩ : ∃ z, z = B ^ (n.natAbs / 2 ^ (i + 1)) % m := ⟨_, rfl⟩
      rw [← hz] at E
      have Bz : Hid (ab z < pw 100) := by show _ < _; rw [hz]; exact ab_modB HM.out hm.out
      have HZ := hidd (pow_step hz)
      have TL : Hid (0 ≤ (i : Int)) := by show 0 ≤ _; omega
      have hw : wrap64 ((i : Int) - 1) = (i : Int) - 1 := by have := HJ.out; have := HNB.out; simp only [wrap64]; omega
      clear ei hz h0 hj
      go_upto_region 12 with (fail)
      refine region_fr (C := [Fq.is (.int .i64 (i : Int)), Fq.is (.bool true)]) (ks := [none, none, none, none, none, none, none, none]) (new := []) E rfl (by kernel_rfl) rfl rfl (fun hp => ⟨?_, ?_, trivial⟩) ?_
      · exact q_move hp (free_of rfl) trivial (sq_out rfl rfl (fun _ _ => rfl))
      · exact q_one (F := fun v _ => v = .int .i64 (i : Int)) hp (free_of rfl) trivial (sq_in 0 rfl rfl (by simp) rfl (fun v w h => h)) (fun ρ w hc h => ⟨.bool true, by simp [execOp, go_sem, h, hc, TL.out], rfl⟩)
      intro L vs w20 nb hL hC hn E20
      have e0 : vs 0 = .int .i64 (i : Int) := hC 0 (by simp)
      have e1 : vs 1 = .bool true := hC 1 (by simp)
      have E : Fr w [(b16_3, 2, Fq.num z), (b11_6, 2, Fq.num (bezU (a % m) m)), (b8_3, 2, Fq.num B), (b6_1, 2, Fq.num m), (b4, 2, Fq.num 0), (b3, 2, Fq.num m), (b2, 2, Fq.num n), (b1, 2, Fq.num a)] w20 := E20
      rw [lay_all hL]
      simp only [putAll, dstOf, List.length_cons, List.length_nil, Nat.zero_add, Nat.reduceAdd, List.getElem?_toArray, List.getElem?_cons_zero, List.getElem?_cons_succ, Option.bind_some, Act.put, List.setIfInBounds_toArray, List.set_cons_succ, List.set_cons_zero]
      rw [e0, e1]
      clear e0 e1 hC hn E20 hL vs L nb
      clear TL
      go_upto_region 14 with (fail)
      have B21 : Hid (ab ((z * z)) < pw 200) := ab_mulM Bz.out Bz.out (by omega)
      have B22 : Hid (ab (((z * z) % m)) < pw 100) := ab_modB HM.out hm.out
      refine region_fr (C := [Fq.is (cloV 72 b6_1), Fq.num z, Fq.num z, Fq.num (z * z), Fq.num ((z * z) % m), Fq.any]) (ks := [some (5, Fq.num ((z * z) % m)), none, none, none, none, none, none, none]) (new := []) E rfl (by kernel_rfl) rfl rfl (fun hp => ⟨?_, ?_, ?_, ?_, ?_, ?_, trivial⟩) ?_
      · exact q_move hp (free_of rfl) trivial (sq_out rfl rfl (fun _ _ => rfl))
      · exact q_loadInt (off := 0) hp (free_of rfl) trivial (List.mem_iff_getElem?.2 ⟨0, rfl⟩) (.inr rfl) (Nat.le_of_ble_eq_true rfl) (sq_out rfl rfl (fun _ _ => rfl)) (fun us w hl h => ld_num hl h)
      · exact q_loadInt (off := 0) hp (free_of rfl) trivial (List.mem_iff_getElem?.2 ⟨0, rfl⟩) (.inr rfl) (Nat.le_of_ble_eq_true rfl) (sq_out rfl rfl (fun _ _ => rfl)) (fun us w hl h => ld_num hl h)
      · exact q_call2 (F := (Fq.num z).P) (G := (Fq.num z).P) hp (free_of rfl) trivial (enq_Mul) (sq_in 1 rfl rfl (by simp) rfl (fun v w h => h)) (sq_in 2 rfl rfl (by simp) rfl (fun v w h => h)) (fun v v' w h h' => exK (MulV h h') B21.out (by omega))
      · exact q_callCloOut (F := (Fq.num (z * z)).P) hp (free_of rfl) trivial enq_M_within1 (List.mem_iff_getElem?.2 ⟨3, rfl⟩) rfl (sq_in 0 rfl rfl (by simp) rfl (fun v w h => h)) (sq_in 3 rfl rfl (by simp) rfl (fun v w h => h)) (fun v w h hb => exResidue h hb HM.out (Int.lt_of_lt_of_le B21.out (pw_le (by omega))) (Int.lt_of_lt_of_le hm.out (pw_le (by omega))))
      · exact q_storeOldInt hp (List.mem_iff_getElem?.2 ⟨0, rfl⟩) rfl rfl (sq_out rfl rfl (fun _ _ => rfl)) (sq_in 4 rfl rfl (by simp) rfl (fun v w h => intV_num h)) (fun _ _ => trivial) (newik_ne rfl)
      intro L vs w23 nb hL hC hn E23
      have e0 : vs 0 = cloV 72 b6_1 := hC 0 (by simp)
      have E : Fr w [(b16_3, 2, Fq.num ((z * z) % m)), (b11_6, 2, Fq.num (bezU (a % m) m)), (b8_3, 2, Fq.num B), (b6_1, 2, Fq.num m), (b4, 2, Fq.num 0), (b3, 2, Fq.num m), (b2, 2, Fq.num n), (b1, 2, Fq.num a)] w23 := E23
      rw [lay_all hL]
      simp only [putAll, dstOf, List.length_cons, List.length_nil, Nat.zero_add, Nat.reduceAdd, List.getElem?_toArray, List.getElem?_cons_zero, List.getElem?_cons_succ, Option.bind_some, Act.put, List.setIfInBounds_toArray, List.set_cons_succ, List.set_cons_zero]
      rw [e0]
      generalize vs 1 = u23_1
      generalize vs 2 = u23_2
      generalize vs 3 = u23_3
      generalize vs 4 = u23_4
      clear e0 hC hn E23 hL vs L nb
      by_cases hb : n.natAbs / 2 ^ i % 2 = 1
      · have TB : Hid (decide (n.natAbs / 2 ^ i % 2 = 1) = true) := decide_eq_true hb
        have EZ : Hid ((((z * z) % m) * B) % m = B ^ (n.natAbs / 2 ^ i) % m) := HZ.out.1 hb
        clear hb HZ
        go_upto_region 15 with (fail)
        refine region_fr (C := [Fq.num n, Fq.is (.int .i64 (i : Int)), Fq.is (.bool true)]) (ks := [none, none, none, none, none, none, none, none]) (new := []) E rfl (by kernel_rfl) rfl rfl (fun hp => ⟨?_, ?_, ?_, trivial⟩) ?_
        · exact q_loadInt (off := 0) hp (free_of rfl) trivial (List.mem_iff_getElem?.2 ⟨6, rfl⟩) (.inl rfl) (Nat.le_of_ble_eq_true rfl) (sq_out rfl rfl (fun _ _ => rfl)) (fun us w hl h => ld_num hl h)
        · exact q_move hp (free_of rfl) trivial (sq_out rfl rfl (fun _ _ => rfl))
        · exact q_call2 (F := (Fq.num n).P) (G := (Fq.is (.int .i64 (i : Int))).P) hp (free_of rfl) trivial (enq_M_bit) (sq_in 0 rfl rfl (by simp) rfl (fun v w h => h)) (sq_in 1 rfl rfl (by simp) rfl (fun v w h => h)) (fun v v' w h h' => (by subst h'; exact exBit h (by have := HJ.out; omega) TB.out))
        intro L vs w24 nb hL hC hn E24
        have e1 : vs 1 = .int .i64 (i : Int) := hC 1 (by simp)
        have e2 : vs 2 = .bool true := hC 2 (by simp)
        have E : Fr w [(b16_3, 2, Fq.num ((z * z) % m)), (b11_6, 2, Fq.num (bezU (a % m) m)), (b8_3, 2, Fq.num B), (b6_1, 2, Fq.num m), (b4, 2, Fq.num 0), (b3, 2, Fq.num m), (b2, 2, Fq.num n), (b1, 2, Fq.num a)] w24 := E24
        rw [lay_all hL]
        simp only [putAll, dstOf, List.length_cons, List.length_nil, Nat.zero_add, Nat.reduceAdd, List.getElem?_toArray, List.getElem?_cons_zero, List.getElem?_cons_succ, Option.bind_some, Act.put, List.setIfInBounds_toArray, List.set_cons_succ, List.set_cons_zero]
        rw [e1, e2]
        generalize vs 0 = u24_0
        clear e1 e2 hC hn E24 hL vs L nb
        clear TB
        go_upto_region 16 with (fail)
        have B25 : Hid (ab ((((z * z) % m) * B)) < pw 200) := ab_mulM B22.out BB.out (by omega)
        have B26 : Hid (ab (((((z * z) % m) * B) % m)) < pw 100) := ab_modB HM.out hm.out
        refine region_fr (C := [Fq.is (cloV 72 b6_1), Fq.num ((z * z) % m), Fq.num B, Fq.num (((z * z) % m) * B), Fq.num ((((z * z) % m) * B) % m), Fq.any]) (ks := [some (5, Fq.num ((((z * z) % m) * B) % m)), none, none, none, none, none, none, none]) (new := []) E rfl (by kernel_rfl) rfl rfl (fun hp => ⟨?_, ?_, ?_, ?_, ?_, ?_, trivial⟩) ?_
        · exact q_move hp (free_of rfl) trivial (sq_out rfl rfl (fun _ _ => rfl))
        · exact q_loadInt (off := 0) hp (free_of rfl) trivial (List.mem_iff_getElem?.2 ⟨0, rfl⟩) (.inr rfl) (Nat.le_of_ble_eq_true rfl) (sq_out rfl rfl (fun _ _ => rfl)) (fun us w hl h => ld_num hl h)
        · exact q_loadInt (off := 0) hp (free_of rfl) trivial (List.mem_iff_getElem?.2 ⟨2, rfl⟩) (.inl rfl) (Nat.le_of_ble_eq_true rfl) (sq_out rfl rfl (fun _ _ => rfl)) (fun us w hl h => ld_num hl h)
        · exact q_call2 (F := (Fq.num ((z * z) % m)).P) (G := (Fq.num B).P) hp (free_of rfl) trivial (enq_Mul) (sq_in 1 rfl rfl (by simp) rfl (fun v w h => h)) (sq_in 2 rfl rfl (by simp) rfl (fun v w h => h)) (fun v v' w h h' => exK (MulV h h') B25.out (by omega))
        · exact q_callCloOut (F := (Fq.num (((z * z) % m) * B)).P) hp (free_of rfl) trivial enq_M_within1 (List.mem_iff_getElem?.2 ⟨3, rfl⟩) rfl (sq_in 0 rfl rfl (by simp) rfl (fun v w h => h)) (sq_in 3 rfl rfl (by simp) rfl (fun v w h => h)) (fun v w h hb => exResidue h hb HM.out (Int.lt_of_lt_of_le B25.out (pw_le (by omega))) (Int.lt_of_lt_of_le hm.out (pw_le (by omega))))
        · exact q_storeOldInt hp (List.mem_iff_getElem?.2 ⟨0, rfl⟩) rfl rfl (sq_out rfl rfl (fun _ _ => rfl)) (sq_in 4 rfl rfl (by simp) rfl (fun v w h => intV_num h)) (fun _ _ => trivial) (newik_ne rfl)
        intro L vs w27 nb hL hC hn E27
        have e0 : vs 0 = cloV 72 b6_1 := hC 0 (by simp)
        have E : Fr w [(b16_3, 2, Fq.num ((((z * z) % m) * B) % m)), (b11_6, 2, Fq.num (bezU (a % m) m)), (b8_3, 2, Fq.num B), (b6_1, 2, Fq.num m), (b4, 2, Fq.num 0), (b3, 2, Fq.num m), (b2, 2, Fq.num n), (b1, 2, Fq.num a)] w27 := E27
        rw [lay_all hL]
        simp only [putAll, dstOf, List.length_cons, List.length_nil, Nat.zero_add, Nat.reduceAdd, List.getElem?_toArray, List.getElem?_cons_zero, List.getElem?_cons_succ, Option.bind_some, Act.put, List.setIfInBounds_toArray, List.set_cons_succ, List.set_cons_zero]
        rw [e0]
        generalize vs 1 = u27_1
        generalize vs 2 = u27_2
        generalize vs 3 = u27_3
        generalize vs 4 = u27_4
        clear e0 hC hn E27 hL vs L nb
        go_wp2
        go_roundw
        case rel => exact ⟨i, by have := HJ.out; omega, by first | go_num | (rw [hw]; go_num), by rw [← EZ.out]; exact E⟩
        case measure => first | exact measP | (rw [hw]; exact measP)
      · have TB : Hid (decide (n.natAbs / 2 ^ i % 2 = 1) = false) := decide_eq_false hb
        have EZ : Hid ((z * z) % m = B ^ (n.natAbs / 2 ^ i) % m) := HZ.out.2 hb
        clear hb HZ
        go_upto_region 15 with (fail)
        refine region_fr (C := [Fq.num n, Fq.is (.int .i64 (i : Int)), Fq.is (.bool false)]) (ks := [none, none, none, none, none, none, none, none]) (new := []) E rfl (by kernel_rfl) rfl rfl (fun hp => ⟨?_, ?_, ?_, trivial⟩) ?_
        · exact q_loadInt (off := 0) hp (free_of rfl) trivial (List.mem_iff_getElem?.2 ⟨6, rfl⟩) (.inl rfl) (Nat.le_of_ble_eq_true rfl) (sq_out rfl rfl (fun _ _ => rfl)) (fun us w hl h => ld_num hl h)
        · exact q_move hp (free_of rfl) trivial (sq_out rfl rfl (fun _ _ => rfl))
        · exact q_call2 (F := (Fq.num n).P) (G := (Fq.is (.int .i64 (i : Int))).P) hp (free_of rfl) trivial (enq_M_bit) (sq_in 0 rfl rfl (by simp) rfl (fun v w h => h)) (sq_in 1 rfl rfl (by simp) rfl (fun v w h => h)) (fun v v' w h h' => (by subst h'; exact exBit h (by have := HJ.out; omega) TB.out))
        intro L vs w28 nb hL hC hn E28
        have e1 : vs 1 = .int .i64 (i : Int) := hC 1 (by simp)
        have e2 : vs 2 = .bool false := hC 2 (by simp)
        have E : Fr w [(b16_3, 2, Fq.num ((z * z) % m)), (b11_6, 2, Fq.num (bezU (a % m) m)), (b8_3, 2, Fq.num B), (b6_1, 2, Fq.num m), (b4, 2, Fq.num 0), (b3, 2, Fq.num m), (b2, 2, Fq.num n), (b1, 2, Fq.num a)] w28 := E28
        rw [lay_all hL]
        simp only [putAll, dstOf, List.length_cons, List.length_nil, Nat.zero_add, Nat.reduceAdd, List.getElem?_toArray, List.getElem?_cons_zero, List.getElem?_cons_succ, Option.bind_some, Act.put, List.setIfInBounds_toArray, List.set_cons_succ, List.set_cons_zero]
        rw [e1, e2]
        generalize vs 0 = u28_0
        clear e1 e2 hC hn E28 hL vs L nb
        clear TB
        go_wp2
        go_roundw
        case rel => exact ⟨i, by have := HJ.out; omega, by first | go_num | (rw [hw]; go_num), by rw [← EZ.out]; exact E⟩
        case measure => first | exact measP | (rw [hw]; exact measP)

end Go.Proofs.YtieobgadihcgeaaDoor

/- Walks: trailing zeros, the last word, the symbols of 2 and of the second law, by words. -/
namespace Go.Proofs.YtieobgadihcgeaaDoor
open Go Go.RowKit

/-- The tables of math/bits, as their initialisers lay them. -/
def Tabs (w : World) : Prop := TabAt 0 Lib.deBruijn32tab w ∧ TabAt 1 Lib.deBruijn64tab w
theorem tabAt_mono {g : Nat} {tab : List Nat} {w w' : World} (h : TabAt g tab w) (hb : Below w.heap.size w w') : TabAt g tab w' := fun j hj => by
  have h1 := h j hj
  have h2 := World.block_lt_of_cell? w ⟨g, j, none⟩ h1
  exact (hb.cell (p := ⟨g, j, none⟩) h2).trans h1
theorem Tabs.mono {w w' : World} (h : Tabs w) (hb : Below w.heap.size w w') : Tabs w' := ⟨tabAt_mono h.1 hb, tabAt_mono h.2 hb⟩

theorem tz64_core (x k idx : Nat) (w : World) (hx0 : ((x : Int) == 0) = false)
    (key : IntKind.u64.wrap (bits BinOp.and IntKind.u64 (x : Int) (IntKind.u64.wrap (-(x : Int))) * 285870213051353865) / 288230376151711744 = (idx : Int))
    (hi : idx < 64) (hk : k < 64) (hcell : w.cell? ⟨1, idx, none⟩ = some (.int .u8 k)) :
    Calls Tryd.prog 86 #[.int .u64 x] w fun e w' => e = .returned (.int .i64 k) ∧ w' = w := by
  go_enter Tryd.func86, Tryd.ntmps86
  go_wp2_with (simp only [key])
  go_ret
  exact ⟨rfl, rfl⟩
theorem tz64_any (x : Nat) (hx : x < 18446744073709551616) (hx0 : x ≠ 0) (w : World) (hT : Tabs w) :
    Calls Tryd.prog 86 #[.int .u64 x] w fun e w' => e = .returned (.int .i64 (Lib.ctz 64 x)) ∧ w' = w := by
  obtain ⟨hlow, hk⟩ := Lib.lowest_bit 64 x hx0 hx
  obtain ⟨hi, htab⟩ := Lib.deBruijn64_at _ hk
  have hcell := hT.2 _ hi
  rw [htab] at hcell
  exact tz64_core x _ _ w (by simp; omega) (tz64_key x _ hx hx0 hlow) hi hk hcell
theorem tz32_core (x k idx : Nat) (w : World) (hx0 : ((x : Int) == 0) = false)
    (key : bits BinOp.and IntKind.u32 (x : Int) (-(x : Int) % 4294967296) * 125613361 % 4294967296 / 134217728 = (idx : Int))
    (hi : idx < 32) (hk : k < 32) (hcell : w.cell? ⟨0, idx, none⟩ = some (.int .u8 k)) :
    Calls Tryd.prog 74 #[.int .u32 x] w fun e w' => e = .returned (.int .i64 k) ∧ w' = w := by
  go_enter Tryd.func74, Tryd.ntmps74
  go_wp2_with (simp only [key])
  go_ret
  exact ⟨rfl, rfl⟩
theorem tz32_any (x : Nat) (hx : x < 4294967296) (hx0 : x ≠ 0) (w : World) (hT : Tabs w) :
    Calls Tryd.prog 74 #[.int .u32 x] w fun e w' => e = .returned (.int .i64 (Lib.ctz 32 x)) ∧ w' = w := by
  obtain ⟨hlow, hk⟩ := Lib.lowest_bit 32 x hx0 hx
  obtain ⟨hi, htab⟩ := Lib.deBruijn32_at _ hk
  have hcell := hT.1 _ hi
  rw [htab] at hcell
  exact tz32_core x _ _ w (by simp; omega) (tz32_key x _ hx hx0 hlow) hi hk hcell

/-- The last word of a number. -/
theorem low_any (w : World) (na : Bool) (ax : Option Addr) (n cx : Nat) (xs : List Int) (hX : Sl w ax n cx xs) (hb1 : n ≤ 1000000) :
    Calls Tryd.prog 50 #[.agg #[.bool na, .slice ax n cx]] w fun e w' => e = .returned (.int .u32 (val xs % 4294967296)) ∧ Below w.heap.size w w' := by
  have hX0 := hX.mono (alloc_below w (.cells #[.bool na, .slice ax n cx] 29))
  by_cases h0 : n = 0
  · subst h0
    have e : xs = [] := List.eq_nil_of_length_eq_zero hX.len
    subst e
    go_enter Tryd.func50, Tryd.ntmps50
    go_wp2
    go_ret
    exact ⟨rfl, alloc_below _ _⟩
  · have h1 : ((n : Int) == 0) = false := by simp; omega
    obtain ⟨b, off, rfl, hbl, x, hxc, hx0, hx1, HX⟩ := hX0.cells.at (k := 0) (by rw [hX.len]; omega)
    have hv : val xs % 4294967296 = x := by
      have h2 := val_drop_step xs (k := 0) (by rw [hX.len]; omega)
      rw [List.drop_zero, HX.out] at h2
      omega
    have HV := hidd hv
    clear hv
    have g1 : (0 : Int) < n := by omega
    rw [Nat.add_zero] at hxc
    go_enter Tryd.func50, Tryd.ntmps50
    go_wp2
    go_ret
    exact ⟨by rw [HV.out]; rfl, alloc_below _ _⟩
theorem exLow {w : World} {v : Value} {z : Int} (h : Num w v z) : Calls Tryd.prog 50 #[v] w fun e w' => ∃ v', e = .returned v' ∧ Below w.heap.size w w' ∧ v' = .int .u32 (ab z % 4294967296) := by
  obtain ⟨neg, ao, n, c, xs, rfl, hs, hn, hz, hc, _⟩ := h
  have h1 : ab z = val xs := by rw [hz, ab_sgn, ab_of (val_nonneg hs.digs)]
  rw [h1]
  exact (low_any _ _ _ _ _ _ hs (by omega)).mono fun e w' hh => ⟨_, hh.1, hh.2, rfl⟩

theorem and_u32 (a b : Nat) (ha : a < 4294967296) (hb : b < 4294967296) : bits .and .u32 (a : Int) (b : Int) = ((a &&& b : Nat) : Int) := bits_and_u32_nat a b ha hb
theorem and_seven (n : Nat) (h : n < 4294967296) : bits .and .u32 (n : Int) 7 = ((n % 8 : Nat) : Int) := by
  have := and_u32 n 7 h (by decide)
  have e : n &&& 7 = n % 8 := Nat.and_two_pow_sub_one_eq_mod n 3
  rw [e] at this
  exact this
theorem and_two (a n : Nat) (ha : a < 4294967296) (hn : n < 4294967296) : bits .and .u32 (bits .and .u32 (a : Int) (n : Int)) 3 = (((a % 4) &&& (n % 4) : Nat) : Int) := by
  have h0 : a &&& n < 2 ^ 32 := Nat.and_lt_two_pow _ (by omega)
  rw [and_u32 a n ha hn]
  have := and_u32 (a &&& n) 3 (by omega) (by decide)
  have e : (a &&& n) &&& 3 = (a &&& n) % 4 := Nat.and_two_pow_sub_one_eq_mod _ 2
  have e2 : (a &&& n) % 2 ^ 2 = (a % 2 ^ 2) &&& (n % 2 ^ 2) := Nat.and_mod_two_pow
  rw [e] at this
  rw [show ((3 : Nat) : Int) = 3 from rfl] at this
  rw [this]
  exact congrArg _ e2
theorem and_i64_one (k : Nat) (h : k < 9223372036854775808) : bits .and .i64 (k : Int) 1 = ((k % 2 : Nat) : Int) := by
  have h2 : (BitVec.ofInt 64 ((k : Nat) : Int)).toNat = k := by rw [BitVec.ofInt_natCast, BitVec.toNat_ofNat]; exact Nat.mod_eq_of_lt (by omega)
  show IntKind.i64.wrap (((BitVec.ofInt 64 (k : Int)) &&& (BitVec.ofInt 64 1)).toNat : Int) = _
  rw [BitVec.toNat_and, h2]
  have h3 : (BitVec.ofInt 64 1).toNat = 1 := rfl
  rw [h3, Nat.and_one_is_mod]
  exact IntWalk.i64_in _ (by omega)

/-- (2/n) to the power of k. -/
def twosI (k n : Nat) : Int := if k % 2 = 1 ∧ (n % 8 = 3 ∨ n % 8 = 5) then -1 else 1
def turnI (a n : Nat) : Int := if a % 4 = 3 ∧ n % 4 = 3 then -1 else 1
theorem ofTwos_any (w : World) (k n : Nat) (hk : k < 9223372036854775808) (hn : n < 4294967296) :
    Calls Tryd.prog 52 #[.int .i64 (k : Int), .int .u32 (n : Int)] w fun e w' => e = .returned (.int .i64 (twosI k n)) ∧ w' = w := by
  have e1 : bits .and .i64 (k : Int) 1 = (k : Int) % 2 := by rw [and_i64_one k hk]; omega
  have e2 : bits .and .u32 (n : Int) 7 = (n : Int) % 8 := by rw [and_seven n hn]; omega
  unfold twosI
  by_cases h1 : k % 2 = 1
  · have f1 : ((k : Int) % 2 == 1) = true := by simp; omega
    by_cases h2 : n % 8 = 3
    · have f2 : ((n : Int) % 8 == 3) = true := by simp; omega
      rw [if_pos ⟨h1, .inl h2⟩]
      clear h1 h2
      go_enter Tryd.func52, Tryd.ntmps52
      go_wp2_with (simp only [e1, e2, f1, f2])
      go_ret
      exact ⟨rfl, rfl⟩
    · have f2 : ((n : Int) % 8 == 3) = false := by simp; omega
      by_cases h3 : n % 8 = 5
      · have f3 : ((n : Int) % 8 == 5) = true := by simp; omega
        rw [if_pos ⟨h1, .inr h3⟩]
        clear h1 h2 h3
        go_enter Tryd.func52, Tryd.ntmps52
        go_wp2_with (simp only [e1, e2, f1, f2, f3])
        go_ret
        exact ⟨rfl, rfl⟩
      · have f3 : ((n : Int) % 8 == 5) = false := by simp; omega
        rw [if_neg (by omega)]
        clear h1 h2 h3
        go_enter Tryd.func52, Tryd.ntmps52
        go_wp2_with (simp only [e1, e2, f1, f2, f3])
        go_ret
        exact ⟨rfl, rfl⟩
  · have f1 : ((k : Int) % 2 == 1) = false := by simp; omega
    rw [if_neg (by omega)]
    clear h1
    go_enter Tryd.func52, Tryd.ntmps52
    go_wp2_with (simp only [e1, f1])
    go_ret
    exact ⟨rfl, rfl⟩
theorem and_three {a n : Nat} : ((a % 4) &&& (n % 4) = 3) ↔ a % 4 = 3 ∧ n % 4 = 3 := by
  have h1 : a % 4 = 0 ∨ a % 4 = 1 ∨ a % 4 = 2 ∨ a % 4 = 3 := by omega
  have h2 : n % 4 = 0 ∨ n % 4 = 1 ∨ n % 4 = 2 ∨ n % 4 = 3 := by omega
  rcases h1 with e | e | e | e <;> rcases h2 with f | f | f | f <;> rw [e, f] <;> decide
theorem turned_any (w : World) (a n : Nat) (ha : a < 4294967296) (hn : n < 4294967296) :
    Calls Tryd.prog 75 #[.int .u32 (a : Int), .int .u32 (n : Int)] w fun e w' => e = .returned (.int .i64 (turnI a n)) ∧ w' = w := by
  have e1 := and_two a n ha hn
  obtain ⟨X, hX⟩ : ∃ X : Int, X = (((a % 4) &&& (n % 4) : Nat) : Int) := ⟨_, rfl⟩
  rw [← hX] at e1
  unfold turnI
  by_cases h : a % 4 = 3 ∧ n % 4 = 3
  · have f1 : (X == 3) = true := by rw [hX, and_three.2 h]; rfl
    rw [if_pos h]
    clear h hX
    go_enter Tryd.func75, Tryd.ntmps75
    go_wp2_with (simp only [e1, f1])
    go_ret
    exact ⟨rfl, rfl⟩
  · have f1 : (X == 3) = false := by
      have := mt and_three.1 h
      rw [hX]
      simp
      omega
    rw [if_neg h]
    clear h hX
    go_enter Tryd.func75, Tryd.ntmps75
    go_wp2_with (simp only [e1, f1])
    go_ret
    exact ⟨rfl, rfl⟩

end Go.Proofs.YtieobgadihcgeaaDoor

/- The tables of math/bits, as they are listed: what the condition gives; a world that meets it. -/
namespace Go.Proofs.YtieobgadihcgeaaDoor
open Go Go.ChangeShapes Go.WideShapes Go.RowKit

def laidTabs : List (String × DataW Unit) := [("math/bits.deBruijn32tab", Rows.laid_math_bits_deBruijn32tab), ("math/bits.deBruijn64tab", Rows.laid_math_bits_deBruijn64tab)]
theorem ownK : ownKnob Tryd.prog.godebug = none := by kernel_rfl
theorem g32tab : Tryd.prog.globalNamed "math/bits.deBruijn32tab" = some 0 := by kernel_rfl
theorem g64tab : Tryd.prog.globalNamed "math/bits.deBruijn64tab" = some 1 := by kernel_rfl
theorem t32tab : (Tryd.prog.globals[0]?).map (·.type) = some 105 := by kernel_rfl
theorem t64tab : (Tryd.prog.globals[1]?).map (·.type) = some 108 := by kernel_rfl
theorem laid32 : (Rows.laid_math_bits_deBruijn32tab : DataW Unit) = .agg (Lib.deBruijn32tab.map fun x : Nat => DataW.lit (.int .u8 (x : Int))) := by kernel_rfl
theorem laid64 : (Rows.laid_math_bits_deBruijn64tab : DataW Unit) = .agg (Lib.deBruijn64tab.map fun x : Nat => DataW.lit (.int .u8 (x : Int))) := by kernel_rfl

/-- A table of bytes, read as data. -/
theorem tab_of_trod {W : World} {nm : String} {g n : Nat} {t : TypeId} {fuel : Nat} {cs : Array Value} {q : List MemPlace} {tab : List Nat} (hg : Tryd.prog.globalNamed nm = some g) (hv : W.var? Tryd.prog nm = some cs) (ht : Tryd.prog.underlying t = some (.array n 5)) (hn : tab.length = n)
    (h : DataW.trod (fun _ => ()) Tryd.prog W 0 (fun _ => true) false fuel t cs.toList = some (.agg (tab.map fun x : Nat => DataW.lit (.int .u8 (x : Int))), q)) : TabAt g tab W := by
  intro j hj
  obtain ⟨xs, m, rfl, hx, hlen, hxn, hel⟩ := DataW.trod_array ht h
  have c1 : Tryd.prog.cellsOf 5 = 1 := by kernel_rfl
  have h0 := hel j (by omega)
  rw [c1, Nat.mul_one] at h0
  have hjx : j < xs.length := by omega
  rw [List.getElem?_eq_getElem hjx] at h0
  obtain ⟨k, e1, e2, _⟩ := DataW.trod_int Tryd.underlying5 h0
  simp only [Prod.mk.injEq, DataW.agg.injEq] at hx
  have e3 := congrArg (fun l => l[j]?) hx.1
  simp only [List.getElem?_map, List.getElem?_eq_getElem hj, List.getElem?_eq_getElem hjx, Option.map_some, e2, Option.some.injEq, DataW.lit.injEq, Lit.int.injEq, true_and] at e3
  rw [World.var?_cell hg hv j, show tab.getD j 0 = tab[j] by simp [hj], e3]
  have hjl : j < cs.toList.length := by
    rcases Nat.lt_or_ge j cs.toList.length with h | h
    · exact h
    · rw [List.drop_eq_nil_of_le h] at e1; cases e1
  rw [List.drop_eq_getElem_cons hjl] at e1
  simp only [List.take_succ_cons, List.take_zero, List.cons.injEq, and_true] at e1
  rw [← Array.getElem?_toList, List.getElem?_eq_getElem hjl, e1]

theorem tabs_of_laid {W : World} (h : laidMetH Tryd.prog laidTabs W) : Tabs W := by
  rw [MakeChecks.laidMetH_plain _ _ _ (by kernel_rfl)] at h
  obtain ⟨ps, ⟨g0, t0, cs0, f0, p0, q0, hg0, ht0, hv0, hd0, ⟨g1, t1, cs1, f1, p1, q1, hg1, ht1, hv1, hd1, _, _⟩, _⟩, _, _⟩ := h
  obtain rfl := Option.some.inj (g32tab.symm.trans hg0)
  obtain rfl := Option.some.inj (g64tab.symm.trans hg1)
  obtain rfl := Option.some.inj (t32tab.symm.trans ht0)
  obtain rfl := Option.some.inj (t64tab.symm.trans ht1)
  rw [laid32] at hd0
  rw [laid64] at hd1
  exact ⟨tab_of_trod hg0 hv0 Tryd.underlying105 rfl hd0, tab_of_trod hg1 hv1 Tryd.underlying108 rfl hd1⟩

/-- The door's own heap meets the condition. -/
theorem door_met (os : Os) (args : Array Value) : laidMetH Tryd.prog laidTabs ((World.doorLaid Tryd.prog 400 os).forCall (fun _ _ => 0) ⟨#[], args, []⟩).memory :=
  laidMetH_of_parts3 (fuel := 8) (laidMet_of_run' 8 (by kernel_rfl) (by kernel_rfl)) (by kernel_rfl) (by kernel_rfl)
end Go.Proofs.YtieobgadihcgeaaDoor

/- What the laws' rows share: an argument of two fields, a bool and a slice of words, opened; old memory reads as it did. -/
namespace Go.Proofs.YtieobgadihcgeaaDoor
open Go Go.ChangeShapes Go.WideShapes Go.ChangeAt Go.RowKit Go.Joins Go.Deep

theorem own : ownKnob Tryd.prog.godebug = none := by kernel_rfl
theorem laidOut : laidOutB Tryd.prog = true := by kernel_rfl

set_option maxRecDepth 20000 in
/-- A bool and a slice of words, by value: the argument's value, and its words in memory. -/
theorem open_raw {H : Type} {enc : TypeId × Value → H} {W : World} {r : Reach} {b0 : Nat} {t : TypeId} {f0 f1 : Field} (hs : Tryd.prog.underlying t = some (.struct #[f0, f1])) (h0 : f0.type = 4) (h1 : f1.type = 22) (hone : oneCellFields Tryd.prog #[f0, f1] = true)
    (hC : Tryd.prog.cellsOf t = 2) {v : Value} {d : DataW H} {p : List MemPlace} (hv : Value.okWide Tryd.prog W r b0 t v) (h : DataW.Trod enc Tryd.prog W 0 (fun _ => true) true t v d p) (hlt : ∀ x ∈ p, x.block < W.heap.size) :
    ∃ (neg : Bool) (ao : Option Addr) (n c : Nat) (xs : List Int), v = .agg #[.bool neg, .slice ao n c] ∧ Sl W ao n c xs ∧ n ≤ 9223372036854775807 := by
  obtain ⟨v0, v1, y0, y1, k, rfl, _, hp, t0, t1⟩ := open_agg2 hs hone hC hv h
  rw [h0] at t0
  rw [h1] at t1
  obtain ⟨neg, hneg, _⟩ := DataW.trod_bool Tryd.underlying4 t0
  simp at hneg
  subst hneg
  rcases open_ints Tryd.underlying22 Tryd.underlying77 (by kernel_rfl) t1 with ⟨hcs, _⟩ | ⟨a, len, cap, zs, hcs, _, hl, hm, hz, hx, hcell, hw⟩
  · simp at hcs
    subst hcs
    exact ⟨neg, none, 0, 0, [], rfl, Sl.nil W, by omega⟩
  · simp at hcs
    subst hcs
    simp only [if_true] at hz
    have hd : Digs (zs.take len) := fun x hx => by
      have := hw x (List.mem_of_mem_take hx)
      simp only [Lit.wf, IntKind.min, IntKind.max, IntKind.signed, IntKind.bits, Bool.and_eq_true] at this
      unfold Dig
      simp at this
      omega
    refine ⟨neg, some a, len, cap, zs.take len, rfl, ⟨by rw [List.length_take]; omega, hl, hd, ?_⟩, by unfold maxLen at hm; omega⟩
    by_cases hl0 : len = 0
    · left; rw [hl0]; simp
    · right
      obtain ⟨b, off, spot⟩ := a
      have hspot : spot = none := by simpa [Addr.add] using World.cell?_spot (hcell 0 (by omega))
      subst hspot
      refine ⟨b, off, rfl, hlt (.cell b off) ?_, fun j hj => ?_⟩
      · rw [hp, hx]
        exact List.mem_append_right _ (MemPlace.mem_row.2 ⟨0, by omega, by simp⟩)
      · have hj2 : j < len := by rw [List.length_take] at hj; omega
        rw [← add_plain, hcell j (by omega)]
        simp [List.getD, hj2]

end Go.Proofs.YtieobgadihcgeaaDoor

/- Walk: the symbol of words. -/
namespace Go.Proofs.YtieobgadihcgeaaDoor
open Go Go.RowKit

def twosZ (k n : Int) : Int := if k % 2 = 1 ∧ (n % 8 = 3 ∨ n % 8 = 5) then -1 else 1
def turnZ (a n : Int) : Int := if a % 4 = 3 ∧ n % 4 = 3 then -1 else 1
theorem ofTwosZ (w : World) {k n : Int} (k0 : 0 ≤ k) (k1 : k < 9223372036854775808) (n0 : 0 ≤ n) (n1 : n < 4294967296) :
    Calls Tryd.prog 52 #[.int .i64 k, .int .u32 n] w fun e w' => e = .returned (.int .i64 (twosZ k n)) ∧ w' = w := by
  obtain ⟨k', rfl⟩ := Int.eq_ofNat_of_zero_le k0
  obtain ⟨n', rfl⟩ := Int.eq_ofNat_of_zero_le n0
  have e : twosZ (k' : Int) (n' : Int) = twosI k' n' := by
    unfold twosZ twosI
    by_cases h : k' % 2 = 1 ∧ (n' % 8 = 3 ∨ n' % 8 = 5)
    · rw [if_pos h, if_pos (by omega)]
    · rw [if_neg h, if_neg (by omega)]
  rw [e]
  exact ofTwos_any w k' n' (by omega) (by omega)
theorem turnedZ (w : World) {a n : Int} (k0 : 0 ≤ a) (k1 : a < 4294967296) (n0 : 0 ≤ n) (n1 : n < 4294967296) :
    Calls Tryd.prog 75 #[.int .u32 a, .int .u32 n] w fun e w' => e = .returned (.int .i64 (turnZ a n)) ∧ w' = w := by
  obtain ⟨k', rfl⟩ := Int.eq_ofNat_of_zero_le k0
  obtain ⟨n', rfl⟩ := Int.eq_ofNat_of_zero_le n0
  have e : turnZ (k' : Int) (n' : Int) = turnI k' n' := by
    unfold turnZ turnI
    by_cases h : k' % 4 = 3 ∧ n' % 4 = 3
    · rw [if_pos h, if_pos (by omega)]
    · rw [if_neg h, if_neg (by omega)]
  rw [e]
  exact turned_any w k' n' (by omega) (by omega)
theorem twosZ_or (k n : Int) : twosZ k n = 1 ∨ twosZ k n = -1 := by unfold twosZ; split <;> simp
theorem turnZ_or (a n : Int) : turnZ a n = 1 ∨ turnZ a n = -1 := by unfold turnZ; split <;> simp

theorem J_pow2 {n : Nat} (ho : n % 2 = 1) (a : Int) : ∀ t : Nat, J (2 ^ t * a) n = twosZ t n * J a n
  | 0 => by
    have : twosZ ((0 : Nat) : Int) n = 1 := by unfold twosZ; rw [if_neg (by omega)]
    rw [this, Int.pow_zero, Int.one_mul, Int.one_mul]
  | t + 1 => by
    have ih := J_pow2 ho a t
    have e : (2 : Int) ^ (t + 1) * a = 2 * (2 ^ t * a) := by rw [Int.pow_succ]; ac_rfl
    rw [e, J_mul ho, ih, J_two ho, ← Int.mul_assoc]
    congr 1
    unfold twosZ
    by_cases h : n % 8 = 3 ∨ n % 8 = 5
    · rw [if_pos h]
      by_cases ht : t % 2 = 1
      · rw [if_pos (by omega), if_neg (by omega)]; rfl
      · rw [if_neg (by omega), if_pos (by omega)]; rfl
    · rw [if_neg h, if_neg (by omega), if_neg (by omega)]; rfl
theorem J_swap {a n : Nat} (ha : a % 2 = 1) (hn : n % 2 = 1) : J a n = turnZ a n * J ((n : Int) % a) a := by
  rw [J_rec ha hn, J_mod]
  congr 1
  unfold turnZ
  by_cases h : a % 4 = 3 ∧ n % 4 = 3
  · rw [if_pos h, if_pos (by omega)]
  · rw [if_neg h, if_neg (by omega)]
/-- A step of the symbol. -/
theorem J_step {t o n : Nat} (ho : o % 2 = 1) (hn : n % 2 = 1) : J ((2 ^ t * o : Nat) : Int) n = twosZ t n * turnZ o n * J ((n : Int) % o) o := by
  have : ((2 ^ t * o : Nat) : Int) = 2 ^ t * (o : Int) := by simp
  rw [this, J_pow2 hn, J_swap ho hn, Int.mul_assoc]
theorem twosZ_mod (k n : Int) : twosZ k (n % 4294967296) = twosZ k n := by
  unfold twosZ
  have : (n % 4294967296) % 8 = n % 8 := by omega
  rw [this]
theorem turnZ_mod (a n : Int) : turnZ (a % 4294967296) (n % 4294967296) = turnZ a n := by
  unfold turnZ
  have e1 : (a % 4294967296) % 4 = a % 4 := by omega
  have e2 : (n % 4294967296) % 4 = n % 4 := by omega
  rw [e1, e2]
theorem J_zero {n : Nat} : J 0 n = if n = 1 then 1 else 0 := by
  by_cases h : n = 1
  · subst h
    rw [if_pos rfl]
    rfl
  · rw [if_neg h, J_not]
    simpa using h

theorem measJ' {n o a : Nat} (h0 : 0 < o) (h : o ≤ a) : (intOf (.int .u64 ((n : Int) % (o : Int)))).toNat < (intOf (.int .u64 (a : Int))).toNat := by
  have h1 := Int.emod_nonneg (n : Int) (show (o : Int) ≠ 0 by omega)
  have h2 := Int.emod_lt_of_pos (n : Int) (show (0 : Int) < o by omega)
  simp only [intOf]
  omega

set_option maxRecDepth 20000 in
set_option maxHeartbeats 2000000 in
theorem jacobiWords_any (w : World) (hT : Tabs w) (a0 n0 : Nat) (ha : a0 < 18446744073709551616) (hn : n0 < 18446744073709551616) (ho : n0 % 2 = 1) :
    Calls Tryd.prog 76 #[.int .u64 (a0 : Int), .int .u64 (n0 : Int)] w fun e w' => e = .returned (.int .i64 (J a0 n0)) ∧ w' = w := by
  go_enter Tryd.func76, Tryd.ntmps76
  go_wp2
  go_loopw [0, 1, 5] (fun va vn vs W => ∃ (a n : Nat) (s : Int), va = .int .u64 (a : Int) ∧ vn = .int .u64 (n : Int) ∧ vs = .int .i64 s ∧ W = w ∧ a < 18446744073709551616 ∧ n < 18446744073709551616 ∧ n % 2 = 1 ∧ (s = 1 ∨ s = -1) ∧ J a0 n0 = s * J a n) (fun va _ _ _ => (intOf va).toNat)
  case atStart => exact ⟨a0, n0, 1, rfl, rfl, rfl, rfl, ha, hn, ho, .inl rfl, by rw [Int.one_mul]⟩
  case round =>
    obtain ⟨a, n, s, rfl, rfl, rfl, rfl, h1, h2, h3, hs, hJ⟩ := hrel
    have HT := hidd hT
    clear hT
    by_cases h0 : a = 0
    · subst h0
      rw [show ((0 : Nat) : Int) = 0 from rfl, J_zero] at hJ
      by_cases hn1 : n = 1
      · subst hn1
        rw [if_pos rfl, Int.mul_one] at hJ
        have HJ := hidd hJ
        clear hJ
        go_wp2
        go_ret
        exact ⟨by rw [HJ.out]; rfl, rfl⟩
      · have f1 : ((n : Int) != 1) = true := by simp; omega
        rw [if_neg hn1, Int.mul_zero] at hJ
        have HJ := hidd hJ
        clear hJ hn1
        go_wp2
        go_ret
        exact ⟨by rw [HJ.out]; rfl, rfl⟩
    · have f0 : ((a : Int) != 0) = true := by simp; omega
      obtain ⟨m, hm, hk⟩ := Lib.ctzFrom_spec 64 a (by omega) (by omega)
      have hc := tz64_any a h1 h0 wr HT.out
      have ec : Lib.ctz 64 a = Lib.ctzFrom 64 a := by unfold Lib.ctz; rw [if_neg h0]
      rw [ec] at hc
      obtain ⟨t, ht⟩ : ∃ t, t = Lib.ctzFrom 64 a := ⟨_, rfl⟩
      rw [← ht] at hm hk hc
      obtain ⟨o, ho2⟩ : ∃ o, o = 2 * m + 1 := ⟨_, rfl⟩
      rw [← ho2] at hm
      have hoo : o % 2 = 1 := by omega
      have hp : 0 < 2 ^ t := Nat.two_pow_pos t
      have hoa : o ≤ a := by rw [hm]; exact Nat.le_mul_of_pos_left o hp
      have hdiv : (a : Int) / 2 ^ min t 64 = (o : Int) := by
        rw [Nat.min_eq_left (by omega)]
        have : (a : Int) = 2 ^ t * (o : Int) := by rw [hm]; simp
        rw [this]
        exact Int.mul_ediv_cancel_left _ (by have := pow_two_pos t; omega)
      have hstep := J_step (t := t) hoo h3
      rw [← hm] at hstep
      have cA := ofTwosZ wr (k := (t : Int)) (n := (n : Int) % 4294967296) (by omega) (by omega) (by omega) (by omega)
      have cB := turnedZ wr (a := (o : Int) % 4294967296) (n := (n : Int) % 4294967296) (by omega) (by omega) (by omega) (by omega)
      rw [twosZ_mod] at cA
      rw [turnZ_mod] at cB
      have hA := twosZ_or t n
      have hB := turnZ_or o n
      generalize twosZ (t : Int) (n : Int) = A at *
      generalize turnZ (o : Int) (n : Int) = B at *
      have g1 : IntKind.i64.wrap (A * B) = A * B := IntWalk.i64_in _ (by rcases hA with rfl | rfl <;> rcases hB with rfl | rfl <;> decide)
      have g2 : IntKind.i64.wrap (s * (A * B)) = s * (A * B) := IntWalk.i64_in _ (by rcases hs with rfl | rfl <;> rcases hA with rfl | rfl <;> rcases hB with rfl | rfl <;> decide)
      have g3 : ((o : Int) == 0) = false := by simp; omega
      have g4 : ¬ (o : Int) = 0 := by omega
      have g5 : ¬ o = 0 := by omega
      have HS : Hid ((s * (A * B) = 1 ∨ s * (A * B) = -1) ∧ J a0 n0 = s * (A * B) * J ((n : Int) % o) o) := by
        refine ⟨by rcases hs with rfl | rfl <;> rcases hA with rfl | rfl <;> rcases hB with rfl | rfl <;> simp, ?_⟩
        rw [hJ, hstep]
        ac_rfl
      have HC := hidd hc
      have CA := hidd cA
      have CB := hidd cB
      have HO := hidd (show 0 < o ∧ o ≤ a ∧ o < 18446744073709551616 ∧ o % 2 = 1 by omega)
      clear hm hk ht hp hoo hoa ho2 hJ hstep hs hA hB hc cA cB ec h0
      go_wp2_with (first | (go_at_call 86; (with_reducible refine (Calls.mono HC.out ?_)); rintro e w' ⟨rfl, rfl⟩) | (go_at_call 52; (with_reducible refine (Calls.mono CA.out ?_)); rintro e w' ⟨rfl, rfl⟩) | (go_at_call 75; (with_reducible refine (Calls.mono CB.out ?_)); rintro e w' ⟨rfl, rfl⟩))
      refine ⟨⟨n % o, o, _, rfl, rfl, rfl, trivial, ?_, HO.out.2.2.1, HO.out.2.2.2, HS.out.1, by simpa using HS.out.2⟩, measJ' HO.out.1 HO.out.2.1⟩
      have := Nat.mod_lt n HO.out.1
      have := HO.out
      omega

end Go.Proofs.YtieobgadihcgeaaDoor

/- Walk: the odd part of a number. -/
namespace Go.Proofs.YtieobgadihcgeaaDoor
open Go Go.RowKit

theorem two_uniq {a b m n : Nat} (h : 2 ^ a * (2 * m + 1) = 2 ^ b * (2 * n + 1)) : a = b := by
  rcases Nat.lt_trichotomy a b with hl | hl | hl
  · exfalso
    obtain ⟨d, rfl⟩ : ∃ d, b = a + (d + 1) := ⟨b - a - 1, by omega⟩
    rw [Nat.pow_add, Nat.mul_assoc, Nat.pow_succ] at h
    have := Nat.eq_of_mul_eq_mul_left (Nat.two_pow_pos a) h
    rw [Nat.mul_comm (2 ^ d) 2, Nat.mul_assoc] at this
    omega
  · exact hl
  · exfalso
    obtain ⟨d, rfl⟩ : ∃ d, a = b + (d + 1) := ⟨a - b - 1, by omega⟩
    rw [Nat.pow_add, Nat.mul_assoc, Nat.pow_succ] at h
    have := Nat.eq_of_mul_eq_mul_left (Nat.two_pow_pos b) h
    rw [Nat.mul_comm (2 ^ d) 2, Nat.mul_assoc] at this
    omega
/-- How often 2 divides a number. -/
def v2 (z : Int) : Nat := Lib.ctzFrom (nbits z) z.natAbs
theorem v2_spec {z : Int} (h : z ≠ 0) : ∃ m : Nat, z.natAbs = 2 ^ v2 z * (2 * m + 1) ∧ v2 z < nbits z := by
  refine Lib.ctzFrom_spec _ _ (by omega) ?_
  rcases nbits_isBits z with ⟨h1, _⟩ | ⟨_, _, h3⟩
  · unfold ab at h1; omega
  · unfold ab at h3; exact_mod_cast h3
theorem v2_eq {z : Int} (h : z ≠ 0) {t m : Nat} (e : z.natAbs = 2 ^ t * (2 * m + 1)) : v2 z = t := by
  obtain ⟨n, h1, _⟩ := v2_spec h
  exact two_uniq (h1.symm.trans e)
theorem v2_div {z : Int} (h : z ≠ 0) : z = 2 ^ v2 z * (z / 2 ^ v2 z) ∧ (z / 2 ^ v2 z) % 2 = 1 := by
  obtain ⟨m, h1, _⟩ := v2_spec h
  generalize v2 z = t at *
  have hp := pow_two_pos t
  have e : z = 2 ^ t * (2 * (m : Int) + 1) ∨ z = 2 ^ t * (2 * (-(m : Int) - 1) + 1) := by
    have h2 : (z.natAbs : Int) = 2 ^ t * (2 * (m : Int) + 1) := by rw [h1]; simp
    have h3 : (2 : Int) ^ t * (2 * (-(m : Int) - 1) + 1) = -(2 ^ t * (2 * (m : Int) + 1)) := by
      rw [← Int.mul_neg]; congr 1; omega
    rw [h3]
    omega
  rcases e with e | e
  · have : z / 2 ^ t = 2 * (m : Int) + 1 := by rw [e]; exact Int.mul_ediv_cancel_left _ (by omega)
    rw [this]; exact ⟨e, by omega⟩
  · have : z / 2 ^ t = 2 * (-(m : Int) - 1) + 1 := by rw [e]; exact Int.mul_ediv_cancel_left _ (by omega)
    rw [this]; exact ⟨e, by omega⟩
/-- A size whose first words are nothing. -/
theorem val_low {xs : List Int} : ∀ {j : Nat}, j ≤ xs.length → (∀ i, i < j → xs.getD i 0 = 0) → val xs = pw j * val (xs.drop j)
  | 0, _, _ => by rw [pw_zero, List.drop_zero, Int.one_mul]
  | j + 1, hj, h => by
    rw [val_low (j := j) (by omega) (fun i hi => h i (by omega)), val_drop_step xs (by omega), h j (by omega), Int.zero_add, pw_succ, Int.mul_assoc]
theorem val_twos {xs : List Int} {j : Nat} (hd : Digs xs) (hj : j < xs.length) (h : ∀ i, i < j → xs.getD i 0 = 0) {x : Nat} (hx : xs.getD j 0 = (x : Int)) (h0 : x ≠ 0) (h1 : x < 4294967296) :
    ∃ m : Nat, (val xs).natAbs = 2 ^ (32 * j + Lib.ctz 32 x) * (2 * m + 1) ∧ Lib.ctz 32 x < 32 := by
  obtain ⟨m, hm, hk⟩ := Lib.ctzFrom_spec 32 x (by omega) h1
  have ec : Lib.ctz 32 x = Lib.ctzFrom 32 x := by unfold Lib.ctz; rw [if_neg h0]
  rw [ec]
  generalize Lib.ctzFrom 32 x = c at *
  have hr := val_nonneg (hd.drop (j + 1))
  obtain ⟨r, hr⟩ := Int.eq_ofNat_of_zero_le hr
  have e := val_low (Nat.le_of_lt hj) h
  rw [val_drop_step xs hj, hx, hr] at e
  refine ⟨m + 2 ^ (31 - c) * r, ?_, hk⟩
  have e2 : val xs = ((2 ^ (32 * j) * (x + 4294967296 * r) : Nat) : Int) := by rw [e, pw_two]; simp
  rw [e2, Int.natAbs_natCast, Nat.pow_add, Nat.mul_assoc]
  congr 1
  have e3 : 4294967296 = 2 ^ c * (2 * 2 ^ (31 - c)) := by
    have : (4294967296 : Nat) = 2 ^ (c + ((31 - c) + 1)) := by rw [show c + ((31 - c) + 1) = 32 by omega]
    rw [this, Nat.pow_add, Nat.pow_succ, Nat.mul_comm (2 ^ (31 - c)) 2]
  rw [e3, hm, Nat.mul_assoc, ← Nat.mul_add]
  congr 1
  rw [Nat.mul_add, Nat.mul_assoc]
  omega
theorem val_unit (j : Nat) (x : Int) : val ((List.replicate (j + 1) 0).set j x) = pw j * x := by
  have h := val_take_succ ((List.replicate (j + 1) (0 : Int)).set j x) j
  rw [val_take_all _ (by simp), val_take_set _ _ _ _ (Nat.le_refl _), List.take_replicate, val_replicate, getD_set _ _ _ (by simp), Int.zero_add] at h
  exact h

theorem exTz32 {w : World} {x : Int} (hT : Tabs w) (h0 : 0 < x) (h1 : x < 4294967296) : Calls Tryd.prog 74 #[.int .u32 x] w fun e w' => e = .returned (.int .i64 (Lib.ctz 32 x.toNat)) ∧ w' = w := by
  obtain ⟨n, rfl⟩ := Int.eq_ofNat_of_zero_le (show 0 ≤ x by omega)
  exact tz32_any n (by omega) (by omega) w hT

theorem wrd_aux {t n : Nat} (h : t < 32 * n) (hn : n ≤ 300) : wrap64 ((t : Int) / 32) = (t : Int) / 32 ∧ wrap64 ((t : Int) / 32 + 1) = (t : Int) / 32 + 1 ∧ t / 32 + 1 ≤ 1000 := by
  simp only [wrap64]
  omega
theorem cast_div32 (t : Nat) : (t : Int) / 32 + 1 = ((t / 32 + 1 : Nat) : Int) := by omega
theorem idx_aux (t : Nat) : (0 : Int) ≤ (t : Int) / 32 ∧ (t : Int) / 32 < ((t / 32 + 1 : Nat) : Int) ∧ (0 : Int) ≤ (t : Int) % 32 := by omega
theorem pow_word (t : Nat) : Dig ((2 : Int) ^ (t % 32) % 4294967296) ∧ (2 : Int) ^ (t % 32) % 4294967296 = 2 ^ (t % 32) := by
  have h : (2 : Int) ^ (t % 32) ≤ 2 ^ 31 := two_pow_le (by omega)
  have h0 := pow_two_pos (t % 32)
  unfold Dig
  omega
theorem pow_num {w : World} {e : TypeId} {b t : Nat} (h : Row w e b ((List.replicate (t / 32 + 1) 0).set (t / 32) (2 ^ (t % 32) % 4294967296))) (ht : t / 32 + 1 ≤ 1000) :
    Num w (.agg #[.bool false, .slice (some ⟨b, 0, none⟩) (t / 32 + 1) (t / 32 + 1)]) (2 ^ t) := by
  have hl : ((List.replicate (t / 32 + 1) (0 : Int)).set (t / 32) (2 ^ (t % 32) % 4294967296)).length = t / 32 + 1 := by simp
  have hs := h.sl hl
  have hv := val_unit (t / 32) ((2 : Int) ^ (t % 32) % 4294967296)
  rw [(pow_word t).2] at hv
  have e2 : pw (t / 32) * (2 : Int) ^ (t % 32) = 2 ^ t := by rw [pw_two, ← Int.pow_add]; congr 1; omega
  rw [e2] at hv
  have hp := pow_two_pos (t % 32)
  refine ⟨false, _, _, _, _, rfl, hs, by omega, ?_, ⟨hs.digs, .inr ?_⟩, fun h => by cases h⟩
  · rw [(pow_word t).2, hv]; rfl
  · rw [hl, Nat.add_sub_cancel, (pow_word t).2, hv, ← e2]
    have := Int.mul_le_mul_of_nonneg_left (show 1 ≤ (2 : Int) ^ (t % 32) by omega) (show 0 ≤ pw (t / 32) by have := pw_pos (t / 32); omega)
    omega
theorem pow_boundM {t m : Nat} (h : t ≤ 32 * m) : ab ((2 : Int) ^ t) < pw (m + 1) := by
  have h0 := pow_two_pos t
  rw [ab_of (by omega)]
  have h1 : (2 : Int) ^ t ≤ 2 ^ (32 * m) := two_pow_le h
  rw [← pw_two] at h1
  rw [pw_succ]
  have := pw_pos m
  omega
theorem pow_bound {t n : Nat} (h : t < 32 * n) (hn : n ≤ 300) : ab ((2 : Int) ^ t) < pw 301 := pow_boundM (m := 300) (by omega)
/-- A number, and another one in memory. -/
def Fq.numAnd (z : Int) (v0 : Value) (e : Int) : Fq := ⟨fun v w => Num w v z ∧ Num w v0 e, fun h hb => ⟨h.1.mono hb, h.2.mono hb⟩, fun h ha ht hl => ⟨h.1.putAt ha ht hl, h.2.putAt ha ht hl⟩⟩
theorem Fr.numAnd {w0 W : World} {b b' : Nat} {z z' e : Int} {v0 : Value} (h : Fr w0 [(b', 2, Fq.num z'), (b, 2, Fq.num z)] W) (hv : Num W v0 e) : Fr w0 [(b', 2, Fq.num z'), (b, 2, Fq.numAnd z v0 e)] W := by
  refine ⟨h.below, fun x hx => ?_, h.apart⟩
  rcases List.mem_cons.1 hx with rfl | hx
  · exact h.boxes _ (List.mem_cons_self ..)
  · rw [List.mem_singleton] at hx
    subst hx
    obtain ⟨h1, us, a1, a2, a3, a4, a5⟩ := h.boxes (b, 2, Fq.num z) (by simp)
    exact ⟨h1, us, a1, a2, a3, a4, a5, hv⟩
section
variable {os : List Oper} {Q : Exit → Act → World → Prop} {a : Act} {p : Pq} {B B0 : Nat} {w0 : World}
variable {i s : Nat} {d : Option Tmp} {ty : TypeId} {ps : String} {af : Array Edge} {gd : Option (Nat × Bool)}
/-- A number whose words lie in memory is put together. -/
theorem q_buildMag {o : Ob} {y : Operand} {ao : Option Addr} {k c : Nat} {z e : Int} (hp : p.Ok B B0) (hF : p.Free i) (hg : GdQ os a p B B0 w0 af gd) (ho : o ∈ p.old) (hk : o.F1 = o.F0) (hf : o.F0 = Fq.numAnd z (.agg #[.bool false, .slice ao k c]) e)
    (hy : SrcQ os a p B B0 w0 af y fun v _ => v = .slice ao k c) (hC : ∀ v w, Num w v e → (p.c i).P v w) :
    StepQ os Q a p B B0 w0 i { dst := d, op := .build 29 #[(1, y)], type := ty, pos := ps, after := af, guard := gd } := by
  refine stq_val hp hF hg fun L vs w hG hL hc hd => ?_
  have h2 := hy L vs w hG hd
  have hb := hG.old o ho
  rw [hk, ite_self] at hb
  rw [hf] at hb
  obtain ⟨_, _, _, _, _, hv⟩ := hb
  refine ⟨.agg #[.bool false, .slice ao k c], ?_, hC _ _ hv.2⟩
  generalize (lay os.toArray L vs os.toArray.size a).eval = ρ at h2
  simp [execOp, go_sem, h2]
end
theorem tlt_aux {k c n : Nat} (h : k % 32 = 0) (h1 : k / 32 < n) (h2 : c < 32) : k + c < 32 * n := by omega
theorem measO {n k : Nat} (h : k / 32 + 1 < n) : 32 * n - (intOf (.int .i64 ((k : Int) + 32))).toNat < 32 * n - (intOf (.int .i64 (k : Int))).toNat := by simp [intOf]; omega

set_option maxRecDepth 100000 in
set_option maxHeartbeats 4000000 in
theorem exOddPartK {w : World} {v : Value} {z : Int} {K : Nat} (h : Num w v z) (hT : Tabs w) (hz : z ≠ 0) (hb : ab z < pw K) (hK : K ≤ 300) :
    Calls Tryd.prog 51 #[v] w fun e w' => ∃ v', e = .returned v' ∧ Below w.heap.size w w' ∧ (Fq.tup2 (Fq.num (z / 2 ^ v2 z)) (Fq.is (.int .i64 (v2 z : Int)))).P v' w' := by
  obtain ⟨n0, ao0, k0, cc0, rfl⟩ := h.parts
  obtain ⟨w1, b1, hw1, hb1, hs1, E⟩ := fr_start w (F := Fq.num z) (us := [.bool n0, .slice ao0 k0 cc0]) 29 rfl (by simp) (tame_int _ _ _ _) h
  obtain ⟨w2, b2, hw2, hb2, hs2, E⟩ := fr_more E hs1 (F := Fq.num 0) (us := [.bool false, .slice none 0 0]) 29 rfl (by simp) (tame_int _ _ _ _) (Num.zero _)
  have HT := hidd (hT.mono E.below)
  clear hT
  go_enter Tryd.func51, Tryd.ntmps51
  go_upto_region 1 with (fail)
  rw [← hw1]
  rw [← hw2]
  rw [← hb2]
  rw [← hb1]
  clear hw1 hw2 hb1 hb2 hs2 hs1
  obtain ⟨p0, p1, c0, c1, hP⟩ := box_num (E.box 1 rfl)
  obtain ⟨q0, q1, d0, d1, hQ⟩ := box_num (E.box 0 rfl)
  have hP0 := hidd hP
  obtain ⟨neg, ax, n, cx, xs, eP, hX, hn, hzz, hc, _⟩ := hP
  obtain ⟨rfl, rfl⟩ : p0 = .bool neg ∧ p1 = .slice ax n cx := by
    injection eP with eP
    have := congrArg Array.toList eP
    simpa using this
  have hv0 : ab z = val xs := by rw [hzz, ab_sgn, ab_of (val_nonneg hX.digs)]
  have hvn : (val xs).natAbs = z.natAbs := by unfold ab at hv0; omega
  have hvz : val xs ≠ 0 := by unfold ab at hv0; omega
  have hn3 : n ≤ 300 := by
    have := hc.length_le (by rw [← hv0]; exact hb)
    rw [hX.len] at this
    omega
  have hn0 : 0 < n := by
    rcases Nat.eq_zero_or_pos n with h0 | h0
    · exfalso; apply hvz; have := hX.len; rw [h0] at this; rw [List.eq_nil_of_length_eq_zero this]; rfl
    · exact h0
  have HVN := hidd hvn
  have HVZ := hidd hvz
  have HN := hidd (show 0 < n ∧ n ≤ 300 from ⟨hn0, hn3⟩)
  have HB := hidd hb
  have HZ := hidd hz
  have HKK := hidd hK
  clear hzz hv0 hvn hvz hb hn3 hn hn0 eP hQ hz hK
  go_wp2
  go_loopw [4] (fun vk W => ∃ k : Nat, k % 32 = 0 ∧ k / 32 < n ∧ vk = .int .i64 (k : Int) ∧ W = w2 ∧ ∀ i, i < k / 32 → xs.getD i 0 = 0) (fun vk _ => 32 * n - (intOf vk).toNat)
  case atStart => exact ⟨0, rfl, by have := HN.out; omega, rfl, rfl, fun i hi => by omega⟩
  case round =>
    obtain ⟨k, hk32, hkn, rfl, rfl, hlow⟩ := hrel
    obtain ⟨b, off, rfl, hbl, x, hxc, hx0, hx1, HX⟩ := hX.cells.at (k := k / 32) (by rw [hX.len]; exact hkn)
    have g1 : (0 : Int) ≤ (k : Int) / 32 ∧ (k : Int) / 32 < n := by omega
    have hq : wrap64 ((k : Int) / 32) = (k : Int) / 32 := by have := HN.out; simp only [wrap64]; omega
    by_cases hxz : x = 0
    · subst hxz
      have hk2 : k / 32 + 1 < n := by
        rcases Nat.lt_or_ge (k / 32 + 1) n with h0 | h0
        · exact h0
        · exfalso
          apply HVZ.out
          rw [val_low (j := n) (by rw [hX.len]; exact Nat.le_refl _) (fun i hi => by
            rcases Nat.lt_or_ge i (k / 32) with h1 | h1
            · exact hlow i h1
            · rw [show i = k / 32 by omega]; exact HX.out), List.drop_of_length_le (by rw [hX.len]; exact Nat.le_refl _)]
          show pw n * 0 = 0
          rw [Int.mul_zero]
      have hw : IntKind.i64.wrap ((k : Int) + 32) = (k : Int) + 32 := IntWalk.i64_in _ (by have := HN.out; omega)
      have hw2 : wrap64 ((k : Int) + 32) = (k : Int) + 32 := by have := HN.out; simp only [wrap64]; omega
      have HL := hidd hlow
      have HK := hidd (show k % 32 = 0 ∧ k / 32 + 1 < n from ⟨hk32, hk2⟩)
      clear hlow hk32 hk2
      go_wp2
      go_roundw
      case rel =>
        refine ⟨k + 32, by have := HK.out; omega, by have := HK.out; omega, by first | rfl | (rw [hw2]; rfl), by trivial, fun i hi => ?_⟩
        rcases Nat.lt_or_ge i (k / 32) with h1 | h1
        · exact HL.out i h1
        · rw [show i = k / 32 by omega]; exact HX.out
      case measure => first | exact measO HK.out.2 | (rw [hw2]; exact measO HK.out.2)
    · have fx : (x == 0) = false := by simp; exact hxz
      obtain ⟨y, rfl⟩ := Int.eq_ofNat_of_zero_le hx0
      have hy0 : y ≠ 0 := by omega
      have hy1 : y < 4294967296 := by omega
      obtain ⟨m, hm, hc32⟩ := val_twos hX.digs (by rw [hX.len]; exact hkn) hlow HX.out hy0 hy1
      rw [show 32 * (k / 32) = k by omega, HVN.out] at hm
      have hv2 := v2_eq HZ.out hm
      have hy2 : (0 : Int) < (y : Int) := by omega
      have cT := exTz32 (x := (y : Int)) HT.out hy2 hx1
      rw [Int.toNat_natCast] at cT
      clear hy2
      obtain ⟨c, hcc⟩ : ∃ c, c = Lib.ctz 32 y := ⟨_, rfl⟩
      rw [← hcc] at hm hc32 hv2 cT
      replace cT := hidd cT
      have hw : IntKind.i64.wrap ((k : Int) + (c : Int)) = ((k + c : Nat) : Int) := by rw [IntWalk.i64_in _ (by have := HN.out; omega)]; rfl
      have hw2 : wrap64 ((k : Int) + (c : Int)) = ((k + c : Nat) : Int) := by have := HN.out; simp only [wrap64]; omega
      obtain ⟨t, ht⟩ : ∃ t, t = k + c := ⟨_, rfl⟩
      rw [← ht] at hw hw2 hm hv2
      have HT2 := hidd (show t = k + c ∧ t < 32 * n from ⟨ht, by rw [ht]; exact tlt_aux hk32 hkn hc32⟩)
      have HV2 := hidd hv2
      clear hm hc32 hcc ht hlow hk32 hv2
      go_upto_region 5 with (first | (go_at_call 74; (with_reducible refine (Calls.mono cT.out ?_)); rintro e w' ⟨rfl, rfl⟩))
      obtain ⟨us0, hl0, _, hat0, htm0, _⟩ := (E.boxes _ (List.mem_cons_self ..)).2
      have z0 := (hat0 0 (by rw [hl0]; exact Nat.le_of_ble_eq_true rfl)).2
      have z1 := (hat0 1 (by rw [hl0]; exact Nat.le_of_ble_eq_true rfl)).2
      by_cases ht0 : t = 0
      · have f0 : (((t : Nat) : Int) == 0) = true := by simp; exact ht0
        have HV3 : Hid ((v2 z : Int) = 0 ∧ z / 2 ^ v2 z = z) := by
          rw [HV2.out, ht0]
          exact ⟨rfl, by rw [Int.pow_zero, Int.ediv_one]⟩
        clear hat0 htm0 hl0 ht0
        go_upto_region 6 with (fail)
        clear hw hw2 hX hxc cT fx g1 hq hy0 hy1 hx0 hx1 hxz hbl hkn f0
        have E2 := E.put (F' := Fq.num z) (us := [.bool neg, .slice (some ⟨b, off, none⟩) n cx]) rfl (tame_int _ _ _ _) hP0.out
        obtain ⟨wZ, hwZ⟩ : ∃ wZ, wZ = putFrom w' b2 0 [.bool neg, .slice (some ⟨b, off, none⟩) n cx] := ⟨_, rfl⟩
        rw [← hwZ] at E2
        have hwZ2 : wZ = (w'.setCell ⟨b2, 0, none⟩ (.bool neg)).setCell ⟨b2, 1, none⟩ (.slice (some ⟨b, off, none⟩) n cx) := hwZ
        obtain ⟨r0, r1, e0, e1, hR⟩ := box_num (E2.box 0 rfl)
        go_wp2
        rw [← hwZ2]
        refine bodyPost_ret (v := .tuple #[.agg #[r0, r1], .int .i64 0]) ?_ rfl ⟨_, rfl, E2.below, _, _, rfl, by rw [HV3.out.2]; exact hR, by rw [HV3.out.1]; rfl⟩
        simp [results, Tryd.results51, go_sem, e0, e1]
      · have f0 : (((t : Nat) : Int) == 0) = false := by simp; exact ht0
        obtain ⟨g2, g3, htn⟩ := wrd_aux HT2.out.2 HN.out.2
        replace htn := hidd htn
        clear ht0
        go_upto_region 7 with (fail)
        clear hw hw2 hX hxc cT fx g1 hq hy0 hy1 hx0 hx1 hxz hbl hkn f0 hat0 htm0 hl0
        go_upto_region 8 with (at_make; refine wpList_make_words _ rfl _ _ 22 rfl 77 Tryd.underlying22 (by kernel_rfl) _ _ _ _ rfl rfl (t / 32 + 1) (g3.trans (cast_div32 t)) (g3.trans (cast_div32 t)) (Nat.le_trans htn.out (Nat.le_of_ble_eq_true rfl)) ?_; intro w3 hrow hb3 hs3)
        have hfr := hrow.frozen (t / 32)
        obtain ⟨z9, hzc9, _, _, _⟩ := hrow.at (j := t / 32) (by simp)
        obtain ⟨g4, g5, g6⟩ := idx_aux t
        replace hs3 := hidd hs3
        have hrow2 := hidd hrow
        clear hrow
        go_upto_region 9 with (fail)
        clear g2 g3 g4 g5 g6 hfr hzc9 z0 z1
        have hx := pow_word t
        obtain ⟨w4, hw4⟩ : ∃ w4, w4 = w3.setCell ⟨w'.heap.size, t / 32, none⟩ (.int .u32 (2 ^ (t % 32) % 4294967296)) := ⟨_, rfl⟩
        have hrow4 : Row w4 77 w'.heap.size ((List.replicate (t / 32 + 1) 0).set (t / 32) (2 ^ (t % 32) % 4294967296)) := by rw [hw4]; exact hrow2.out.set hx.1
        have hb4 : Below w'.heap.size w' w4 := by rw [hw4]; exact hb3.setCell (Nat.le_refl _) _
        rw [← hw4]
        obtain ⟨bR, hbR⟩ : ∃ x, x = w'.heap.size := ⟨_, rfl⟩
        rw [← hbR] at hrow4
        rw [← hbR]
        have hPW : Num w4 (.agg #[.bool false, .slice (some ⟨bR, 0, none⟩) (t / 32 + 1) (t / 32 + 1)]) (2 ^ t) := pow_num hrow4 htn.out
        replace E := E.mono hb4
        replace E : Fr w [(b2, 2, Fq.num 0), (b1, 2, Fq.numAnd z (.agg #[.bool false, .slice (some ⟨bR, 0, none⟩) (t / 32 + 1) (t / 32 + 1)]) (2 ^ t))] w4 := E.numAnd hPW
        have HV3 : Hid ((v2 z : Int) = t ∧ z / 2 ^ v2 z = z / 2 ^ t) := by rw [HV2.out]; exact ⟨rfl, rfl⟩
        have BZ : Hid (ab z < pw K) := HB.out
        have BP : Hid (ab ((2 : Int) ^ t) < pw 301) := pow_bound HT2.out.2 HN.out.2
        have NZ : Hid ((2 : Int) ^ t ≠ 0) := by have := pow_two_pos t; show _ ≠ _; omega
        have BQ : Hid (ab (z / 2 ^ t) < pw (K + 1)) := ab_divB BZ.out (by omega)
        have BR : Hid (ab (z % 2 ^ t) < pw 301) := ab_modB NZ.out BP.out
        clear hrow4 hb4 hb3 hw4 hx hPW hrow2 hs3 htn HV2 HB hP0 hbR d0 d1 c0 c1
        refine region_fr (C := [Fq.num z, Fq.is (.slice (some ⟨bR, 0, none⟩) (t / 32 + 1) (t / 32 + 1)), Fq.num (2 ^ t), Fq.tup3 (Fq.num (z / 2 ^ t)) (Fq.num (z % 2 ^ t)) (Fq.is (.int .i64 0)), Fq.tup3 (Fq.num (z / 2 ^ t)) (Fq.num (z % 2 ^ t)) (Fq.is (.int .i64 0)), Fq.num (z / 2 ^ t), Fq.num (z % 2 ^ t), Fq.is (.int .i64 0), Fq.any, Fq.any, Fq.any, Fq.any, Fq.is (.int .i64 0)]) (ks := [none, none]) (new := [⟨8, 10, 2, Fq.num 0, Fq.num (z / 2 ^ t), none⟩, ⟨9, 11, 2, Fq.num 0, Fq.num (z % 2 ^ t), none⟩]) E rfl (by kernel_rfl) rfl rfl (fun hp => ⟨?_, ?_, ?_, ?_, ?_, ?_, ?_, ?_, ?_, ?_, ?_, ?_, ?_, trivial⟩) ?_
        · exact q_loadInt (off := 0) hp (free_of rfl) trivial (List.mem_iff_getElem?.2 ⟨1, rfl⟩) (.inl rfl) (Nat.le_of_ble_eq_true rfl) (sq_out rfl rfl (fun _ _ => rfl)) (fun us w hl h => ld_num hl h.1)
        · exact q_move hp (free_of rfl) trivial (sq_out rfl rfl (fun _ _ => rfl))
        · exact q_buildMag hp (free_of rfl) trivial (List.mem_iff_getElem?.2 ⟨1, rfl⟩) rfl rfl (sq_in 1 rfl rfl (by simp) rfl (fun v w h => h)) (fun v w h => h)
        · exact q_call2 (F := (Fq.num z).P) (G := (Fq.num (2 ^ t)).P) hp (free_of rfl) trivial (enq_DivMod) (sq_in 0 rfl rfl (by simp) rfl (fun v w h => h)) (sq_in 2 rfl rfl (by simp) rfl (fun v w h => h)) (fun v v' w h h' => exDMq h h' NZ.out BQ.out BR.out (by have := HKK.out; omega) (by omega))
        · exact q_move hp (free_of rfl) trivial (sq_in 3 rfl rfl (by simp) rfl (fun v w h => h))
        · exact q_extract3 hp (free_of rfl) trivial (sq_in 4 rfl rfl (by simp) rfl (fun v w h => h)) (fun v1 v2 v3 w h1 h2 h3 => ⟨_, rfl, h1⟩)
        · exact q_extract3 hp (free_of rfl) trivial (sq_in 4 rfl rfl (by simp) rfl (fun v w h => h)) (fun v1 v2 v3 w h1 h2 h3 => ⟨_, rfl, h2⟩)
        · exact q_extract3 hp (free_of rfl) trivial (sq_in 4 rfl rfl (by simp) rfl (fun v w h => h)) (fun v1 v2 v3 w h1 h2 h3 => ⟨_, rfl, h3⟩)
        · exact q_allocInt hp (List.mem_iff_getElem?.2 ⟨0, rfl⟩) rfl rfl rfl rfl (Nat.ne_of_beq_eq_false rfl) (fun _ _ => trivial) (old_ne rfl) (newk_ne rfl) (fun w => Num.zero w)
        · exact q_allocInt hp (List.mem_iff_getElem?.2 ⟨1, rfl⟩) rfl rfl rfl rfl (Nat.ne_of_beq_eq_false rfl) (fun _ _ => trivial) (old_ne rfl) (newk_ne rfl) (fun w => Num.zero w)
        · exact q_storeNewInt hp (List.mem_iff_getElem?.2 ⟨0, rfl⟩) rfl rfl rfl (own_ptr rfl rfl (by simp) rfl) (sq_in 5 rfl rfl (by simp) rfl (fun v w h => intV_num h)) (fun _ _ => trivial) (old_ne rfl) (newi_ne rfl)
        · exact q_storeNewInt hp (List.mem_iff_getElem?.2 ⟨1, rfl⟩) rfl rfl rfl (own_ptr rfl rfl (by simp) rfl) (sq_in 6 rfl rfl (by simp) rfl (fun v w h => intV_num h)) (fun _ _ => trivial) (old_ne rfl) (newi_ne rfl)
        · exact q_assign hp (free_of rfl) trivial (sq_in 7 rfl rfl (by simp) rfl (fun v w h => h))
        intro L vs w1 nb hL hC hn E1
        have e1 : vs 1 = .slice (some ⟨bR, 0, none⟩) (t / 32 + 1) (t / 32 + 1) := hC 1 (by simp)
        have e7 : vs 7 = .int .i64 0 := hC 7 (by simp)
        have e12 : vs 12 = .int .i64 0 := hC 12 (by simp)
        have e8 : vs 8 = .pointer (some ⟨nb 8, 0, none⟩) := hn _ (List.mem_iff_getElem?.2 ⟨0, rfl⟩)
        have e9 : vs 9 = .pointer (some ⟨nb 9, 0, none⟩) := hn _ (List.mem_iff_getElem?.2 ⟨1, rfl⟩)
        have E : Fr w [(nb 8, 2, Fq.num (z / 2 ^ t)), (nb 9, 2, Fq.num (z % 2 ^ t)), (b2, 2, Fq.num 0), (b1, 2, Fq.numAnd z (.agg #[.bool false, .slice (some ⟨bR, 0, none⟩) (t / 32 + 1) (t / 32 + 1)]) (2 ^ t))] w1 := E1
        rw [lay_all hL]
        simp only [putAll, dstOf, List.length_cons, List.length_nil, Nat.zero_add, Nat.reduceAdd, List.getElem?_toArray, List.getElem?_cons_zero, List.getElem?_cons_succ, Option.bind_some, Act.put, List.setIfInBounds_toArray, List.set_cons_succ, List.set_cons_zero]
        rw [e1, e7, e12, e8, e9]
        generalize nb 8 = b1_8 at E ⊢
        generalize nb 9 = b1_9 at E ⊢
        generalize vs 0 = u1_0
        generalize vs 2 = u1_2
        generalize vs 3 = u1_3
        generalize vs 4 = u1_4
        generalize vs 5 = u1_5
        generalize vs 6 = u1_6
        clear e1 e7 e12 e8 e9 hC hn E1 hL vs L nb
        go_upto_region 10 with (fail)
        refine region_fr (C := [Fq.num (z / 2 ^ t), Fq.is (.int .i64 (t : Int)), Fq.any, Fq.is (.int .i64 (t : Int))]) (ks := [none, none, some (2, Fq.num (z / 2 ^ t)), none]) (new := []) E rfl (by kernel_rfl) rfl rfl (fun hp => ⟨?_, ?_, ?_, ?_, trivial⟩) ?_
        · exact q_loadInt (off := 0) hp (free_of rfl) trivial (List.mem_iff_getElem?.2 ⟨0, rfl⟩) (.inl rfl) (Nat.le_of_ble_eq_true rfl) (sq_out rfl rfl (fun _ _ => rfl)) (fun us w hl h => ld_num hl h)
        · exact q_move hp (free_of rfl) trivial (sq_out rfl rfl (fun _ _ => rfl))
        · exact q_storeOldInt hp (List.mem_iff_getElem?.2 ⟨2, rfl⟩) rfl rfl (sq_out rfl rfl (fun _ _ => rfl)) (sq_in 0 rfl rfl (by simp) rfl (fun v w h => intV_num h)) (fun _ _ => trivial) (newik_ne rfl)
        · exact q_assign hp (free_of rfl) trivial (sq_in 1 rfl rfl (by simp) rfl (fun v w h => h))
        intro L vs w2 nb hL hC hn E2
        have e1 : vs 1 = .int .i64 (t : Int) := hC 1 (by simp)
        have e3 : vs 3 = .int .i64 (t : Int) := hC 3 (by simp)
        have E : Fr w [(b1_8, 2, Fq.num (z / 2 ^ t)), (b1_9, 2, Fq.num (z % 2 ^ t)), (b2, 2, Fq.num (z / 2 ^ t)), (b1, 2, Fq.numAnd z (.agg #[.bool false, .slice (some ⟨bR, 0, none⟩) (t / 32 + 1) (t / 32 + 1)]) (2 ^ t))] w2 := E2
        rw [lay_all hL]
        simp only [putAll, dstOf, List.length_cons, List.length_nil, Nat.zero_add, Nat.reduceAdd, List.getElem?_toArray, List.getElem?_cons_zero, List.getElem?_cons_succ, Option.bind_some, Act.put, List.setIfInBounds_toArray, List.set_cons_succ, List.set_cons_zero]
        rw [e1, e3]
        generalize vs 0 = u2_0
        clear e1 e3 hC hn E2 hL vs L nb
        obtain ⟨p0, p1, e0, e1, hP⟩ := box_num (E.box 2 rfl)
        clear BZ BP BQ BR NZ HN HT2 HVN HVZ HZ HKK HT
        go_wp2
        refine bodyPost_ret (v := .tuple #[.agg #[p0, p1], .int .i64 (t : Int)]) ?_ rfl ⟨_, rfl, E.below, _, _, rfl, by rw [HV3.out.2]; exact hP, by rw [HV3.out.1]; rfl⟩
        simp [results, Tryd.results51, go_sem, e0, e1]

end Go.Proofs.YtieobgadihcgeaaDoor
