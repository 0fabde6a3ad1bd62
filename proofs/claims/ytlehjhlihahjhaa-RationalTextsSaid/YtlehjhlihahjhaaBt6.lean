/- Yv. -/
import Derived.Test.YtlehjhlihahjhaaBt5
/- Walks: Parse of fractions. -/
namespace Go.Proofs.Ytlehjhlihahjhaa
open Go Go.RowKit

/-- What is read: the numbers, and the error. -/
noncomputable def prs (T : List Int) (K : Nat) : Int × Int × Int :=
  if 2601 < T.length then (0, 0, 2)
  else if K < T.length then
    (if paE (T.take K) = 0 ∧ paE (T.drop (K + 1)) = 0 ∧ 0 < paV (T.drop (K + 1)) ∧ Int.gcd (paV (T.take K)) (paV (T.drop (K + 1))) = 1 ∧ paV (T.drop (K + 1)) ≠ 1 then (paV (T.take K), paV (T.drop (K + 1)), 0) else (0, 0, 3))
  else (if paE T = 0 then (paV T, 1, 0) else (0, 0, 3))

theorem text_eq (n d : Int) (s : ByteArray) : ((bytesOf (pairText n d)).toList == s.toList) = decide (pairText n d = bys s) := by
  have hr : ∀ x ∈ pairText n d, 0 ≤ x ∧ x < 256 := by
    unfold pairText
    split
    · exact text_range n
    · intro x hx
      rcases List.mem_append.1 hx with h | h
      · exact text_range n x h
      · rcases List.mem_cons.1 h with h | h
        · omega
        · exact text_range d x h
  by_cases h : pairText n d = bys s
  · rw [decide_eq_true h, h, bytesOf_bys]
    exact beq_self_eq_true _
  · rw [decide_eq_false h, beq_eq_false_iff_ne]
    intro e
    apply h
    rw [ByteArray.toList_eq, ByteArray.toList_eq] at e
    rw [← WideShapes.bytes_inj e, bys_bytesOf hr]

theorem slash_split {T : List Int} {K : Nat} (h : Slash T K) (hK : K < T.length) : T.take K ++ 47 :: T.drop (K + 1) = T := by
  have h1 := h.2.2 hK
  have h2 : T[K] = 47 := by
    rw [← h1]
    simp [List.getD, hK]
  rw [← h2, List.getElem_cons_drop, List.take_append_drop]

theorem drop_cut (s : ByteArray) (k : Nat) : bys (s.extract k s.size) = (bys s).drop k := by
  rw [bys_cut, ← bys_len, List.take_length]
theorem take_cut (s : ByteArray) (k : Nat) : bys (s.extract 0 k) = (bys s).take k := by
  rw [bys_cut, List.drop_zero]

set_option maxRecDepth 100000 in
set_option maxHeartbeats 4000000 in
theorem rd_a (w : World) {sn sd : ByteArray} (e1 : Hid (¬ paE (bys sn) = 0)) :
    Calls Try.prog 54 #[.string sn, .string sd] w fun e w' => ∃ v', e = .returned v' ∧ Below w.heap.size w w' ∧ (Fq.tup2 (Fq.pair 0 0) (Fq.is (.bool false))).P v' w' := by
  obtain ⟨w1, b1, hw1, hb1, hs1, E⟩ := fr_start w (F := Fq.pair 0 0) (us := [.bool false, .slice none 0 0, .bool false, .slice none 0 0]) 31 rfl (by simp) (tame_rat _ _ _ _ _ _ _ _) (Pair.zero _)
  go_enter Try.func54, Try.ntmps54
  go_upto_region 1 with (fail)
  rw [← hw1]
  rw [← hb1]
  clear hw1 hb1 hs1
  refine region_fr (C := [Fq.is (.string sn), Fq.tup2 (Fq.num (paV (bys sn))) (Fq.is (.int .i64 (paE (bys sn)))), Fq.tup2 (Fq.num (paV (bys sn))) (Fq.is (.int .i64 (paE (bys sn)))), Fq.num (paV (bys sn)), Fq.is (.int .i64 (paE (bys sn))), Fq.any, Fq.any, Fq.is (.int .i64 (paE (bys sn)))]) (ks := [none]) (new := [⟨5, 6, 2, Fq.num 0, Fq.num (paV (bys sn)), none⟩]) E rfl (by kernel_rfl) rfl rfl (fun hp => ⟨?_, ?_, ?_, ?_, ?_, ?_, ?_, ?_, trivial⟩) ?_
  · exact q_move hp (free_of rfl) trivial (sq_out rfl rfl (fun _ _ => rfl))
  · exact q_call1 (F := (Fq.is (.string sn)).P) hp (free_of rfl) trivial (enq_Parse) (sq_in 0 rfl rfl (by simp) rfl (fun v w h => h)) (fun v w h => (by subst h; exact exParseU))
  · exact q_move hp (free_of rfl) trivial (sq_in 1 rfl rfl (by simp) rfl (fun v w h => h))
  · exact q_extract2 hp (free_of rfl) trivial (sq_in 2 rfl rfl (by simp) rfl (fun v w h => h)) (fun v1 v2 w h1 h2 => ⟨_, rfl, h1⟩)
  · exact q_extract2 hp (free_of rfl) trivial (sq_in 2 rfl rfl (by simp) rfl (fun v w h => h)) (fun v1 v2 w h1 h2 => ⟨_, rfl, h2⟩)
  · exact q_allocInt hp (List.mem_iff_getElem?.2 ⟨0, rfl⟩) rfl rfl rfl rfl (Nat.ne_of_beq_eq_false rfl) (fun _ _ => trivial) (old_ne rfl) (newk_ne rfl) (fun w => Num.zero w)
  · exact q_storeNewInt hp (List.mem_iff_getElem?.2 ⟨0, rfl⟩) rfl rfl rfl (own_ptr rfl rfl (by simp) rfl) (sq_in 3 rfl rfl (by simp) rfl (fun v w h => intV_num h)) (fun _ _ => trivial) (old_ne rfl) (newi_ne rfl)
  · exact q_assign hp (free_of rfl) trivial (sq_in 4 rfl rfl (by simp) rfl (fun v w h => h))
  intro L vs w2 nb hL hC hn E2
  have e0 : vs 0 = .string sn := hC 0 (by simp)
  have e4 : vs 4 = .int .i64 (paE (bys sn)) := hC 4 (by simp)
  have e7 : vs 7 = .int .i64 (paE (bys sn)) := hC 7 (by simp)
  have e5 : vs 5 = .pointer (some ⟨nb 5, 0, none⟩) := hn _ (List.mem_iff_getElem?.2 ⟨0, rfl⟩)
  have E : Fr w [(nb 5, 2, Fq.num (paV (bys sn))), (b1, 4, Fq.pair 0 0)] w2 := E2
  rw [lay_all hL]
  simp only [putAll, dstOf, List.length_cons, List.length_nil, Nat.zero_add, Nat.reduceAdd, List.getElem?_toArray, List.getElem?_cons_zero, List.getElem?_cons_succ, Option.bind_some, Act.put, List.setIfInBounds_toArray, List.set_cons_succ, List.set_cons_zero]
  rw [e0, e4, e7, e5]
  generalize nb 5 = b2_5 at E ⊢
  generalize vs 1 = u2_1
  generalize vs 2 = u2_2
  generalize vs 3 = u2_3
  clear e0 e4 e7 e5 hC hn E2 hL vs L nb
  go_upto_region 2 with (fail)
  refine region_fr (C := [Fq.is (.int .i64 (paE (bys sn))), Fq.is (.bool true)]) (ks := [none, none]) (new := []) E rfl (by kernel_rfl) rfl rfl (fun hp => ⟨?_, ?_, trivial⟩) ?_
  · exact q_move hp (free_of rfl) trivial (sq_out rfl rfl (fun _ _ => rfl))
  · exact q_one (F := fun v _ => v = .int .i64 (paE (bys sn))) hp (free_of rfl) trivial (sq_in 0 rfl rfl (by simp) rfl (fun v w h => h)) (fun ρ w hc h => ⟨.bool true, by simp [execOp, go_sem, h, hc, e1.out], rfl⟩)
  intro L vs w3 nb hL hC hn E3
  have e0 : vs 0 = .int .i64 (paE (bys sn)) := hC 0 (by simp)
  have e1 : vs 1 = .bool true := hC 1 (by simp)
  have E : Fr w [(b2_5, 2, Fq.num (paV (bys sn))), (b1, 4, Fq.pair 0 0)] w3 := E3
  rw [lay_all hL]
  simp only [putAll, dstOf, List.length_cons, List.length_nil, Nat.zero_add, Nat.reduceAdd, List.getElem?_toArray, List.getElem?_cons_zero, List.getElem?_cons_succ, Option.bind_some, Act.put, List.setIfInBounds_toArray, List.set_cons_succ, List.set_cons_zero]
  rw [e0, e1]
  clear e0 e1 hC hn E3 hL vs L nb
  clear e1
  go_upto_region 3 with (fail)
  refine region_fr (C := [Fq.pair 0 0, Fq.any, Fq.is (.bool false)]) (ks := [none, some (1, Fq.pair 0 0)]) (new := []) E rfl (by kernel_rfl) rfl rfl (fun hp => ⟨?_, ?_, ?_, trivial⟩) ?_
  · exact q_zeroRat hp (free_of rfl) trivial (fun v w h => h)
  · exact q_storeOldRat hp (List.mem_iff_getElem?.2 ⟨1, rfl⟩) rfl rfl (sq_out rfl rfl (fun _ _ => rfl)) (sq_in 0 rfl rfl (by simp) rfl (fun v w h => ratV_pair h)) (fun _ _ => trivial) (newik_ne rfl)
  · exact q_assign hp (free_of rfl) trivial (sq_const (fun _ => rfl))
  intro L vs w4 nb hL hC hn E4
  have e2 : vs 2 = .bool false := hC 2 (by simp)
  have E : Fr w [(b2_5, 2, Fq.num (paV (bys sn))), (b1, 4, Fq.pair 0 0)] w4 := E4
  rw [lay_all hL]
  simp only [putAll, dstOf, List.length_cons, List.length_nil, Nat.zero_add, Nat.reduceAdd, List.getElem?_toArray, List.getElem?_cons_zero, List.getElem?_cons_succ, Option.bind_some, Act.put, List.setIfInBounds_toArray, List.set_cons_succ, List.set_cons_zero]
  rw [e2]
  generalize vs 0 = u4_0
  clear e2 hC hn E4 hL vs L nb
  obtain ⟨p0, p1, p2, p3, c0, c1, c2, c3, hP⟩ := box_pair (E.box 1 rfl)
  go_wp2
  refine bodyPost_ret (v := .tuple #[.agg #[p0, p1, p2, p3], .bool false]) ?_ rfl ⟨_, rfl, E.below, ⟨_, _, rfl, hP, rfl⟩⟩
  simp [results, Try.results54, go_sem, c0, c1, c2, c3]

set_option maxRecDepth 100000 in
set_option maxHeartbeats 4000000 in
theorem rd_b (w : World) {sn sd : ByteArray} (e1 : Hid (paE (bys sn) = 0)) (e2 : Hid (¬ paE (bys sd) = 0)) :
    Calls Try.prog 54 #[.string sn, .string sd] w fun e w' => ∃ v', e = .returned v' ∧ Below w.heap.size w w' ∧ (Fq.tup2 (Fq.pair 0 0) (Fq.is (.bool false))).P v' w' := by
  obtain ⟨w1, b1, hw1, hb1, hs1, E⟩ := fr_start w (F := Fq.pair 0 0) (us := [.bool false, .slice none 0 0, .bool false, .slice none 0 0]) 31 rfl (by simp) (tame_rat _ _ _ _ _ _ _ _) (Pair.zero _)
  go_enter Try.func54, Try.ntmps54
  go_upto_region 1 with (fail)
  rw [← hw1]
  rw [← hb1]
  clear hw1 hb1 hs1
  refine region_fr (C := [Fq.is (.string sn), Fq.tup2 (Fq.num (paV (bys sn))) (Fq.is (.int .i64 (paE (bys sn)))), Fq.tup2 (Fq.num (paV (bys sn))) (Fq.is (.int .i64 (paE (bys sn)))), Fq.num (paV (bys sn)), Fq.is (.int .i64 (paE (bys sn))), Fq.any, Fq.any, Fq.is (.int .i64 (paE (bys sn)))]) (ks := [none]) (new := [⟨5, 6, 2, Fq.num 0, Fq.num (paV (bys sn)), none⟩]) E rfl (by kernel_rfl) rfl rfl (fun hp => ⟨?_, ?_, ?_, ?_, ?_, ?_, ?_, ?_, trivial⟩) ?_
  · exact q_move hp (free_of rfl) trivial (sq_out rfl rfl (fun _ _ => rfl))
  · exact q_call1 (F := (Fq.is (.string sn)).P) hp (free_of rfl) trivial (enq_Parse) (sq_in 0 rfl rfl (by simp) rfl (fun v w h => h)) (fun v w h => (by subst h; exact exParseU))
  · exact q_move hp (free_of rfl) trivial (sq_in 1 rfl rfl (by simp) rfl (fun v w h => h))
  · exact q_extract2 hp (free_of rfl) trivial (sq_in 2 rfl rfl (by simp) rfl (fun v w h => h)) (fun v1 v2 w h1 h2 => ⟨_, rfl, h1⟩)
  · exact q_extract2 hp (free_of rfl) trivial (sq_in 2 rfl rfl (by simp) rfl (fun v w h => h)) (fun v1 v2 w h1 h2 => ⟨_, rfl, h2⟩)
  · exact q_allocInt hp (List.mem_iff_getElem?.2 ⟨0, rfl⟩) rfl rfl rfl rfl (Nat.ne_of_beq_eq_false rfl) (fun _ _ => trivial) (old_ne rfl) (newk_ne rfl) (fun w => Num.zero w)
  · exact q_storeNewInt hp (List.mem_iff_getElem?.2 ⟨0, rfl⟩) rfl rfl rfl (own_ptr rfl rfl (by simp) rfl) (sq_in 3 rfl rfl (by simp) rfl (fun v w h => intV_num h)) (fun _ _ => trivial) (old_ne rfl) (newi_ne rfl)
  · exact q_assign hp (free_of rfl) trivial (sq_in 4 rfl rfl (by simp) rfl (fun v w h => h))
  intro L vs w2 nb hL hC hn E2
  have e0 : vs 0 = .string sn := hC 0 (by simp)
  have e4 : vs 4 = .int .i64 (paE (bys sn)) := hC 4 (by simp)
  have e7 : vs 7 = .int .i64 (paE (bys sn)) := hC 7 (by simp)
  have e5 : vs 5 = .pointer (some ⟨nb 5, 0, none⟩) := hn _ (List.mem_iff_getElem?.2 ⟨0, rfl⟩)
  have E : Fr w [(nb 5, 2, Fq.num (paV (bys sn))), (b1, 4, Fq.pair 0 0)] w2 := E2
  rw [lay_all hL]
  simp only [putAll, dstOf, List.length_cons, List.length_nil, Nat.zero_add, Nat.reduceAdd, List.getElem?_toArray, List.getElem?_cons_zero, List.getElem?_cons_succ, Option.bind_some, Act.put, List.setIfInBounds_toArray, List.set_cons_succ, List.set_cons_zero]
  rw [e0, e4, e7, e5]
  generalize nb 5 = b2_5 at E ⊢
  generalize vs 1 = u2_1
  generalize vs 2 = u2_2
  generalize vs 3 = u2_3
  clear e0 e4 e7 e5 hC hn E2 hL vs L nb
  go_upto_region 2 with (fail)
  refine region_fr (C := [Fq.is (.int .i64 (paE (bys sn))), Fq.is (.bool false)]) (ks := [none, none]) (new := []) E rfl (by kernel_rfl) rfl rfl (fun hp => ⟨?_, ?_, trivial⟩) ?_
  · exact q_move hp (free_of rfl) trivial (sq_out rfl rfl (fun _ _ => rfl))
  · exact q_one (F := fun v _ => v = .int .i64 (paE (bys sn))) hp (free_of rfl) trivial (sq_in 0 rfl rfl (by simp) rfl (fun v w h => h)) (fun ρ w hc h => ⟨.bool false, by simp [execOp, go_sem, h, hc, e1.out], rfl⟩)
  intro L vs w3 nb hL hC hn E3
  have e0 : vs 0 = .int .i64 (paE (bys sn)) := hC 0 (by simp)
  have e1 : vs 1 = .bool false := hC 1 (by simp)
  have E : Fr w [(b2_5, 2, Fq.num (paV (bys sn))), (b1, 4, Fq.pair 0 0)] w3 := E3
  rw [lay_all hL]
  simp only [putAll, dstOf, List.length_cons, List.length_nil, Nat.zero_add, Nat.reduceAdd, List.getElem?_toArray, List.getElem?_cons_zero, List.getElem?_cons_succ, Option.bind_some, Act.put, List.setIfInBounds_toArray, List.set_cons_succ, List.set_cons_zero]
  rw [e0, e1]
  clear e0 e1 hC hn E3 hL vs L nb
  go_upto_region 4 with (fail)
  refine region_fr (C := [Fq.is (.string sd), Fq.tup2 (Fq.num (paV (bys sd))) (Fq.is (.int .i64 (paE (bys sd)))), Fq.tup2 (Fq.num (paV (bys sd))) (Fq.is (.int .i64 (paE (bys sd)))), Fq.num (paV (bys sd)), Fq.is (.int .i64 (paE (bys sd))), Fq.any, Fq.any, Fq.is (.int .i64 (paE (bys sd)))]) (ks := [none, none]) (new := [⟨5, 6, 2, Fq.num 0, Fq.num (paV (bys sd)), none⟩]) E rfl (by kernel_rfl) rfl rfl (fun hp => ⟨?_, ?_, ?_, ?_, ?_, ?_, ?_, ?_, trivial⟩) ?_
  · exact q_move hp (free_of rfl) trivial (sq_out rfl rfl (fun _ _ => rfl))
  · exact q_call1 (F := (Fq.is (.string sd)).P) hp (free_of rfl) trivial (enq_Parse) (sq_in 0 rfl rfl (by simp) rfl (fun v w h => h)) (fun v w h => (by subst h; exact exParseU))
  · exact q_move hp (free_of rfl) trivial (sq_in 1 rfl rfl (by simp) rfl (fun v w h => h))
  · exact q_extract2 hp (free_of rfl) trivial (sq_in 2 rfl rfl (by simp) rfl (fun v w h => h)) (fun v1 v2 w h1 h2 => ⟨_, rfl, h1⟩)
  · exact q_extract2 hp (free_of rfl) trivial (sq_in 2 rfl rfl (by simp) rfl (fun v w h => h)) (fun v1 v2 w h1 h2 => ⟨_, rfl, h2⟩)
  · exact q_allocInt hp (List.mem_iff_getElem?.2 ⟨0, rfl⟩) rfl rfl rfl rfl (Nat.ne_of_beq_eq_false rfl) (fun _ _ => trivial) (old_ne rfl) (newk_ne rfl) (fun w => Num.zero w)
  · exact q_storeNewInt hp (List.mem_iff_getElem?.2 ⟨0, rfl⟩) rfl rfl rfl (own_ptr rfl rfl (by simp) rfl) (sq_in 3 rfl rfl (by simp) rfl (fun v w h => intV_num h)) (fun _ _ => trivial) (old_ne rfl) (newi_ne rfl)
  · exact q_assign hp (free_of rfl) trivial (sq_in 4 rfl rfl (by simp) rfl (fun v w h => h))
  intro L vs w4 nb hL hC hn E4
  have e0 : vs 0 = .string sd := hC 0 (by simp)
  have e4 : vs 4 = .int .i64 (paE (bys sd)) := hC 4 (by simp)
  have e7 : vs 7 = .int .i64 (paE (bys sd)) := hC 7 (by simp)
  have e5 : vs 5 = .pointer (some ⟨nb 5, 0, none⟩) := hn _ (List.mem_iff_getElem?.2 ⟨0, rfl⟩)
  have E : Fr w [(nb 5, 2, Fq.num (paV (bys sd))), (b2_5, 2, Fq.num (paV (bys sn))), (b1, 4, Fq.pair 0 0)] w4 := E4
  rw [lay_all hL]
  simp only [putAll, dstOf, List.length_cons, List.length_nil, Nat.zero_add, Nat.reduceAdd, List.getElem?_toArray, List.getElem?_cons_zero, List.getElem?_cons_succ, Option.bind_some, Act.put, List.setIfInBounds_toArray, List.set_cons_succ, List.set_cons_zero]
  rw [e0, e4, e7, e5]
  generalize nb 5 = b4_5 at E ⊢
  generalize vs 1 = u4_1
  generalize vs 2 = u4_2
  generalize vs 3 = u4_3
  clear e0 e4 e7 e5 hC hn E4 hL vs L nb
  go_upto_region 5 with (fail)
  refine region_fr (C := [Fq.is (.int .i64 (paE (bys sd))), Fq.is (.bool true)]) (ks := [none, none, none]) (new := []) E rfl (by kernel_rfl) rfl rfl (fun hp => ⟨?_, ?_, trivial⟩) ?_
  · exact q_move hp (free_of rfl) trivial (sq_out rfl rfl (fun _ _ => rfl))
  · exact q_one (F := fun v _ => v = .int .i64 (paE (bys sd))) hp (free_of rfl) trivial (sq_in 0 rfl rfl (by simp) rfl (fun v w h => h)) (fun ρ w hc h => ⟨.bool true, by simp [execOp, go_sem, h, hc, e2.out], rfl⟩)
  intro L vs w5 nb hL hC hn E5
  have e0 : vs 0 = .int .i64 (paE (bys sd)) := hC 0 (by simp)
  have e1 : vs 1 = .bool true := hC 1 (by simp)
  have E : Fr w [(b4_5, 2, Fq.num (paV (bys sd))), (b2_5, 2, Fq.num (paV (bys sn))), (b1, 4, Fq.pair 0 0)] w5 := E5
  rw [lay_all hL]
  simp only [putAll, dstOf, List.length_cons, List.length_nil, Nat.zero_add, Nat.reduceAdd, List.getElem?_toArray, List.getElem?_cons_zero, List.getElem?_cons_succ, Option.bind_some, Act.put, List.setIfInBounds_toArray, List.set_cons_succ, List.set_cons_zero]
  rw [e0, e1]
  clear e0 e1 hC hn E5 hL vs L nb
  clear e1 e2
  go_upto_region 6 with (fail)
  refine region_fr (C := [Fq.pair 0 0, Fq.any, Fq.is (.bool false)]) (ks := [none, none, some (1, Fq.pair 0 0)]) (new := []) E rfl (by kernel_rfl) rfl rfl (fun hp => ⟨?_, ?_, ?_, trivial⟩) ?_
  · exact q_zeroRat hp (free_of rfl) trivial (fun v w h => h)
  · exact q_storeOldRat hp (List.mem_iff_getElem?.2 ⟨2, rfl⟩) rfl rfl (sq_out rfl rfl (fun _ _ => rfl)) (sq_in 0 rfl rfl (by simp) rfl (fun v w h => ratV_pair h)) (fun _ _ => trivial) (newik_ne rfl)
  · exact q_assign hp (free_of rfl) trivial (sq_const (fun _ => rfl))
  intro L vs w6 nb hL hC hn E6
  have e2 : vs 2 = .bool false := hC 2 (by simp)
  have E : Fr w [(b4_5, 2, Fq.num (paV (bys sd))), (b2_5, 2, Fq.num (paV (bys sn))), (b1, 4, Fq.pair 0 0)] w6 := E6
  rw [lay_all hL]
  simp only [putAll, dstOf, List.length_cons, List.length_nil, Nat.zero_add, Nat.reduceAdd, List.getElem?_toArray, List.getElem?_cons_zero, List.getElem?_cons_succ, Option.bind_some, Act.put, List.setIfInBounds_toArray, List.set_cons_succ, List.set_cons_zero]
  rw [e2]
  generalize vs 0 = u6_0
  clear e2 hC hn E6 hL vs L nb
  obtain ⟨p0, p1, p2, p3, c0, c1, c2, c3, hP⟩ := box_pair (E.box 2 rfl)
  go_wp2
  refine bodyPost_ret (v := .tuple #[.agg #[p0, p1, p2, p3], .bool false]) ?_ rfl ⟨_, rfl, E.below, ⟨_, _, rfl, hP, rfl⟩⟩
  simp [results, Try.results54, go_sem, c0, c1, c2, c3]

set_option maxRecDepth 100000 in
set_option maxHeartbeats 4000000 in
theorem rd_ok (w : World) {sn sd : ByteArray} (e1 : Hid (paE (bys sn) = 0)) (e2 : Hid (paE (bys sd) = 0)) (hv : Hid (0 < paV (bys sd) ∧ Int.gcd (paV (bys sn)) (paV (bys sd)) = 1)) :
    Calls Try.prog 54 #[.string sn, .string sd] w fun e w' => ∃ v', e = .returned v' ∧ Below w.heap.size w w' ∧ (Fq.tup2 (Fq.pair (paV (bys sn)) (paV (bys sd))) (Fq.is (.bool true))).P v' w' := by
  obtain ⟨w1, b1, hw1, hb1, hs1, E⟩ := fr_start w (F := Fq.pair 0 0) (us := [.bool false, .slice none 0 0, .bool false, .slice none 0 0]) 31 rfl (by simp) (tame_rat _ _ _ _ _ _ _ _) (Pair.zero _)
  go_enter Try.func54, Try.ntmps54
  go_upto_region 1 with (fail)
  rw [← hw1]
  rw [← hb1]
  clear hw1 hb1 hs1
  refine region_fr (C := [Fq.is (.string sn), Fq.tup2 (Fq.num (paV (bys sn))) (Fq.is (.int .i64 (paE (bys sn)))), Fq.tup2 (Fq.num (paV (bys sn))) (Fq.is (.int .i64 (paE (bys sn)))), Fq.num (paV (bys sn)), Fq.is (.int .i64 (paE (bys sn))), Fq.any, Fq.any, Fq.is (.int .i64 (paE (bys sn)))]) (ks := [none]) (new := [⟨5, 6, 2, Fq.num 0, Fq.num (paV (bys sn)), none⟩]) E rfl (by kernel_rfl) rfl rfl (fun hp => ⟨?_, ?_, ?_, ?_, ?_, ?_, ?_, ?_, trivial⟩) ?_
  · exact q_move hp (free_of rfl) trivial (sq_out rfl rfl (fun _ _ => rfl))
  · exact q_call1 (F := (Fq.is (.string sn)).P) hp (free_of rfl) trivial (enq_Parse) (sq_in 0 rfl rfl (by simp) rfl (fun v w h => h)) (fun v w h => (by subst h; exact exParseU))
  · exact q_move hp (free_of rfl) trivial (sq_in 1 rfl rfl (by simp) rfl (fun v w h => h))
  · exact q_extract2 hp (free_of rfl) trivial (sq_in 2 rfl rfl (by simp) rfl (fun v w h => h)) (fun v1 v2 w h1 h2 => ⟨_, rfl, h1⟩)
  · exact q_extract2 hp (free_of rfl) trivial (sq_in 2 rfl rfl (by simp) rfl (fun v w h => h)) (fun v1 v2 w h1 h2 => ⟨_, rfl, h2⟩)
  · exact q_allocInt hp (List.mem_iff_getElem?.2 ⟨0, rfl⟩) rfl rfl rfl rfl (Nat.ne_of_beq_eq_false rfl) (fun _ _ => trivial) (old_ne rfl) (newk_ne rfl) (fun w => Num.zero w)
  · exact q_storeNewInt hp (List.mem_iff_getElem?.2 ⟨0, rfl⟩) rfl rfl rfl (own_ptr rfl rfl (by simp) rfl) (sq_in 3 rfl rfl (by simp) rfl (fun v w h => intV_num h)) (fun _ _ => trivial) (old_ne rfl) (newi_ne rfl)
  · exact q_assign hp (free_of rfl) trivial (sq_in 4 rfl rfl (by simp) rfl (fun v w h => h))
  intro L vs w2 nb hL hC hn E2
  have e0 : vs 0 = .string sn := hC 0 (by simp)
  have e4 : vs 4 = .int .i64 (paE (bys sn)) := hC 4 (by simp)
  have e7 : vs 7 = .int .i64 (paE (bys sn)) := hC 7 (by simp)
  have e5 : vs 5 = .pointer (some ⟨nb 5, 0, none⟩) := hn _ (List.mem_iff_getElem?.2 ⟨0, rfl⟩)
  have E : Fr w [(nb 5, 2, Fq.num (paV (bys sn))), (b1, 4, Fq.pair 0 0)] w2 := E2
  rw [lay_all hL]
  simp only [putAll, dstOf, List.length_cons, List.length_nil, Nat.zero_add, Nat.reduceAdd, List.getElem?_toArray, List.getElem?_cons_zero, List.getElem?_cons_succ, Option.bind_some, Act.put, List.setIfInBounds_toArray, List.set_cons_succ, List.set_cons_zero]
  rw [e0, e4, e7, e5]
  generalize nb 5 = b2_5 at E ⊢
  generalize vs 1 = u2_1
  generalize vs 2 = u2_2
  generalize vs 3 = u2_3
  clear e0 e4 e7 e5 hC hn E2 hL vs L nb
  go_upto_region 2 with (fail)
  refine region_fr (C := [Fq.is (.int .i64 (paE (bys sn))), Fq.is (.bool false)]) (ks := [none, none]) (new := []) E rfl (by kernel_rfl) rfl rfl (fun hp => ⟨?_, ?_, trivial⟩) ?_
  · exact q_move hp (free_of rfl) trivial (sq_out rfl rfl (fun _ _ => rfl))
  · exact q_one (F := fun v _ => v = .int .i64 (paE (bys sn))) hp (free_of rfl) trivial (sq_in 0 rfl rfl (by simp) rfl (fun v w h => h)) (fun ρ w hc h => ⟨.bool false, by simp [execOp, go_sem, h, hc, e1.out], rfl⟩)
  intro L vs w3 nb hL hC hn E3
  have e0 : vs 0 = .int .i64 (paE (bys sn)) := hC 0 (by simp)
  have e1 : vs 1 = .bool false := hC 1 (by simp)
  have E : Fr w [(b2_5, 2, Fq.num (paV (bys sn))), (b1, 4, Fq.pair 0 0)] w3 := E3
  rw [lay_all hL]
  simp only [putAll, dstOf, List.length_cons, List.length_nil, Nat.zero_add, Nat.reduceAdd, List.getElem?_toArray, List.getElem?_cons_zero, List.getElem?_cons_succ, Option.bind_some, Act.put, List.setIfInBounds_toArray, List.set_cons_succ, List.set_cons_zero]
  rw [e0, e1]
  clear e0 e1 hC hn E3 hL vs L nb
  go_upto_region 4 with (fail)
  refine region_fr (C := [Fq.is (.string sd), Fq.tup2 (Fq.num (paV (bys sd))) (Fq.is (.int .i64 (paE (bys sd)))), Fq.tup2 (Fq.num (paV (bys sd))) (Fq.is (.int .i64 (paE (bys sd)))), Fq.num (paV (bys sd)), Fq.is (.int .i64 (paE (bys sd))), Fq.any, Fq.any, Fq.is (.int .i64 (paE (bys sd)))]) (ks := [none, none]) (new := [⟨5, 6, 2, Fq.num 0, Fq.num (paV (bys sd)), none⟩]) E rfl (by kernel_rfl) rfl rfl (fun hp => ⟨?_, ?_, ?_, ?_, ?_, ?_, ?_, ?_, trivial⟩) ?_
  · exact q_move hp (free_of rfl) trivial (sq_out rfl rfl (fun _ _ => rfl))
  · exact q_call1 (F := (Fq.is (.string sd)).P) hp (free_of rfl) trivial (enq_Parse) (sq_in 0 rfl rfl (by simp) rfl (fun v w h => h)) (fun v w h => (by subst h; exact exParseU))
  · exact q_move hp (free_of rfl) trivial (sq_in 1 rfl rfl (by simp) rfl (fun v w h => h))
  · exact q_extract2 hp (free_of rfl) trivial (sq_in 2 rfl rfl (by simp) rfl (fun v w h => h)) (fun v1 v2 w h1 h2 => ⟨_, rfl, h1⟩)
  · exact q_extract2 hp (free_of rfl) trivial (sq_in 2 rfl rfl (by simp) rfl (fun v w h => h)) (fun v1 v2 w h1 h2 => ⟨_, rfl, h2⟩)
  · exact q_allocInt hp (List.mem_iff_getElem?.2 ⟨0, rfl⟩) rfl rfl rfl rfl (Nat.ne_of_beq_eq_false rfl) (fun _ _ => trivial) (old_ne rfl) (newk_ne rfl) (fun w => Num.zero w)
  · exact q_storeNewInt hp (List.mem_iff_getElem?.2 ⟨0, rfl⟩) rfl rfl rfl (own_ptr rfl rfl (by simp) rfl) (sq_in 3 rfl rfl (by simp) rfl (fun v w h => intV_num h)) (fun _ _ => trivial) (old_ne rfl) (newi_ne rfl)
  · exact q_assign hp (free_of rfl) trivial (sq_in 4 rfl rfl (by simp) rfl (fun v w h => h))
  intro L vs w4 nb hL hC hn E4
  have e0 : vs 0 = .string sd := hC 0 (by simp)
  have e4 : vs 4 = .int .i64 (paE (bys sd)) := hC 4 (by simp)
  have e7 : vs 7 = .int .i64 (paE (bys sd)) := hC 7 (by simp)
  have e5 : vs 5 = .pointer (some ⟨nb 5, 0, none⟩) := hn _ (List.mem_iff_getElem?.2 ⟨0, rfl⟩)
  have E : Fr w [(nb 5, 2, Fq.num (paV (bys sd))), (b2_5, 2, Fq.num (paV (bys sn))), (b1, 4, Fq.pair 0 0)] w4 := E4
  rw [lay_all hL]
  simp only [putAll, dstOf, List.length_cons, List.length_nil, Nat.zero_add, Nat.reduceAdd, List.getElem?_toArray, List.getElem?_cons_zero, List.getElem?_cons_succ, Option.bind_some, Act.put, List.setIfInBounds_toArray, List.set_cons_succ, List.set_cons_zero]
  rw [e0, e4, e7, e5]
  generalize nb 5 = b4_5 at E ⊢
  generalize vs 1 = u4_1
  generalize vs 2 = u4_2
  generalize vs 3 = u4_3
  clear e0 e4 e7 e5 hC hn E4 hL vs L nb
  go_upto_region 5 with (fail)
  refine region_fr (C := [Fq.is (.int .i64 (paE (bys sd))), Fq.is (.bool false)]) (ks := [none, none, none]) (new := []) E rfl (by kernel_rfl) rfl rfl (fun hp => ⟨?_, ?_, trivial⟩) ?_
  · exact q_move hp (free_of rfl) trivial (sq_out rfl rfl (fun _ _ => rfl))
  · exact q_one (F := fun v _ => v = .int .i64 (paE (bys sd))) hp (free_of rfl) trivial (sq_in 0 rfl rfl (by simp) rfl (fun v w h => h)) (fun ρ w hc h => ⟨.bool false, by simp [execOp, go_sem, h, hc, e2.out], rfl⟩)
  intro L vs w5 nb hL hC hn E5
  have e0 : vs 0 = .int .i64 (paE (bys sd)) := hC 0 (by simp)
  have e1 : vs 1 = .bool false := hC 1 (by simp)
  have E : Fr w [(b4_5, 2, Fq.num (paV (bys sd))), (b2_5, 2, Fq.num (paV (bys sn))), (b1, 4, Fq.pair 0 0)] w5 := E5
  rw [lay_all hL]
  simp only [putAll, dstOf, List.length_cons, List.length_nil, Nat.zero_add, Nat.reduceAdd, List.getElem?_toArray, List.getElem?_cons_zero, List.getElem?_cons_succ, Option.bind_some, Act.put, List.setIfInBounds_toArray, List.set_cons_succ, List.set_cons_zero]
  rw [e0, e1]
  clear e0 e1 hC hn E5 hL vs L nb
  clear e1 e2
  go_upto_region 7 with (fail)
  refine region_fr (C := [Fq.num (paV (bys sn)), Fq.num (paV (bys sd)), Fq.pair (paV (bys sn)) (paV (bys sd)), Fq.any, Fq.any]) (ks := [none, none, none]) (new := [⟨3, 4, 4, Fq.pair 0 0, Fq.pair (paV (bys sn)) (paV (bys sd)), none⟩]) E rfl (by kernel_rfl) rfl rfl (fun hp => ⟨?_, ?_, ?_, ?_, ?_, trivial⟩) ?_
  · exact q_loadInt (off := 0) hp (free_of rfl) trivial (List.mem_iff_getElem?.2 ⟨1, rfl⟩) (.inl rfl) (Nat.le_of_ble_eq_true rfl) (sq_out rfl rfl (fun _ _ => rfl)) (fun us w hl h => ld_num hl h)
  · exact q_loadInt (off := 0) hp (free_of rfl) trivial (List.mem_iff_getElem?.2 ⟨0, rfl⟩) (.inl rfl) (Nat.le_of_ble_eq_true rfl) (sq_out rfl rfl (fun _ _ => rfl)) (fun us w hl h => ld_num hl h)
  · exact q_buildRat (n := (paV (bys sn))) (d0 := (paV (bys sd))) hp (free_of rfl) trivial (sq_in 0 rfl rfl (by simp) rfl (fun v w h => h)) (sq_in 1 rfl rfl (by simp) rfl (fun v w h => h)) (fun v w h => h)
  · exact q_allocRat hp (List.mem_iff_getElem?.2 ⟨0, rfl⟩) rfl rfl rfl rfl (Nat.ne_of_beq_eq_false rfl) (fun _ _ => trivial) (old_ne rfl) (newk_ne rfl) (fun w => Pair.zero w)
  · exact q_storeNewRat hp (List.mem_iff_getElem?.2 ⟨0, rfl⟩) rfl rfl rfl (own_ptr rfl rfl (by simp) rfl) (sq_in 2 rfl rfl (by simp) rfl (fun v w h => ratV_pair h)) (fun _ _ => trivial) (old_ne rfl) (newi_ne rfl)
  intro L vs w6 nb hL hC hn E6
  have e3 : vs 3 = .pointer (some ⟨nb 3, 0, none⟩) := hn _ (List.mem_iff_getElem?.2 ⟨0, rfl⟩)
  have E : Fr w [(nb 3, 4, Fq.pair (paV (bys sn)) (paV (bys sd))), (b4_5, 2, Fq.num (paV (bys sd))), (b2_5, 2, Fq.num (paV (bys sn))), (b1, 4, Fq.pair 0 0)] w6 := E6
  rw [lay_all hL]
  simp only [putAll, dstOf, List.length_cons, List.length_nil, Nat.zero_add, Nat.reduceAdd, List.getElem?_toArray, List.getElem?_cons_zero, List.getElem?_cons_succ, Option.bind_some, Act.put, List.setIfInBounds_toArray, List.set_cons_succ, List.set_cons_zero]
  rw [e3]
  generalize nb 3 = b6_3 at E ⊢
  generalize vs 0 = u6_0
  generalize vs 1 = u6_1
  generalize vs 2 = u6_2
  clear e3 hC hn E6 hL vs L nb
  go_upto_region 8 with (fail)
  refine region_fr (C := [Fq.pair (paV (bys sn)) (paV (bys sd)), Fq.pair (paV (bys sn)) (paV (bys sd)), Fq.is (.bool true), Fq.any, Fq.is (.bool true)]) (ks := [none, none, none, some (3, Fq.pair (paV (bys sn)) (paV (bys sd)))]) (new := []) E rfl (by kernel_rfl) rfl rfl (fun hp => ⟨?_, ?_, ?_, ?_, ?_, trivial⟩) ?_
  · exact q_loadRat hp (free_of rfl) trivial (List.mem_iff_getElem?.2 ⟨0, rfl⟩) (.inl rfl) rfl (sq_out rfl rfl (fun _ _ => rfl)) (fun us w hl h => h)
  · exact q_loadRat hp (free_of rfl) trivial (List.mem_iff_getElem?.2 ⟨0, rfl⟩) (.inl rfl) rfl (sq_out rfl rfl (fun _ _ => rfl)) (fun us w hl h => h)
  · exact q_call1 (F := (Fq.pair (paV (bys sn)) (paV (bys sd))).P) hp (free_of rfl) trivial (enq_Q_Valid) (sq_in 1 rfl rfl (by simp) rfl (fun v w h => h)) (fun v w h => exValidT h (Int.lt_of_lt_of_le (paV_ab _) (pw_le (by omega))) (Int.lt_of_lt_of_le (paV_ab _) (pw_le (by omega))) hv.out.1 hv.out.2)
  · exact q_storeOldRat hp (List.mem_iff_getElem?.2 ⟨3, rfl⟩) rfl rfl (sq_out rfl rfl (fun _ _ => rfl)) (sq_in 0 rfl rfl (by simp) rfl (fun v w h => ratV_pair h)) (fun _ _ => trivial) (newik_ne rfl)
  · exact q_assign hp (free_of rfl) trivial (sq_in 2 rfl rfl (by simp) rfl (fun v w h => h))
  intro L vs w7 nb hL hC hn E7
  have e2 : vs 2 = .bool true := hC 2 (by simp)
  have e4 : vs 4 = .bool true := hC 4 (by simp)
  have E : Fr w [(b6_3, 4, Fq.pair (paV (bys sn)) (paV (bys sd))), (b4_5, 2, Fq.num (paV (bys sd))), (b2_5, 2, Fq.num (paV (bys sn))), (b1, 4, Fq.pair (paV (bys sn)) (paV (bys sd)))] w7 := E7
  rw [lay_all hL]
  simp only [putAll, dstOf, List.length_cons, List.length_nil, Nat.zero_add, Nat.reduceAdd, List.getElem?_toArray, List.getElem?_cons_zero, List.getElem?_cons_succ, Option.bind_some, Act.put, List.setIfInBounds_toArray, List.set_cons_succ, List.set_cons_zero]
  rw [e2, e4]
  generalize vs 0 = u7_0
  generalize vs 1 = u7_1
  clear e2 e4 hC hn E7 hL vs L nb
  clear hv
  obtain ⟨p0, p1, p2, p3, c0, c1, c2, c3, hP⟩ := box_pair (E.box 3 rfl)
  go_wp2
  refine bodyPost_ret (v := .tuple #[.agg #[p0, p1, p2, p3], .bool true]) ?_ rfl ⟨_, rfl, E.below, ⟨_, _, rfl, hP, rfl⟩⟩
  simp [results, Try.results54, go_sem, c0, c1, c2, c3]

set_option maxRecDepth 100000 in
set_option maxHeartbeats 4000000 in
theorem rd_n (w : World) {sn sd : ByteArray} (e1 : Hid (paE (bys sn) = 0)) (e2 : Hid (paE (bys sd) = 0)) (hv : Hid (paV (bys sd) ≤ 0)) :
    Calls Try.prog 54 #[.string sn, .string sd] w fun e w' => ∃ v', e = .returned v' ∧ Below w.heap.size w w' ∧ (Fq.tup2 (Fq.pair (paV (bys sn)) (paV (bys sd))) (Fq.is (.bool false))).P v' w' := by
  obtain ⟨w1, b1, hw1, hb1, hs1, E⟩ := fr_start w (F := Fq.pair 0 0) (us := [.bool false, .slice none 0 0, .bool false, .slice none 0 0]) 31 rfl (by simp) (tame_rat _ _ _ _ _ _ _ _) (Pair.zero _)
  go_enter Try.func54, Try.ntmps54
  go_upto_region 1 with (fail)
  rw [← hw1]
  rw [← hb1]
  clear hw1 hb1 hs1
  refine region_fr (C := [Fq.is (.string sn), Fq.tup2 (Fq.num (paV (bys sn))) (Fq.is (.int .i64 (paE (bys sn)))), Fq.tup2 (Fq.num (paV (bys sn))) (Fq.is (.int .i64 (paE (bys sn)))), Fq.num (paV (bys sn)), Fq.is (.int .i64 (paE (bys sn))), Fq.any, Fq.any, Fq.is (.int .i64 (paE (bys sn)))]) (ks := [none]) (new := [⟨5, 6, 2, Fq.num 0, Fq.num (paV (bys sn)), none⟩]) E rfl (by kernel_rfl) rfl rfl (fun hp => ⟨?_, ?_, ?_, ?_, ?_, ?_, ?_, ?_, trivial⟩) ?_
  · exact q_move hp (free_of rfl) trivial (sq_out rfl rfl (fun _ _ => rfl))
  · exact q_call1 (F := (Fq.is (.string sn)).P) hp (free_of rfl) trivial (enq_Parse) (sq_in 0 rfl rfl (by simp) rfl (fun v w h => h)) (fun v w h => (by subst h; exact exParseU))
  · exact q_move hp (free_of rfl) trivial (sq_in 1 rfl rfl (by simp) rfl (fun v w h => h))
  · exact q_extract2 hp (free_of rfl) trivial (sq_in 2 rfl rfl (by simp) rfl (fun v w h => h)) (fun v1 v2 w h1 h2 => ⟨_, rfl, h1⟩)
  · exact q_extract2 hp (free_of rfl) trivial (sq_in 2 rfl rfl (by simp) rfl (fun v w h => h)) (fun v1 v2 w h1 h2 => ⟨_, rfl, h2⟩)
  · exact q_allocInt hp (List.mem_iff_getElem?.2 ⟨0, rfl⟩) rfl rfl rfl rfl (Nat.ne_of_beq_eq_false rfl) (fun _ _ => trivial) (old_ne rfl) (newk_ne rfl) (fun w => Num.zero w)
  · exact q_storeNewInt hp (List.mem_iff_getElem?.2 ⟨0, rfl⟩) rfl rfl rfl (own_ptr rfl rfl (by simp) rfl) (sq_in 3 rfl rfl (by simp) rfl (fun v w h => intV_num h)) (fun _ _ => trivial) (old_ne rfl) (newi_ne rfl)
  · exact q_assign hp (free_of rfl) trivial (sq_in 4 rfl rfl (by simp) rfl (fun v w h => h))
  intro L vs w2 nb hL hC hn E2
  have e0 : vs 0 = .string sn := hC 0 (by simp)
  have e4 : vs 4 = .int .i64 (paE (bys sn)) := hC 4 (by simp)
  have e7 : vs 7 = .int .i64 (paE (bys sn)) := hC 7 (by simp)
  have e5 : vs 5 = .pointer (some ⟨nb 5, 0, none⟩) := hn _ (List.mem_iff_getElem?.2 ⟨0, rfl⟩)
  have E : Fr w [(nb 5, 2, Fq.num (paV (bys sn))), (b1, 4, Fq.pair 0 0)] w2 := E2
  rw [lay_all hL]
  simp only [putAll, dstOf, List.length_cons, List.length_nil, Nat.zero_add, Nat.reduceAdd, List.getElem?_toArray, List.getElem?_cons_zero, List.getElem?_cons_succ, Option.bind_some, Act.put, List.setIfInBounds_toArray, List.set_cons_succ, List.set_cons_zero]
  rw [e0, e4, e7, e5]
  generalize nb 5 = b2_5 at E ⊢
  generalize vs 1 = u2_1
  generalize vs 2 = u2_2
  generalize vs 3 = u2_3
  clear e0 e4 e7 e5 hC hn E2 hL vs L nb
  go_upto_region 2 with (fail)
  refine region_fr (C := [Fq.is (.int .i64 (paE (bys sn))), Fq.is (.bool false)]) (ks := [none, none]) (new := []) E rfl (by kernel_rfl) rfl rfl (fun hp => ⟨?_, ?_, trivial⟩) ?_
  · exact q_move hp (free_of rfl) trivial (sq_out rfl rfl (fun _ _ => rfl))
  · exact q_one (F := fun v _ => v = .int .i64 (paE (bys sn))) hp (free_of rfl) trivial (sq_in 0 rfl rfl (by simp) rfl (fun v w h => h)) (fun ρ w hc h => ⟨.bool false, by simp [execOp, go_sem, h, hc, e1.out], rfl⟩)
  intro L vs w3 nb hL hC hn E3
  have e0 : vs 0 = .int .i64 (paE (bys sn)) := hC 0 (by simp)
  have e1 : vs 1 = .bool false := hC 1 (by simp)
  have E : Fr w [(b2_5, 2, Fq.num (paV (bys sn))), (b1, 4, Fq.pair 0 0)] w3 := E3
  rw [lay_all hL]
  simp only [putAll, dstOf, List.length_cons, List.length_nil, Nat.zero_add, Nat.reduceAdd, List.getElem?_toArray, List.getElem?_cons_zero, List.getElem?_cons_succ, Option.bind_some, Act.put, List.setIfInBounds_toArray, List.set_cons_succ, List.set_cons_zero]
  rw [e0, e1]
  clear e0 e1 hC hn E3 hL vs L nb
  go_upto_region 4 with (fail)
  refine region_fr (C := [Fq.is (.string sd), Fq.tup2 (Fq.num (paV (bys sd))) (Fq.is (.int .i64 (paE (bys sd)))), Fq.tup2 (Fq.num (paV (bys sd))) (Fq.is (.int .i64 (paE (bys sd)))), Fq.num (paV (bys sd)), Fq.is (.int .i64 (paE (bys sd))), Fq.any, Fq.any, Fq.is (.int .i64 (paE (bys sd)))]) (ks := [none, none]) (new := [⟨5, 6, 2, Fq.num 0, Fq.num (paV (bys sd)), none⟩]) E rfl (by kernel_rfl) rfl rfl (fun hp => ⟨?_, ?_, ?_, ?_, ?_, ?_, ?_, ?_, trivial⟩) ?_
  · exact q_move hp (free_of rfl) trivial (sq_out rfl rfl (fun _ _ => rfl))
  · exact q_call1 (F := (Fq.is (.string sd)).P) hp (free_of rfl) trivial (enq_Parse) (sq_in 0 rfl rfl (by simp) rfl (fun v w h => h)) (fun v w h => (by subst h; exact exParseU))
  · exact q_move hp (free_of rfl) trivial (sq_in 1 rfl rfl (by simp) rfl (fun v w h => h))
  · exact q_extract2 hp (free_of rfl) trivial (sq_in 2 rfl rfl (by simp) rfl (fun v w h => h)) (fun v1 v2 w h1 h2 => ⟨_, rfl, h1⟩)
  · exact q_extract2 hp (free_of rfl) trivial (sq_in 2 rfl rfl (by simp) rfl (fun v w h => h)) (fun v1 v2 w h1 h2 => ⟨_, rfl, h2⟩)
  · exact q_allocInt hp (List.mem_iff_getElem?.2 ⟨0, rfl⟩) rfl rfl rfl rfl (Nat.ne_of_beq_eq_false rfl) (fun _ _ => trivial) (old_ne rfl) (newk_ne rfl) (fun w => Num.zero w)
  · exact q_storeNewInt hp (List.mem_iff_getElem?.2 ⟨0, rfl⟩) rfl rfl rfl (own_ptr rfl rfl (by simp) rfl) (sq_in 3 rfl rfl (by simp) rfl (fun v w h => intV_num h)) (fun _ _ => trivial) (old_ne rfl) (newi_ne rfl)
  · exact q_assign hp (free_of rfl) trivial (sq_in 4 rfl rfl (by simp) rfl (fun v w h => h))
  intro L vs w4 nb hL hC hn E4
  have e0 : vs 0 = .string sd := hC 0 (by simp)
  have e4 : vs 4 = .int .i64 (paE (bys sd)) := hC 4 (by simp)
  have e7 : vs 7 = .int .i64 (paE (bys sd)) := hC 7 (by simp)
  have e5 : vs 5 = .pointer (some ⟨nb 5, 0, none⟩) := hn _ (List.mem_iff_getElem?.2 ⟨0, rfl⟩)
  have E : Fr w [(nb 5, 2, Fq.num (paV (bys sd))), (b2_5, 2, Fq.num (paV (bys sn))), (b1, 4, Fq.pair 0 0)] w4 := E4
  rw [lay_all hL]
  simp only [putAll, dstOf, List.length_cons, List.length_nil, Nat.zero_add, Nat.reduceAdd, List.getElem?_toArray, List.getElem?_cons_zero, List.getElem?_cons_succ, Option.bind_some, Act.put, List.setIfInBounds_toArray, List.set_cons_succ, List.set_cons_zero]
  rw [e0, e4, e7, e5]
  generalize nb 5 = b4_5 at E ⊢
  generalize vs 1 = u4_1
  generalize vs 2 = u4_2
  generalize vs 3 = u4_3
  clear e0 e4 e7 e5 hC hn E4 hL vs L nb
  go_upto_region 5 with (fail)
  refine region_fr (C := [Fq.is (.int .i64 (paE (bys sd))), Fq.is (.bool false)]) (ks := [none, none, none]) (new := []) E rfl (by kernel_rfl) rfl rfl (fun hp => ⟨?_, ?_, trivial⟩) ?_
  · exact q_move hp (free_of rfl) trivial (sq_out rfl rfl (fun _ _ => rfl))
  · exact q_one (F := fun v _ => v = .int .i64 (paE (bys sd))) hp (free_of rfl) trivial (sq_in 0 rfl rfl (by simp) rfl (fun v w h => h)) (fun ρ w hc h => ⟨.bool false, by simp [execOp, go_sem, h, hc, e2.out], rfl⟩)
  intro L vs w5 nb hL hC hn E5
  have e0 : vs 0 = .int .i64 (paE (bys sd)) := hC 0 (by simp)
  have e1 : vs 1 = .bool false := hC 1 (by simp)
  have E : Fr w [(b4_5, 2, Fq.num (paV (bys sd))), (b2_5, 2, Fq.num (paV (bys sn))), (b1, 4, Fq.pair 0 0)] w5 := E5
  rw [lay_all hL]
  simp only [putAll, dstOf, List.length_cons, List.length_nil, Nat.zero_add, Nat.reduceAdd, List.getElem?_toArray, List.getElem?_cons_zero, List.getElem?_cons_succ, Option.bind_some, Act.put, List.setIfInBounds_toArray, List.set_cons_succ, List.set_cons_zero]
  rw [e0, e1]
  clear e0 e1 hC hn E5 hL vs L nb
  clear e1 e2
  go_upto_region 7 with (fail)
  refine region_fr (C := [Fq.num (paV (bys sn)), Fq.num (paV (bys sd)), Fq.pair (paV (bys sn)) (paV (bys sd)), Fq.any, Fq.any]) (ks := [none, none, none]) (new := [⟨3, 4, 4, Fq.pair 0 0, Fq.pair (paV (bys sn)) (paV (bys sd)), none⟩]) E rfl (by kernel_rfl) rfl rfl (fun hp => ⟨?_, ?_, ?_, ?_, ?_, trivial⟩) ?_
  · exact q_loadInt (off := 0) hp (free_of rfl) trivial (List.mem_iff_getElem?.2 ⟨1, rfl⟩) (.inl rfl) (Nat.le_of_ble_eq_true rfl) (sq_out rfl rfl (fun _ _ => rfl)) (fun us w hl h => ld_num hl h)
  · exact q_loadInt (off := 0) hp (free_of rfl) trivial (List.mem_iff_getElem?.2 ⟨0, rfl⟩) (.inl rfl) (Nat.le_of_ble_eq_true rfl) (sq_out rfl rfl (fun _ _ => rfl)) (fun us w hl h => ld_num hl h)
  · exact q_buildRat (n := (paV (bys sn))) (d0 := (paV (bys sd))) hp (free_of rfl) trivial (sq_in 0 rfl rfl (by simp) rfl (fun v w h => h)) (sq_in 1 rfl rfl (by simp) rfl (fun v w h => h)) (fun v w h => h)
  · exact q_allocRat hp (List.mem_iff_getElem?.2 ⟨0, rfl⟩) rfl rfl rfl rfl (Nat.ne_of_beq_eq_false rfl) (fun _ _ => trivial) (old_ne rfl) (newk_ne rfl) (fun w => Pair.zero w)
  · exact q_storeNewRat hp (List.mem_iff_getElem?.2 ⟨0, rfl⟩) rfl rfl rfl (own_ptr rfl rfl (by simp) rfl) (sq_in 2 rfl rfl (by simp) rfl (fun v w h => ratV_pair h)) (fun _ _ => trivial) (old_ne rfl) (newi_ne rfl)
  intro L vs w6 nb hL hC hn E6
  have e3 : vs 3 = .pointer (some ⟨nb 3, 0, none⟩) := hn _ (List.mem_iff_getElem?.2 ⟨0, rfl⟩)
  have E : Fr w [(nb 3, 4, Fq.pair (paV (bys sn)) (paV (bys sd))), (b4_5, 2, Fq.num (paV (bys sd))), (b2_5, 2, Fq.num (paV (bys sn))), (b1, 4, Fq.pair 0 0)] w6 := E6
  rw [lay_all hL]
  simp only [putAll, dstOf, List.length_cons, List.length_nil, Nat.zero_add, Nat.reduceAdd, List.getElem?_toArray, List.getElem?_cons_zero, List.getElem?_cons_succ, Option.bind_some, Act.put, List.setIfInBounds_toArray, List.set_cons_succ, List.set_cons_zero]
  rw [e3]
  generalize nb 3 = b6_3 at E ⊢
  generalize vs 0 = u6_0
  generalize vs 1 = u6_1
  generalize vs 2 = u6_2
  clear e3 hC hn E6 hL vs L nb
  go_upto_region 8 with (fail)
  refine region_fr (C := [Fq.pair (paV (bys sn)) (paV (bys sd)), Fq.pair (paV (bys sn)) (paV (bys sd)), Fq.is (.bool false), Fq.any, Fq.is (.bool false)]) (ks := [none, none, none, some (3, Fq.pair (paV (bys sn)) (paV (bys sd)))]) (new := []) E rfl (by kernel_rfl) rfl rfl (fun hp => ⟨?_, ?_, ?_, ?_, ?_, trivial⟩) ?_
  · exact q_loadRat hp (free_of rfl) trivial (List.mem_iff_getElem?.2 ⟨0, rfl⟩) (.inl rfl) rfl (sq_out rfl rfl (fun _ _ => rfl)) (fun us w hl h => h)
  · exact q_loadRat hp (free_of rfl) trivial (List.mem_iff_getElem?.2 ⟨0, rfl⟩) (.inl rfl) rfl (sq_out rfl rfl (fun _ _ => rfl)) (fun us w hl h => h)
  · exact q_call1 (F := (Fq.pair (paV (bys sn)) (paV (bys sd))).P) hp (free_of rfl) trivial (enq_Q_Valid) (sq_in 1 rfl rfl (by simp) rfl (fun v w h => h)) (fun v w h => exValidN h (by have := hv.out; omega))
  · exact q_storeOldRat hp (List.mem_iff_getElem?.2 ⟨3, rfl⟩) rfl rfl (sq_out rfl rfl (fun _ _ => rfl)) (sq_in 0 rfl rfl (by simp) rfl (fun v w h => ratV_pair h)) (fun _ _ => trivial) (newik_ne rfl)
  · exact q_assign hp (free_of rfl) trivial (sq_in 2 rfl rfl (by simp) rfl (fun v w h => h))
  intro L vs w7 nb hL hC hn E7
  have e2 : vs 2 = .bool false := hC 2 (by simp)
  have e4 : vs 4 = .bool false := hC 4 (by simp)
  have E : Fr w [(b6_3, 4, Fq.pair (paV (bys sn)) (paV (bys sd))), (b4_5, 2, Fq.num (paV (bys sd))), (b2_5, 2, Fq.num (paV (bys sn))), (b1, 4, Fq.pair (paV (bys sn)) (paV (bys sd)))] w7 := E7
  rw [lay_all hL]
  simp only [putAll, dstOf, List.length_cons, List.length_nil, Nat.zero_add, Nat.reduceAdd, List.getElem?_toArray, List.getElem?_cons_zero, List.getElem?_cons_succ, Option.bind_some, Act.put, List.setIfInBounds_toArray, List.set_cons_succ, List.set_cons_zero]
  rw [e2, e4]
  generalize vs 0 = u7_0
  generalize vs 1 = u7_1
  clear e2 e4 hC hn E7 hL vs L nb
  clear hv
  obtain ⟨p0, p1, p2, p3, c0, c1, c2, c3, hP⟩ := box_pair (E.box 3 rfl)
  go_wp2
  refine bodyPost_ret (v := .tuple #[.agg #[p0, p1, p2, p3], .bool false]) ?_ rfl ⟨_, rfl, E.below, ⟨_, _, rfl, hP, rfl⟩⟩
  simp [results, Try.results54, go_sem, c0, c1, c2, c3]

set_option maxRecDepth 100000 in
set_option maxHeartbeats 4000000 in
theorem rd_g (w : World) {sn sd : ByteArray} (e1 : Hid (paE (bys sn) = 0)) (e2 : Hid (paE (bys sd) = 0)) (hv : Hid (0 < paV (bys sd) ∧ Int.gcd (paV (bys sn)) (paV (bys sd)) ≠ 1)) :
    Calls Try.prog 54 #[.string sn, .string sd] w fun e w' => ∃ v', e = .returned v' ∧ Below w.heap.size w w' ∧ (Fq.tup2 (Fq.pair (paV (bys sn)) (paV (bys sd))) (Fq.is (.bool false))).P v' w' := by
  obtain ⟨w1, b1, hw1, hb1, hs1, E⟩ := fr_start w (F := Fq.pair 0 0) (us := [.bool false, .slice none 0 0, .bool false, .slice none 0 0]) 31 rfl (by simp) (tame_rat _ _ _ _ _ _ _ _) (Pair.zero _)
  go_enter Try.func54, Try.ntmps54
  go_upto_region 1 with (fail)
  rw [← hw1]
  rw [← hb1]
  clear hw1 hb1 hs1
  refine region_fr (C := [Fq.is (.string sn), Fq.tup2 (Fq.num (paV (bys sn))) (Fq.is (.int .i64 (paE (bys sn)))), Fq.tup2 (Fq.num (paV (bys sn))) (Fq.is (.int .i64 (paE (bys sn)))), Fq.num (paV (bys sn)), Fq.is (.int .i64 (paE (bys sn))), Fq.any, Fq.any, Fq.is (.int .i64 (paE (bys sn)))]) (ks := [none]) (new := [⟨5, 6, 2, Fq.num 0, Fq.num (paV (bys sn)), none⟩]) E rfl (by kernel_rfl) rfl rfl (fun hp => ⟨?_, ?_, ?_, ?_, ?_, ?_, ?_, ?_, trivial⟩) ?_
  · exact q_move hp (free_of rfl) trivial (sq_out rfl rfl (fun _ _ => rfl))
  · exact q_call1 (F := (Fq.is (.string sn)).P) hp (free_of rfl) trivial (enq_Parse) (sq_in 0 rfl rfl (by simp) rfl (fun v w h => h)) (fun v w h => (by subst h; exact exParseU))
  · exact q_move hp (free_of rfl) trivial (sq_in 1 rfl rfl (by simp) rfl (fun v w h => h))
  · exact q_extract2 hp (free_of rfl) trivial (sq_in 2 rfl rfl (by simp) rfl (fun v w h => h)) (fun v1 v2 w h1 h2 => ⟨_, rfl, h1⟩)
  · exact q_extract2 hp (free_of rfl) trivial (sq_in 2 rfl rfl (by simp) rfl (fun v w h => h)) (fun v1 v2 w h1 h2 => ⟨_, rfl, h2⟩)
  · exact q_allocInt hp (List.mem_iff_getElem?.2 ⟨0, rfl⟩) rfl rfl rfl rfl (Nat.ne_of_beq_eq_false rfl) (fun _ _ => trivial) (old_ne rfl) (newk_ne rfl) (fun w => Num.zero w)
  · exact q_storeNewInt hp (List.mem_iff_getElem?.2 ⟨0, rfl⟩) rfl rfl rfl (own_ptr rfl rfl (by simp) rfl) (sq_in 3 rfl rfl (by simp) rfl (fun v w h => intV_num h)) (fun _ _ => trivial) (old_ne rfl) (newi_ne rfl)
  · exact q_assign hp (free_of rfl) trivial (sq_in 4 rfl rfl (by simp) rfl (fun v w h => h))
  intro L vs w2 nb hL hC hn E2
  have e0 : vs 0 = .string sn := hC 0 (by simp)
  have e4 : vs 4 = .int .i64 (paE (bys sn)) := hC 4 (by simp)
  have e7 : vs 7 = .int .i64 (paE (bys sn)) := hC 7 (by simp)
  have e5 : vs 5 = .pointer (some ⟨nb 5, 0, none⟩) := hn _ (List.mem_iff_getElem?.2 ⟨0, rfl⟩)
  have E : Fr w [(nb 5, 2, Fq.num (paV (bys sn))), (b1, 4, Fq.pair 0 0)] w2 := E2
  rw [lay_all hL]
  simp only [putAll, dstOf, List.length_cons, List.length_nil, Nat.zero_add, Nat.reduceAdd, List.getElem?_toArray, List.getElem?_cons_zero, List.getElem?_cons_succ, Option.bind_some, Act.put, List.setIfInBounds_toArray, List.set_cons_succ, List.set_cons_zero]
  rw [e0, e4, e7, e5]
  generalize nb 5 = b2_5 at E ⊢
  generalize vs 1 = u2_1
  generalize vs 2 = u2_2
  generalize vs 3 = u2_3
  clear e0 e4 e7 e5 hC hn E2 hL vs L nb
  go_upto_region 2 with (fail)
  refine region_fr (C := [Fq.is (.int .i64 (paE (bys sn))), Fq.is (.bool false)]) (ks := [none, none]) (new := []) E rfl (by kernel_rfl) rfl rfl (fun hp => ⟨?_, ?_, trivial⟩) ?_
  · exact q_move hp (free_of rfl) trivial (sq_out rfl rfl (fun _ _ => rfl))
  · exact q_one (F := fun v _ => v = .int .i64 (paE (bys sn))) hp (free_of rfl) trivial (sq_in 0 rfl rfl (by simp) rfl (fun v w h => h)) (fun ρ w hc h => ⟨.bool false, by simp [execOp, go_sem, h, hc, e1.out], rfl⟩)
  intro L vs w3 nb hL hC hn E3
  have e0 : vs 0 = .int .i64 (paE (bys sn)) := hC 0 (by simp)
  have e1 : vs 1 = .bool false := hC 1 (by simp)
  have E : Fr w [(b2_5, 2, Fq.num (paV (bys sn))), (b1, 4, Fq.pair 0 0)] w3 := E3
  rw [lay_all hL]
  simp only [putAll, dstOf, List.length_cons, List.length_nil, Nat.zero_add, Nat.reduceAdd, List.getElem?_toArray, List.getElem?_cons_zero, List.getElem?_cons_succ, Option.bind_some, Act.put, List.setIfInBounds_toArray, List.set_cons_succ, List.set_cons_zero]
  rw [e0, e1]
  clear e0 e1 hC hn E3 hL vs L nb
  go_upto_region 4 with (fail)
  refine region_fr (C := [Fq.is (.string sd), Fq.tup2 (Fq.num (paV (bys sd))) (Fq.is (.int .i64 (paE (bys sd)))), Fq.tup2 (Fq.num (paV (bys sd))) (Fq.is (.int .i64 (paE (bys sd)))), Fq.num (paV (bys sd)), Fq.is (.int .i64 (paE (bys sd))), Fq.any, Fq.any, Fq.is (.int .i64 (paE (bys sd)))]) (ks := [none, none]) (new := [⟨5, 6, 2, Fq.num 0, Fq.num (paV (bys sd)), none⟩]) E rfl (by kernel_rfl) rfl rfl (fun hp => ⟨?_, ?_, ?_, ?_, ?_, ?_, ?_, ?_, trivial⟩) ?_
  · exact q_move hp (free_of rfl) trivial (sq_out rfl rfl (fun _ _ => rfl))
  · exact q_call1 (F := (Fq.is (.string sd)).P) hp (free_of rfl) trivial (enq_Parse) (sq_in 0 rfl rfl (by simp) rfl (fun v w h => h)) (fun v w h => (by subst h; exact exParseU))
  · exact q_move hp (free_of rfl) trivial (sq_in 1 rfl rfl (by simp) rfl (fun v w h => h))
  · exact q_extract2 hp (free_of rfl) trivial (sq_in 2 rfl rfl (by simp) rfl (fun v w h => h)) (fun v1 v2 w h1 h2 => ⟨_, rfl, h1⟩)
  · exact q_extract2 hp (free_of rfl) trivial (sq_in 2 rfl rfl (by simp) rfl (fun v w h => h)) (fun v1 v2 w h1 h2 => ⟨_, rfl, h2⟩)
  · exact q_allocInt hp (List.mem_iff_getElem?.2 ⟨0, rfl⟩) rfl rfl rfl rfl (Nat.ne_of_beq_eq_false rfl) (fun _ _ => trivial) (old_ne rfl) (newk_ne rfl) (fun w => Num.zero w)
  · exact q_storeNewInt hp (List.mem_iff_getElem?.2 ⟨0, rfl⟩) rfl rfl rfl (own_ptr rfl rfl (by simp) rfl) (sq_in 3 rfl rfl (by simp) rfl (fun v w h => intV_num h)) (fun _ _ => trivial) (old_ne rfl) (newi_ne rfl)
  · exact q_assign hp (free_of rfl) trivial (sq_in 4 rfl rfl (by simp) rfl (fun v w h => h))
  intro L vs w4 nb hL hC hn E4
  have e0 : vs 0 = .string sd := hC 0 (by simp)
  have e4 : vs 4 = .int .i64 (paE (bys sd)) := hC 4 (by simp)
  have e7 : vs 7 = .int .i64 (paE (bys sd)) := hC 7 (by simp)
  have e5 : vs 5 = .pointer (some ⟨nb 5, 0, none⟩) := hn _ (List.mem_iff_getElem?.2 ⟨0, rfl⟩)
  have E : Fr w [(nb 5, 2, Fq.num (paV (bys sd))), (b2_5, 2, Fq.num (paV (bys sn))), (b1, 4, Fq.pair 0 0)] w4 := E4
  rw [lay_all hL]
  simp only [putAll, dstOf, List.length_cons, List.length_nil, Nat.zero_add, Nat.reduceAdd, List.getElem?_toArray, List.getElem?_cons_zero, List.getElem?_cons_succ, Option.bind_some, Act.put, List.setIfInBounds_toArray, List.set_cons_succ, List.set_cons_zero]
  rw [e0, e4, e7, e5]
  generalize nb 5 = b4_5 at E ⊢
  generalize vs 1 = u4_1
  generalize vs 2 = u4_2
  generalize vs 3 = u4_3
  clear e0 e4 e7 e5 hC hn E4 hL vs L nb
  go_upto_region 5 with (fail)
  refine region_fr (C := [Fq.is (.int .i64 (paE (bys sd))), Fq.is (.bool false)]) (ks := [none, none, none]) (new := []) E rfl (by kernel_rfl) rfl rfl (fun hp => ⟨?_, ?_, trivial⟩) ?_
  · exact q_move hp (free_of rfl) trivial (sq_out rfl rfl (fun _ _ => rfl))
  · exact q_one (F := fun v _ => v = .int .i64 (paE (bys sd))) hp (free_of rfl) trivial (sq_in 0 rfl rfl (by simp) rfl (fun v w h => h)) (fun ρ w hc h => ⟨.bool false, by simp [execOp, go_sem, h, hc, e2.out], rfl⟩)
  intro L vs w5 nb hL hC hn E5
  have e0 : vs 0 = .int .i64 (paE (bys sd)) := hC 0 (by simp)
  have e1 : vs 1 = .bool false := hC 1 (by simp)
  have E : Fr w [(b4_5, 2, Fq.num (paV (bys sd))), (b2_5, 2, Fq.num (paV (bys sn))), (b1, 4, Fq.pair 0 0)] w5 := E5
  rw [lay_all hL]
  simp only [putAll, dstOf, List.length_cons, List.length_nil, Nat.zero_add, Nat.reduceAdd, List.getElem?_toArray, List.getElem?_cons_zero, List.getElem?_cons_succ, Option.bind_some, Act.put, List.setIfInBounds_toArray, List.set_cons_succ, List.set_cons_zero]
  rw [e0, e1]
  clear e0 e1 hC hn E5 hL vs L nb
  clear e1 e2
  go_upto_region 7 with (fail)
  refine region_fr (C := [Fq.num (paV (bys sn)), Fq.num (paV (bys sd)), Fq.pair (paV (bys sn)) (paV (bys sd)), Fq.any, Fq.any]) (ks := [none, none, none]) (new := [⟨3, 4, 4, Fq.pair 0 0, Fq.pair (paV (bys sn)) (paV (bys sd)), none⟩]) E rfl (by kernel_rfl) rfl rfl (fun hp => ⟨?_, ?_, ?_, ?_, ?_, trivial⟩) ?_
  · exact q_loadInt (off := 0) hp (free_of rfl) trivial (List.mem_iff_getElem?.2 ⟨1, rfl⟩) (.inl rfl) (Nat.le_of_ble_eq_true rfl) (sq_out rfl rfl (fun _ _ => rfl)) (fun us w hl h => ld_num hl h)
  · exact q_loadInt (off := 0) hp (free_of rfl) trivial (List.mem_iff_getElem?.2 ⟨0, rfl⟩) (.inl rfl) (Nat.le_of_ble_eq_true rfl) (sq_out rfl rfl (fun _ _ => rfl)) (fun us w hl h => ld_num hl h)
  · exact q_buildRat (n := (paV (bys sn))) (d0 := (paV (bys sd))) hp (free_of rfl) trivial (sq_in 0 rfl rfl (by simp) rfl (fun v w h => h)) (sq_in 1 rfl rfl (by simp) rfl (fun v w h => h)) (fun v w h => h)
  · exact q_allocRat hp (List.mem_iff_getElem?.2 ⟨0, rfl⟩) rfl rfl rfl rfl (Nat.ne_of_beq_eq_false rfl) (fun _ _ => trivial) (old_ne rfl) (newk_ne rfl) (fun w => Pair.zero w)
  · exact q_storeNewRat hp (List.mem_iff_getElem?.2 ⟨0, rfl⟩) rfl rfl rfl (own_ptr rfl rfl (by simp) rfl) (sq_in 2 rfl rfl (by simp) rfl (fun v w h => ratV_pair h)) (fun _ _ => trivial) (old_ne rfl) (newi_ne rfl)
  intro L vs w6 nb hL hC hn E6
  have e3 : vs 3 = .pointer (some ⟨nb 3, 0, none⟩) := hn _ (List.mem_iff_getElem?.2 ⟨0, rfl⟩)
  have E : Fr w [(nb 3, 4, Fq.pair (paV (bys sn)) (paV (bys sd))), (b4_5, 2, Fq.num (paV (bys sd))), (b2_5, 2, Fq.num (paV (bys sn))), (b1, 4, Fq.pair 0 0)] w6 := E6
  rw [lay_all hL]
  simp only [putAll, dstOf, List.length_cons, List.length_nil, Nat.zero_add, Nat.reduceAdd, List.getElem?_toArray, List.getElem?_cons_zero, List.getElem?_cons_succ, Option.bind_some, Act.put, List.setIfInBounds_toArray, List.set_cons_succ, List.set_cons_zero]
  rw [e3]
  generalize nb 3 = b6_3 at E ⊢
  generalize vs 0 = u6_0
  generalize vs 1 = u6_1
  generalize vs 2 = u6_2
  clear e3 hC hn E6 hL vs L nb
  go_upto_region 8 with (fail)
  refine region_fr (C := [Fq.pair (paV (bys sn)) (paV (bys sd)), Fq.pair (paV (bys sn)) (paV (bys sd)), Fq.is (.bool false), Fq.any, Fq.is (.bool false)]) (ks := [none, none, none, some (3, Fq.pair (paV (bys sn)) (paV (bys sd)))]) (new := []) E rfl (by kernel_rfl) rfl rfl (fun hp => ⟨?_, ?_, ?_, ?_, ?_, trivial⟩) ?_
  · exact q_loadRat hp (free_of rfl) trivial (List.mem_iff_getElem?.2 ⟨0, rfl⟩) (.inl rfl) rfl (sq_out rfl rfl (fun _ _ => rfl)) (fun us w hl h => h)
  · exact q_loadRat hp (free_of rfl) trivial (List.mem_iff_getElem?.2 ⟨0, rfl⟩) (.inl rfl) rfl (sq_out rfl rfl (fun _ _ => rfl)) (fun us w hl h => h)
  · exact q_call1 (F := (Fq.pair (paV (bys sn)) (paV (bys sd))).P) hp (free_of rfl) trivial (enq_Q_Valid) (sq_in 1 rfl rfl (by simp) rfl (fun v w h => h)) (fun v w h => exValidG h (Int.lt_of_lt_of_le (paV_ab _) (pw_le (by omega))) (Int.lt_of_lt_of_le (paV_ab _) (pw_le (by omega))) hv.out.1 hv.out.2)
  · exact q_storeOldRat hp (List.mem_iff_getElem?.2 ⟨3, rfl⟩) rfl rfl (sq_out rfl rfl (fun _ _ => rfl)) (sq_in 0 rfl rfl (by simp) rfl (fun v w h => ratV_pair h)) (fun _ _ => trivial) (newik_ne rfl)
  · exact q_assign hp (free_of rfl) trivial (sq_in 2 rfl rfl (by simp) rfl (fun v w h => h))
  intro L vs w7 nb hL hC hn E7
  have e2 : vs 2 = .bool false := hC 2 (by simp)
  have e4 : vs 4 = .bool false := hC 4 (by simp)
  have E : Fr w [(b6_3, 4, Fq.pair (paV (bys sn)) (paV (bys sd))), (b4_5, 2, Fq.num (paV (bys sd))), (b2_5, 2, Fq.num (paV (bys sn))), (b1, 4, Fq.pair (paV (bys sn)) (paV (bys sd)))] w7 := E7
  rw [lay_all hL]
  simp only [putAll, dstOf, List.length_cons, List.length_nil, Nat.zero_add, Nat.reduceAdd, List.getElem?_toArray, List.getElem?_cons_zero, List.getElem?_cons_succ, Option.bind_some, Act.put, List.setIfInBounds_toArray, List.set_cons_succ, List.set_cons_zero]
  rw [e2, e4]
  generalize vs 0 = u7_0
  generalize vs 1 = u7_1
  clear e2 e4 hC hn E7 hL vs L nb
  clear hv
  obtain ⟨p0, p1, p2, p3, c0, c1, c2, c3, hP⟩ := box_pair (E.box 3 rfl)
  go_wp2
  refine bodyPost_ret (v := .tuple #[.agg #[p0, p1, p2, p3], .bool false]) ?_ rfl ⟨_, rfl, E.below, ⟨_, _, rfl, hP, rfl⟩⟩
  simp [results, Try.results54, go_sem, c0, c1, c2, c3]

set_option maxRecDepth 100000 in
set_option maxHeartbeats 4000000 in
theorem qp_big (w : World) {s : ByteArray} (hl : 2601 < s.size) :
    Calls Try.prog 26 #[.string s] w fun e w' => ∃ v', e = .returned v' ∧ Below w.heap.size w w' ∧ (Fq.tup2 (Fq.pair 0 0) (Fq.is (.int .i64 2))).P v' w' := by
  obtain ⟨w1, b1, hw1, hb1, hs1, E⟩ := fr_start w (F := Fq.pair 0 0) (us := [.bool false, .slice none 0 0, .bool false, .slice none 0 0]) 31 rfl (by simp) (tame_rat _ _ _ _ _ _ _ _) (Pair.zero _)
  go_enter Try.func26, Try.ntmps26
  go_upto_region 1 with (fail)
  rw [← hw1]
  rw [← hb1]
  clear hw1 hb1 hs1
  have T1 := hidd (show (2601 : Int) < ((s.size : Nat) : Int) by omega)
  clear hl
  refine region_fr (C := [Fq.is (.string s), Fq.is (.int .i64 ((s.size : Nat) : Int)), Fq.is (.bool true)]) (ks := [none]) (new := []) E rfl (by kernel_rfl) rfl rfl (fun hp => ⟨?_, ?_, ?_, trivial⟩) ?_
  · exact q_move hp (free_of rfl) trivial (sq_out rfl rfl (fun _ _ => rfl))
  · exact q_lenS hp (free_of rfl) trivial (sq_in 0 rfl rfl (by simp) rfl (fun v w h => h)) (fun _ => rfl)
  · exact q_one (F := fun v _ => v = .int .i64 ((s.size : Nat) : Int)) hp (free_of rfl) trivial (sq_in 1 rfl rfl (by simp) rfl (fun v w h => h)) (fun ρ w hc h => ⟨.bool true, by simp [execOp, go_sem, h, hc, T1.out], rfl⟩)
  intro L vs w2 nb hL hC hn E2
  have e0 : vs 0 = .string s := hC 0 (by simp)
  have e1 : vs 1 = .int .i64 ((s.size : Nat) : Int) := hC 1 (by simp)
  have e2 : vs 2 = .bool true := hC 2 (by simp)
  have E : Fr w [(b1, 4, Fq.pair 0 0)] w2 := E2
  rw [lay_all hL]
  simp only [putAll, dstOf, List.length_cons, List.length_nil, Nat.zero_add, Nat.reduceAdd, List.getElem?_toArray, List.getElem?_cons_zero, List.getElem?_cons_succ, Option.bind_some, Act.put, List.setIfInBounds_toArray, List.set_cons_succ, List.set_cons_zero]
  rw [e0, e1, e2]
  clear e0 e1 e2 hC hn E2 hL vs L nb
  clear T1
  go_upto_region 2 with (fail)
  refine region_fr (C := [Fq.pair 0 0, Fq.any, Fq.is (.int .i64 2)]) (ks := [some (1, Fq.pair 0 0)]) (new := []) E rfl (by kernel_rfl) rfl rfl (fun hp => ⟨?_, ?_, ?_, trivial⟩) ?_
  · exact q_zeroRat hp (free_of rfl) trivial (fun v w h => h)
  · exact q_storeOldRat hp (List.mem_iff_getElem?.2 ⟨0, rfl⟩) rfl rfl (sq_out rfl rfl (fun _ _ => rfl)) (sq_in 0 rfl rfl (by simp) rfl (fun v w h => ratV_pair h)) (fun _ _ => trivial) (newik_ne rfl)
  · exact q_assign hp (free_of rfl) trivial (sq_const (fun _ => rfl))
  intro L vs w3 nb hL hC hn E3
  have e2 : vs 2 = .int .i64 2 := hC 2 (by simp)
  have E : Fr w [(b1, 4, Fq.pair 0 0)] w3 := E3
  rw [lay_all hL]
  simp only [putAll, dstOf, List.length_cons, List.length_nil, Nat.zero_add, Nat.reduceAdd, List.getElem?_toArray, List.getElem?_cons_zero, List.getElem?_cons_succ, Option.bind_some, Act.put, List.setIfInBounds_toArray, List.set_cons_succ, List.set_cons_zero]
  rw [e2]
  generalize vs 0 = u3_0
  clear e2 hC hn E3 hL vs L nb
  obtain ⟨p0, p1, p2, p3, c0, c1, c2, c3, hP⟩ := box_pair (E.box 0 rfl)
  go_wp2
  refine bodyPost_ret (v := .tuple #[.agg #[p0, p1, p2, p3], .int .i64 2]) ?_ rfl ⟨_, rfl, E.below, ⟨_, _, rfl, hP, rfl⟩⟩
  simp [results, Try.results26, go_sem, c0, c1, c2, c3]

set_option maxRecDepth 100000 in
set_option maxHeartbeats 4000000 in
theorem qp_a (w : World) {s sn sd : ByteArray} {K : Nat} (hS : Slash (bys s) K) (hl : s.size ≤ 2601) (hK : K < s.size) (hn : Hid (sn = s.extract 0 K)) (hd : Hid (sd = s.extract (K + 1) s.size)) (e1 : Hid (¬ paE (bys sn) = 0)) :
    Calls Try.prog 26 #[.string s] w fun e w' => ∃ v', e = .returned v' ∧ Below w.heap.size w w' ∧ (Fq.tup2 (Fq.pair 0 0) (Fq.is (.int .i64 3))).P v' w' := by
  obtain ⟨w1, b1, hw1, hb1, hs1, E⟩ := fr_start w (F := Fq.pair 0 0) (us := [.bool false, .slice none 0 0, .bool false, .slice none 0 0]) 31 rfl (by simp) (tame_rat _ _ _ _ _ _ _ _) (Pair.zero _)
  go_enter Try.func26, Try.ntmps26
  go_upto_region 1 with (fail)
  rw [← hw1]
  rw [← hb1]
  clear hw1 hb1 hs1
  have T1 := hidd (show ¬ (2601 : Int) < ((s.size : Nat) : Int) by omega)
  have HL := hidd hl
  have HK := hidd hK
  clear hl hK
  refine region_fr (C := [Fq.is (.string s), Fq.is (.int .i64 ((s.size : Nat) : Int)), Fq.is (.bool false)]) (ks := [none]) (new := []) E rfl (by kernel_rfl) rfl rfl (fun hp => ⟨?_, ?_, ?_, trivial⟩) ?_
  · exact q_move hp (free_of rfl) trivial (sq_out rfl rfl (fun _ _ => rfl))
  · exact q_lenS hp (free_of rfl) trivial (sq_in 0 rfl rfl (by simp) rfl (fun v w h => h)) (fun _ => rfl)
  · exact q_one (F := fun v _ => v = .int .i64 ((s.size : Nat) : Int)) hp (free_of rfl) trivial (sq_in 1 rfl rfl (by simp) rfl (fun v w h => h)) (fun ρ w hc h => ⟨.bool false, by simp [execOp, go_sem, h, hc, T1.out], rfl⟩)
  intro L vs w2 nb hL hC hn E2
  have e0 : vs 0 = .string s := hC 0 (by simp)
  have e1 : vs 1 = .int .i64 ((s.size : Nat) : Int) := hC 1 (by simp)
  have e2 : vs 2 = .bool false := hC 2 (by simp)
  have E : Fr w [(b1, 4, Fq.pair 0 0)] w2 := E2
  rw [lay_all hL]
  simp only [putAll, dstOf, List.length_cons, List.length_nil, Nat.zero_add, Nat.reduceAdd, List.getElem?_toArray, List.getElem?_cons_zero, List.getElem?_cons_succ, Option.bind_some, Act.put, List.setIfInBounds_toArray, List.set_cons_succ, List.set_cons_zero]
  rw [e0, e1, e2]
  clear e0 e1 e2 hC hn E2 hL vs L nb
  clear T1
  go_wp2_with fail
  refine (exCutSlash _ hS (by have := HL.out; omega) HK.out).mono ?_
  rintro e wq ⟨rfl, hb⟩
  replace E := E.mono hb
  clear hb hS HL HK
  rw [← hn.out, ← hd.out]
  clear hn hd
  go_upto_region 6 with (fail)
  refine region_fr (C := [Fq.is (.string sn), Fq.is (.string sd), Fq.tup2 (Fq.pair 0 0) (Fq.is (.bool false)), Fq.tup2 (Fq.pair 0 0) (Fq.is (.bool false)), Fq.pair 0 0, Fq.is (.bool false), Fq.any, Fq.any, Fq.is (.bool false)]) (ks := [none]) (new := [⟨6, 7, 4, Fq.pair 0 0, Fq.pair 0 0, none⟩]) E rfl (by kernel_rfl) rfl rfl (fun hp => ⟨?_, ?_, ?_, ?_, ?_, ?_, ?_, ?_, ?_, trivial⟩) ?_
  · exact q_move hp (free_of rfl) trivial (sq_out rfl rfl (fun _ _ => rfl))
  · exact q_move hp (free_of rfl) trivial (sq_out rfl rfl (fun _ _ => rfl))
  · exact q_call2 (F := (Fq.is (.string sn)).P) (G := (Fq.is (.string sd)).P) hp (free_of rfl) trivial (enq_Q_read) (sq_in 0 rfl rfl (by simp) rfl (fun v w h => h)) (sq_in 1 rfl rfl (by simp) rfl (fun v w h => h)) (fun v v' w h h' => (by subst h; subst h'; exact rd_a w e1))
  · exact q_move hp (free_of rfl) trivial (sq_in 2 rfl rfl (by simp) rfl (fun v w h => h))
  · exact q_extract2 hp (free_of rfl) trivial (sq_in 3 rfl rfl (by simp) rfl (fun v w h => h)) (fun v1 v2 w h1 h2 => ⟨_, rfl, h1⟩)
  · exact q_extract2 hp (free_of rfl) trivial (sq_in 3 rfl rfl (by simp) rfl (fun v w h => h)) (fun v1 v2 w h1 h2 => ⟨_, rfl, h2⟩)
  · exact q_allocRat hp (List.mem_iff_getElem?.2 ⟨0, rfl⟩) rfl rfl rfl rfl (Nat.ne_of_beq_eq_false rfl) (fun _ _ => trivial) (old_ne rfl) (newk_ne rfl) (fun w => Pair.zero w)
  · exact q_storeNewRat hp (List.mem_iff_getElem?.2 ⟨0, rfl⟩) rfl rfl rfl (own_ptr rfl rfl (by simp) rfl) (sq_in 4 rfl rfl (by simp) rfl (fun v w h => ratV_pair h)) (fun _ _ => trivial) (old_ne rfl) (newi_ne rfl)
  · exact q_assign hp (free_of rfl) trivial (sq_in 5 rfl rfl (by simp) rfl (fun v w h => h))
  intro L vs w3 nb hL hC hn E3
  have e0 : vs 0 = .string sn := hC 0 (by simp)
  have e1 : vs 1 = .string sd := hC 1 (by simp)
  have e5 : vs 5 = .bool false := hC 5 (by simp)
  have e8 : vs 8 = .bool false := hC 8 (by simp)
  have e6 : vs 6 = .pointer (some ⟨nb 6, 0, none⟩) := hn _ (List.mem_iff_getElem?.2 ⟨0, rfl⟩)
  have E : Fr w [(nb 6, 4, Fq.pair 0 0), (b1, 4, Fq.pair 0 0)] w3 := E3
  rw [lay_all hL]
  simp only [putAll, dstOf, List.length_cons, List.length_nil, Nat.zero_add, Nat.reduceAdd, List.getElem?_toArray, List.getElem?_cons_zero, List.getElem?_cons_succ, Option.bind_some, Act.put, List.setIfInBounds_toArray, List.set_cons_succ, List.set_cons_zero]
  rw [e0, e1, e5, e8, e6]
  generalize nb 6 = b3_6 at E ⊢
  generalize vs 2 = u3_2
  generalize vs 3 = u3_3
  generalize vs 4 = u3_4
  clear e0 e1 e5 e8 e6 hC hn E3 hL vs L nb
  go_upto_region 7 with (fail)
  refine region_fr (C := [Fq.is (.bool false), Fq.is (.bool true), Fq.is (.bool true), Fq.is (undef), Fq.is (undef), Fq.is (undef), Fq.is (undef), Fq.is (undef), Fq.is (undef), Fq.is (.bool true)]) (ks := [none, none]) (new := []) E rfl (by kernel_rfl) rfl rfl (fun hp => ⟨?_, ?_, ?_, ?_, ?_, ?_, ?_, ?_, ?_, ?_, trivial⟩) ?_
  · exact q_move hp (free_of rfl) trivial (sq_out rfl rfl (fun _ _ => rfl))
  · exact q_one (F := fun v _ => v = .bool false) hp (free_of rfl) trivial (sq_in 0 rfl rfl (by simp) rfl (fun v w h => h)) (fun ρ w _ h => ⟨.bool true, by simp [execOp, go_sem, h], rfl⟩)
  · exact q_move hp (free_of rfl) trivial (sq_in 1 rfl rfl (by simp) rfl (fun v w h => h))
  · exact q_skip hp (free_of rfl) rfl (gq_some rfl rfl (by simp) rfl (fun v w h => h)) (fun _ => rfl)
  · exact q_skip hp (free_of rfl) rfl (gq_some rfl rfl (by simp) rfl (fun v w h => h)) (fun _ => rfl)
  · exact q_skipU hp (free_of rfl) rfl rfl rfl (by simp) rfl (fun v w h => h) (fun _ => rfl)
  · exact q_skipU hp (free_of rfl) rfl rfl rfl (by simp) rfl (fun v w h => h) (fun _ => rfl)
  · exact q_skipU hp (free_of rfl) rfl rfl rfl (by simp) rfl (fun v w h => h) (fun _ => rfl)
  · exact q_skip hp (free_of rfl) rfl (gq_some rfl rfl (by simp) rfl (fun v w h => h)) (fun _ => rfl)
  · exact q_two (F := fun v _ => v = .bool true) (G := fun v _ => v = .bool true) hp (free_of rfl) trivial (sq_in 2 rfl rfl (by simp) rfl (fun v w h => h)) (sq_const (fun _ => rfl)) (fun ρ w hc h h' => ⟨_, by simp [execOp, go_sem, h, h'], rfl⟩)
  intro L vs w4 nb hL hC hn E4
  have e0 : vs 0 = .bool false := hC 0 (by simp)
  have e1 : vs 1 = .bool true := hC 1 (by simp)
  have e2 : vs 2 = .bool true := hC 2 (by simp)
  have e3 : vs 3 = undef := hC 3 (by simp)
  have e4 : vs 4 = undef := hC 4 (by simp)
  have e5 : vs 5 = undef := hC 5 (by simp)
  have e6 : vs 6 = undef := hC 6 (by simp)
  have e7 : vs 7 = undef := hC 7 (by simp)
  have e8 : vs 8 = undef := hC 8 (by simp)
  have e9 : vs 9 = .bool true := hC 9 (by simp)
  have E : Fr w [(b3_6, 4, Fq.pair 0 0), (b1, 4, Fq.pair 0 0)] w4 := E4
  rw [lay_all hL]
  simp only [putAll, dstOf, List.length_cons, List.length_nil, Nat.zero_add, Nat.reduceAdd, List.getElem?_toArray, List.getElem?_cons_zero, List.getElem?_cons_succ, Option.bind_some, Act.put, List.setIfInBounds_toArray, List.set_cons_succ, List.set_cons_zero]
  rw [e0, e1, e2, e3, e4, e5, e6, e7, e8, e9]
  clear e0 e1 e2 e3 e4 e5 e6 e7 e8 e9 hC hn E4 hL vs L nb
  go_upto_region 8 with (fail)
  refine region_fr (C := [Fq.pair 0 0, Fq.any, Fq.is (.int .i64 3)]) (ks := [none, some (1, Fq.pair 0 0)]) (new := []) E rfl (by kernel_rfl) rfl rfl (fun hp => ⟨?_, ?_, ?_, trivial⟩) ?_
  · exact q_zeroRat hp (free_of rfl) trivial (fun v w h => h)
  · exact q_storeOldRat hp (List.mem_iff_getElem?.2 ⟨1, rfl⟩) rfl rfl (sq_out rfl rfl (fun _ _ => rfl)) (sq_in 0 rfl rfl (by simp) rfl (fun v w h => ratV_pair h)) (fun _ _ => trivial) (newik_ne rfl)
  · exact q_assign hp (free_of rfl) trivial (sq_const (fun _ => rfl))
  intro L vs w5 nb hL hC hn E5
  have e2 : vs 2 = .int .i64 3 := hC 2 (by simp)
  have E : Fr w [(b3_6, 4, Fq.pair 0 0), (b1, 4, Fq.pair 0 0)] w5 := E5
  rw [lay_all hL]
  simp only [putAll, dstOf, List.length_cons, List.length_nil, Nat.zero_add, Nat.reduceAdd, List.getElem?_toArray, List.getElem?_cons_zero, List.getElem?_cons_succ, Option.bind_some, Act.put, List.setIfInBounds_toArray, List.set_cons_succ, List.set_cons_zero]
  rw [e2]
  generalize vs 0 = u5_0
  clear e2 hC hn E5 hL vs L nb
  obtain ⟨p0, p1, p2, p3, c0, c1, c2, c3, hP⟩ := box_pair (E.box 1 rfl)
  go_wp2
  refine bodyPost_ret (v := .tuple #[.agg #[p0, p1, p2, p3], .int .i64 3]) ?_ rfl ⟨_, rfl, E.below, ⟨_, _, rfl, hP, rfl⟩⟩
  simp [results, Try.results26, go_sem, c0, c1, c2, c3]

set_option maxRecDepth 100000 in
set_option maxHeartbeats 4000000 in
theorem qp_b (w : World) {s sn sd : ByteArray} {K : Nat} (hS : Slash (bys s) K) (hl : s.size ≤ 2601) (hK : K < s.size) (hn : Hid (sn = s.extract 0 K)) (hd : Hid (sd = s.extract (K + 1) s.size)) (e1 : Hid (paE (bys sn) = 0)) (e2 : Hid (¬ paE (bys sd) = 0)) :
    Calls Try.prog 26 #[.string s] w fun e w' => ∃ v', e = .returned v' ∧ Below w.heap.size w w' ∧ (Fq.tup2 (Fq.pair 0 0) (Fq.is (.int .i64 3))).P v' w' := by
  obtain ⟨w1, b1, hw1, hb1, hs1, E⟩ := fr_start w (F := Fq.pair 0 0) (us := [.bool false, .slice none 0 0, .bool false, .slice none 0 0]) 31 rfl (by simp) (tame_rat _ _ _ _ _ _ _ _) (Pair.zero _)
  go_enter Try.func26, Try.ntmps26
  go_upto_region 1 with (fail)
  rw [← hw1]
  rw [← hb1]
  clear hw1 hb1 hs1
  have T1 := hidd (show ¬ (2601 : Int) < ((s.size : Nat) : Int) by omega)
  have HL := hidd hl
  have HK := hidd hK
  clear hl hK
  refine region_fr (C := [Fq.is (.string s), Fq.is (.int .i64 ((s.size : Nat) : Int)), Fq.is (.bool false)]) (ks := [none]) (new := []) E rfl (by kernel_rfl) rfl rfl (fun hp => ⟨?_, ?_, ?_, trivial⟩) ?_
  · exact q_move hp (free_of rfl) trivial (sq_out rfl rfl (fun _ _ => rfl))
  · exact q_lenS hp (free_of rfl) trivial (sq_in 0 rfl rfl (by simp) rfl (fun v w h => h)) (fun _ => rfl)
  · exact q_one (F := fun v _ => v = .int .i64 ((s.size : Nat) : Int)) hp (free_of rfl) trivial (sq_in 1 rfl rfl (by simp) rfl (fun v w h => h)) (fun ρ w hc h => ⟨.bool false, by simp [execOp, go_sem, h, hc, T1.out], rfl⟩)
  intro L vs w2 nb hL hC hn E2
  have e0 : vs 0 = .string s := hC 0 (by simp)
  have e1 : vs 1 = .int .i64 ((s.size : Nat) : Int) := hC 1 (by simp)
  have e2 : vs 2 = .bool false := hC 2 (by simp)
  have E : Fr w [(b1, 4, Fq.pair 0 0)] w2 := E2
  rw [lay_all hL]
  simp only [putAll, dstOf, List.length_cons, List.length_nil, Nat.zero_add, Nat.reduceAdd, List.getElem?_toArray, List.getElem?_cons_zero, List.getElem?_cons_succ, Option.bind_some, Act.put, List.setIfInBounds_toArray, List.set_cons_succ, List.set_cons_zero]
  rw [e0, e1, e2]
  clear e0 e1 e2 hC hn E2 hL vs L nb
  clear T1
  go_wp2_with fail
  refine (exCutSlash _ hS (by have := HL.out; omega) HK.out).mono ?_
  rintro e wq ⟨rfl, hb⟩
  replace E := E.mono hb
  clear hb hS HL HK
  rw [← hn.out, ← hd.out]
  clear hn hd
  go_upto_region 6 with (fail)
  refine region_fr (C := [Fq.is (.string sn), Fq.is (.string sd), Fq.tup2 (Fq.pair 0 0) (Fq.is (.bool false)), Fq.tup2 (Fq.pair 0 0) (Fq.is (.bool false)), Fq.pair 0 0, Fq.is (.bool false), Fq.any, Fq.any, Fq.is (.bool false)]) (ks := [none]) (new := [⟨6, 7, 4, Fq.pair 0 0, Fq.pair 0 0, none⟩]) E rfl (by kernel_rfl) rfl rfl (fun hp => ⟨?_, ?_, ?_, ?_, ?_, ?_, ?_, ?_, ?_, trivial⟩) ?_
  · exact q_move hp (free_of rfl) trivial (sq_out rfl rfl (fun _ _ => rfl))
  · exact q_move hp (free_of rfl) trivial (sq_out rfl rfl (fun _ _ => rfl))
  · exact q_call2 (F := (Fq.is (.string sn)).P) (G := (Fq.is (.string sd)).P) hp (free_of rfl) trivial (enq_Q_read) (sq_in 0 rfl rfl (by simp) rfl (fun v w h => h)) (sq_in 1 rfl rfl (by simp) rfl (fun v w h => h)) (fun v v' w h h' => (by subst h; subst h'; exact rd_b w e1 e2))
  · exact q_move hp (free_of rfl) trivial (sq_in 2 rfl rfl (by simp) rfl (fun v w h => h))
  · exact q_extract2 hp (free_of rfl) trivial (sq_in 3 rfl rfl (by simp) rfl (fun v w h => h)) (fun v1 v2 w h1 h2 => ⟨_, rfl, h1⟩)
  · exact q_extract2 hp (free_of rfl) trivial (sq_in 3 rfl rfl (by simp) rfl (fun v w h => h)) (fun v1 v2 w h1 h2 => ⟨_, rfl, h2⟩)
  · exact q_allocRat hp (List.mem_iff_getElem?.2 ⟨0, rfl⟩) rfl rfl rfl rfl (Nat.ne_of_beq_eq_false rfl) (fun _ _ => trivial) (old_ne rfl) (newk_ne rfl) (fun w => Pair.zero w)
  · exact q_storeNewRat hp (List.mem_iff_getElem?.2 ⟨0, rfl⟩) rfl rfl rfl (own_ptr rfl rfl (by simp) rfl) (sq_in 4 rfl rfl (by simp) rfl (fun v w h => ratV_pair h)) (fun _ _ => trivial) (old_ne rfl) (newi_ne rfl)
  · exact q_assign hp (free_of rfl) trivial (sq_in 5 rfl rfl (by simp) rfl (fun v w h => h))
  intro L vs w3 nb hL hC hn E3
  have e0 : vs 0 = .string sn := hC 0 (by simp)
  have e1 : vs 1 = .string sd := hC 1 (by simp)
  have e5 : vs 5 = .bool false := hC 5 (by simp)
  have e8 : vs 8 = .bool false := hC 8 (by simp)
  have e6 : vs 6 = .pointer (some ⟨nb 6, 0, none⟩) := hn _ (List.mem_iff_getElem?.2 ⟨0, rfl⟩)
  have E : Fr w [(nb 6, 4, Fq.pair 0 0), (b1, 4, Fq.pair 0 0)] w3 := E3
  rw [lay_all hL]
  simp only [putAll, dstOf, List.length_cons, List.length_nil, Nat.zero_add, Nat.reduceAdd, List.getElem?_toArray, List.getElem?_cons_zero, List.getElem?_cons_succ, Option.bind_some, Act.put, List.setIfInBounds_toArray, List.set_cons_succ, List.set_cons_zero]
  rw [e0, e1, e5, e8, e6]
  generalize nb 6 = b3_6 at E ⊢
  generalize vs 2 = u3_2
  generalize vs 3 = u3_3
  generalize vs 4 = u3_4
  clear e0 e1 e5 e8 e6 hC hn E3 hL vs L nb
  go_upto_region 7 with (fail)
  refine region_fr (C := [Fq.is (.bool false), Fq.is (.bool true), Fq.is (.bool true), Fq.is (undef), Fq.is (undef), Fq.is (undef), Fq.is (undef), Fq.is (undef), Fq.is (undef), Fq.is (.bool true)]) (ks := [none, none]) (new := []) E rfl (by kernel_rfl) rfl rfl (fun hp => ⟨?_, ?_, ?_, ?_, ?_, ?_, ?_, ?_, ?_, ?_, trivial⟩) ?_
  · exact q_move hp (free_of rfl) trivial (sq_out rfl rfl (fun _ _ => rfl))
  · exact q_one (F := fun v _ => v = .bool false) hp (free_of rfl) trivial (sq_in 0 rfl rfl (by simp) rfl (fun v w h => h)) (fun ρ w _ h => ⟨.bool true, by simp [execOp, go_sem, h], rfl⟩)
  · exact q_move hp (free_of rfl) trivial (sq_in 1 rfl rfl (by simp) rfl (fun v w h => h))
  · exact q_skip hp (free_of rfl) rfl (gq_some rfl rfl (by simp) rfl (fun v w h => h)) (fun _ => rfl)
  · exact q_skip hp (free_of rfl) rfl (gq_some rfl rfl (by simp) rfl (fun v w h => h)) (fun _ => rfl)
  · exact q_skipU hp (free_of rfl) rfl rfl rfl (by simp) rfl (fun v w h => h) (fun _ => rfl)
  · exact q_skipU hp (free_of rfl) rfl rfl rfl (by simp) rfl (fun v w h => h) (fun _ => rfl)
  · exact q_skipU hp (free_of rfl) rfl rfl rfl (by simp) rfl (fun v w h => h) (fun _ => rfl)
  · exact q_skip hp (free_of rfl) rfl (gq_some rfl rfl (by simp) rfl (fun v w h => h)) (fun _ => rfl)
  · exact q_two (F := fun v _ => v = .bool true) (G := fun v _ => v = .bool true) hp (free_of rfl) trivial (sq_in 2 rfl rfl (by simp) rfl (fun v w h => h)) (sq_const (fun _ => rfl)) (fun ρ w hc h h' => ⟨_, by simp [execOp, go_sem, h, h'], rfl⟩)
  intro L vs w4 nb hL hC hn E4
  have e0 : vs 0 = .bool false := hC 0 (by simp)
  have e1 : vs 1 = .bool true := hC 1 (by simp)
  have e2 : vs 2 = .bool true := hC 2 (by simp)
  have e3 : vs 3 = undef := hC 3 (by simp)
  have e4 : vs 4 = undef := hC 4 (by simp)
  have e5 : vs 5 = undef := hC 5 (by simp)
  have e6 : vs 6 = undef := hC 6 (by simp)
  have e7 : vs 7 = undef := hC 7 (by simp)
  have e8 : vs 8 = undef := hC 8 (by simp)
  have e9 : vs 9 = .bool true := hC 9 (by simp)
  have E : Fr w [(b3_6, 4, Fq.pair 0 0), (b1, 4, Fq.pair 0 0)] w4 := E4
  rw [lay_all hL]
  simp only [putAll, dstOf, List.length_cons, List.length_nil, Nat.zero_add, Nat.reduceAdd, List.getElem?_toArray, List.getElem?_cons_zero, List.getElem?_cons_succ, Option.bind_some, Act.put, List.setIfInBounds_toArray, List.set_cons_succ, List.set_cons_zero]
  rw [e0, e1, e2, e3, e4, e5, e6, e7, e8, e9]
  clear e0 e1 e2 e3 e4 e5 e6 e7 e8 e9 hC hn E4 hL vs L nb
  go_upto_region 8 with (fail)
  refine region_fr (C := [Fq.pair 0 0, Fq.any, Fq.is (.int .i64 3)]) (ks := [none, some (1, Fq.pair 0 0)]) (new := []) E rfl (by kernel_rfl) rfl rfl (fun hp => ⟨?_, ?_, ?_, trivial⟩) ?_
  · exact q_zeroRat hp (free_of rfl) trivial (fun v w h => h)
  · exact q_storeOldRat hp (List.mem_iff_getElem?.2 ⟨1, rfl⟩) rfl rfl (sq_out rfl rfl (fun _ _ => rfl)) (sq_in 0 rfl rfl (by simp) rfl (fun v w h => ratV_pair h)) (fun _ _ => trivial) (newik_ne rfl)
  · exact q_assign hp (free_of rfl) trivial (sq_const (fun _ => rfl))
  intro L vs w5 nb hL hC hn E5
  have e2 : vs 2 = .int .i64 3 := hC 2 (by simp)
  have E : Fr w [(b3_6, 4, Fq.pair 0 0), (b1, 4, Fq.pair 0 0)] w5 := E5
  rw [lay_all hL]
  simp only [putAll, dstOf, List.length_cons, List.length_nil, Nat.zero_add, Nat.reduceAdd, List.getElem?_toArray, List.getElem?_cons_zero, List.getElem?_cons_succ, Option.bind_some, Act.put, List.setIfInBounds_toArray, List.set_cons_succ, List.set_cons_zero]
  rw [e2]
  generalize vs 0 = u5_0
  clear e2 hC hn E5 hL vs L nb
  obtain ⟨p0, p1, p2, p3, c0, c1, c2, c3, hP⟩ := box_pair (E.box 1 rfl)
  go_wp2
  refine bodyPost_ret (v := .tuple #[.agg #[p0, p1, p2, p3], .int .i64 3]) ?_ rfl ⟨_, rfl, E.below, ⟨_, _, rfl, hP, rfl⟩⟩
  simp [results, Try.results26, go_sem, c0, c1, c2, c3]

set_option maxRecDepth 100000 in
set_option maxHeartbeats 4000000 in
theorem qp_n (w : World) {s sn sd : ByteArray} {K : Nat} (hS : Slash (bys s) K) (hl : s.size ≤ 2601) (hK : K < s.size) (hn : Hid (sn = s.extract 0 K)) (hd : Hid (sd = s.extract (K + 1) s.size)) (e1 : Hid (paE (bys sn) = 0)) (e2 : Hid (paE (bys sd) = 0)) (hv : Hid (paV (bys sd) ≤ 0)) :
    Calls Try.prog 26 #[.string s] w fun e w' => ∃ v', e = .returned v' ∧ Below w.heap.size w w' ∧ (Fq.tup2 (Fq.pair 0 0) (Fq.is (.int .i64 3))).P v' w' := by
  obtain ⟨w1, b1, hw1, hb1, hs1, E⟩ := fr_start w (F := Fq.pair 0 0) (us := [.bool false, .slice none 0 0, .bool false, .slice none 0 0]) 31 rfl (by simp) (tame_rat _ _ _ _ _ _ _ _) (Pair.zero _)
  go_enter Try.func26, Try.ntmps26
  go_upto_region 1 with (fail)
  rw [← hw1]
  rw [← hb1]
  clear hw1 hb1 hs1
  have T1 := hidd (show ¬ (2601 : Int) < ((s.size : Nat) : Int) by omega)
  have HL := hidd hl
  have HK := hidd hK
  clear hl hK
  refine region_fr (C := [Fq.is (.string s), Fq.is (.int .i64 ((s.size : Nat) : Int)), Fq.is (.bool false)]) (ks := [none]) (new := []) E rfl (by kernel_rfl) rfl rfl (fun hp => ⟨?_, ?_, ?_, trivial⟩) ?_
  · exact q_move hp (free_of rfl) trivial (sq_out rfl rfl (fun _ _ => rfl))
  · exact q_lenS hp (free_of rfl) trivial (sq_in 0 rfl rfl (by simp) rfl (fun v w h => h)) (fun _ => rfl)
  · exact q_one (F := fun v _ => v = .int .i64 ((s.size : Nat) : Int)) hp (free_of rfl) trivial (sq_in 1 rfl rfl (by simp) rfl (fun v w h => h)) (fun ρ w hc h => ⟨.bool false, by simp [execOp, go_sem, h, hc, T1.out], rfl⟩)
  intro L vs w2 nb hL hC hn E2
  have e0 : vs 0 = .string s := hC 0 (by simp)
  have e1 : vs 1 = .int .i64 ((s.size : Nat) : Int) := hC 1 (by simp)
  have e2 : vs 2 = .bool false := hC 2 (by simp)
  have E : Fr w [(b1, 4, Fq.pair 0 0)] w2 := E2
  rw [lay_all hL]
  simp only [putAll, dstOf, List.length_cons, List.length_nil, Nat.zero_add, Nat.reduceAdd, List.getElem?_toArray, List.getElem?_cons_zero, List.getElem?_cons_succ, Option.bind_some, Act.put, List.setIfInBounds_toArray, List.set_cons_succ, List.set_cons_zero]
  rw [e0, e1, e2]
  clear e0 e1 e2 hC hn E2 hL vs L nb
  clear T1
  go_wp2_with fail
  refine (exCutSlash _ hS (by have := HL.out; omega) HK.out).mono ?_
  rintro e wq ⟨rfl, hb⟩
  replace E := E.mono hb
  clear hb hS HL HK
  rw [← hn.out, ← hd.out]
  clear hn hd
  go_upto_region 6 with (fail)
  refine region_fr (C := [Fq.is (.string sn), Fq.is (.string sd), Fq.tup2 (Fq.pair (paV (bys sn)) (paV (bys sd))) (Fq.is (.bool false)), Fq.tup2 (Fq.pair (paV (bys sn)) (paV (bys sd))) (Fq.is (.bool false)), Fq.pair (paV (bys sn)) (paV (bys sd)), Fq.is (.bool false), Fq.any, Fq.any, Fq.is (.bool false)]) (ks := [none]) (new := [⟨6, 7, 4, Fq.pair 0 0, Fq.pair (paV (bys sn)) (paV (bys sd)), none⟩]) E rfl (by kernel_rfl) rfl rfl (fun hp => ⟨?_, ?_, ?_, ?_, ?_, ?_, ?_, ?_, ?_, trivial⟩) ?_
  · exact q_move hp (free_of rfl) trivial (sq_out rfl rfl (fun _ _ => rfl))
  · exact q_move hp (free_of rfl) trivial (sq_out rfl rfl (fun _ _ => rfl))
  · exact q_call2 (F := (Fq.is (.string sn)).P) (G := (Fq.is (.string sd)).P) hp (free_of rfl) trivial (enq_Q_read) (sq_in 0 rfl rfl (by simp) rfl (fun v w h => h)) (sq_in 1 rfl rfl (by simp) rfl (fun v w h => h)) (fun v v' w h h' => (by subst h; subst h'; exact rd_n w e1 e2 hv))
  · exact q_move hp (free_of rfl) trivial (sq_in 2 rfl rfl (by simp) rfl (fun v w h => h))
  · exact q_extract2 hp (free_of rfl) trivial (sq_in 3 rfl rfl (by simp) rfl (fun v w h => h)) (fun v1 v2 w h1 h2 => ⟨_, rfl, h1⟩)
  · exact q_extract2 hp (free_of rfl) trivial (sq_in 3 rfl rfl (by simp) rfl (fun v w h => h)) (fun v1 v2 w h1 h2 => ⟨_, rfl, h2⟩)
  · exact q_allocRat hp (List.mem_iff_getElem?.2 ⟨0, rfl⟩) rfl rfl rfl rfl (Nat.ne_of_beq_eq_false rfl) (fun _ _ => trivial) (old_ne rfl) (newk_ne rfl) (fun w => Pair.zero w)
  · exact q_storeNewRat hp (List.mem_iff_getElem?.2 ⟨0, rfl⟩) rfl rfl rfl (own_ptr rfl rfl (by simp) rfl) (sq_in 4 rfl rfl (by simp) rfl (fun v w h => ratV_pair h)) (fun _ _ => trivial) (old_ne rfl) (newi_ne rfl)
  · exact q_assign hp (free_of rfl) trivial (sq_in 5 rfl rfl (by simp) rfl (fun v w h => h))
  intro L vs w3 nb hL hC hn E3
  have e0 : vs 0 = .string sn := hC 0 (by simp)
  have e1 : vs 1 = .string sd := hC 1 (by simp)
  have e5 : vs 5 = .bool false := hC 5 (by simp)
  have e8 : vs 8 = .bool false := hC 8 (by simp)
  have e6 : vs 6 = .pointer (some ⟨nb 6, 0, none⟩) := hn _ (List.mem_iff_getElem?.2 ⟨0, rfl⟩)
  have E : Fr w [(nb 6, 4, Fq.pair (paV (bys sn)) (paV (bys sd))), (b1, 4, Fq.pair 0 0)] w3 := E3
  rw [lay_all hL]
  simp only [putAll, dstOf, List.length_cons, List.length_nil, Nat.zero_add, Nat.reduceAdd, List.getElem?_toArray, List.getElem?_cons_zero, List.getElem?_cons_succ, Option.bind_some, Act.put, List.setIfInBounds_toArray, List.set_cons_succ, List.set_cons_zero]
  rw [e0, e1, e5, e8, e6]
  generalize nb 6 = b3_6 at E ⊢
  generalize vs 2 = u3_2
  generalize vs 3 = u3_3
  generalize vs 4 = u3_4
  clear e0 e1 e5 e8 e6 hC hn E3 hL vs L nb
  go_upto_region 7 with (fail)
  refine region_fr (C := [Fq.is (.bool false), Fq.is (.bool true), Fq.is (.bool true), Fq.is (undef), Fq.is (undef), Fq.is (undef), Fq.is (undef), Fq.is (undef), Fq.is (undef), Fq.is (.bool true)]) (ks := [none, none]) (new := []) E rfl (by kernel_rfl) rfl rfl (fun hp => ⟨?_, ?_, ?_, ?_, ?_, ?_, ?_, ?_, ?_, ?_, trivial⟩) ?_
  · exact q_move hp (free_of rfl) trivial (sq_out rfl rfl (fun _ _ => rfl))
  · exact q_one (F := fun v _ => v = .bool false) hp (free_of rfl) trivial (sq_in 0 rfl rfl (by simp) rfl (fun v w h => h)) (fun ρ w _ h => ⟨.bool true, by simp [execOp, go_sem, h], rfl⟩)
  · exact q_move hp (free_of rfl) trivial (sq_in 1 rfl rfl (by simp) rfl (fun v w h => h))
  · exact q_skip hp (free_of rfl) rfl (gq_some rfl rfl (by simp) rfl (fun v w h => h)) (fun _ => rfl)
  · exact q_skip hp (free_of rfl) rfl (gq_some rfl rfl (by simp) rfl (fun v w h => h)) (fun _ => rfl)
  · exact q_skipU hp (free_of rfl) rfl rfl rfl (by simp) rfl (fun v w h => h) (fun _ => rfl)
  · exact q_skipU hp (free_of rfl) rfl rfl rfl (by simp) rfl (fun v w h => h) (fun _ => rfl)
  · exact q_skipU hp (free_of rfl) rfl rfl rfl (by simp) rfl (fun v w h => h) (fun _ => rfl)
  · exact q_skip hp (free_of rfl) rfl (gq_some rfl rfl (by simp) rfl (fun v w h => h)) (fun _ => rfl)
  · exact q_two (F := fun v _ => v = .bool true) (G := fun v _ => v = .bool true) hp (free_of rfl) trivial (sq_in 2 rfl rfl (by simp) rfl (fun v w h => h)) (sq_const (fun _ => rfl)) (fun ρ w hc h h' => ⟨_, by simp [execOp, go_sem, h, h'], rfl⟩)
  intro L vs w4 nb hL hC hn E4
  have e0 : vs 0 = .bool false := hC 0 (by simp)
  have e1 : vs 1 = .bool true := hC 1 (by simp)
  have e2 : vs 2 = .bool true := hC 2 (by simp)
  have e3 : vs 3 = undef := hC 3 (by simp)
  have e4 : vs 4 = undef := hC 4 (by simp)
  have e5 : vs 5 = undef := hC 5 (by simp)
  have e6 : vs 6 = undef := hC 6 (by simp)
  have e7 : vs 7 = undef := hC 7 (by simp)
  have e8 : vs 8 = undef := hC 8 (by simp)
  have e9 : vs 9 = .bool true := hC 9 (by simp)
  have E : Fr w [(b3_6, 4, Fq.pair (paV (bys sn)) (paV (bys sd))), (b1, 4, Fq.pair 0 0)] w4 := E4
  rw [lay_all hL]
  simp only [putAll, dstOf, List.length_cons, List.length_nil, Nat.zero_add, Nat.reduceAdd, List.getElem?_toArray, List.getElem?_cons_zero, List.getElem?_cons_succ, Option.bind_some, Act.put, List.setIfInBounds_toArray, List.set_cons_succ, List.set_cons_zero]
  rw [e0, e1, e2, e3, e4, e5, e6, e7, e8, e9]
  clear e0 e1 e2 e3 e4 e5 e6 e7 e8 e9 hC hn E4 hL vs L nb
  go_upto_region 8 with (fail)
  refine region_fr (C := [Fq.pair 0 0, Fq.any, Fq.is (.int .i64 3)]) (ks := [none, some (1, Fq.pair 0 0)]) (new := []) E rfl (by kernel_rfl) rfl rfl (fun hp => ⟨?_, ?_, ?_, trivial⟩) ?_
  · exact q_zeroRat hp (free_of rfl) trivial (fun v w h => h)
  · exact q_storeOldRat hp (List.mem_iff_getElem?.2 ⟨1, rfl⟩) rfl rfl (sq_out rfl rfl (fun _ _ => rfl)) (sq_in 0 rfl rfl (by simp) rfl (fun v w h => ratV_pair h)) (fun _ _ => trivial) (newik_ne rfl)
  · exact q_assign hp (free_of rfl) trivial (sq_const (fun _ => rfl))
  intro L vs w5 nb hL hC hn E5
  have e2 : vs 2 = .int .i64 3 := hC 2 (by simp)
  have E : Fr w [(b3_6, 4, Fq.pair (paV (bys sn)) (paV (bys sd))), (b1, 4, Fq.pair 0 0)] w5 := E5
  rw [lay_all hL]
  simp only [putAll, dstOf, List.length_cons, List.length_nil, Nat.zero_add, Nat.reduceAdd, List.getElem?_toArray, List.getElem?_cons_zero, List.getElem?_cons_succ, Option.bind_some, Act.put, List.setIfInBounds_toArray, List.set_cons_succ, List.set_cons_zero]
  rw [e2]
  generalize vs 0 = u5_0
  clear e2 hC hn E5 hL vs L nb
  obtain ⟨p0, p1, p2, p3, c0, c1, c2, c3, hP⟩ := box_pair (E.box 1 rfl)
  go_wp2
  refine bodyPost_ret (v := .tuple #[.agg #[p0, p1, p2, p3], .int .i64 3]) ?_ rfl ⟨_, rfl, E.below, ⟨_, _, rfl, hP, rfl⟩⟩
  simp [results, Try.results26, go_sem, c0, c1, c2, c3]

set_option maxRecDepth 100000 in
set_option maxHeartbeats 4000000 in
theorem qp_g (w : World) {s sn sd : ByteArray} {K : Nat} (hS : Slash (bys s) K) (hl : s.size ≤ 2601) (hK : K < s.size) (hn : Hid (sn = s.extract 0 K)) (hd : Hid (sd = s.extract (K + 1) s.size)) (e1 : Hid (paE (bys sn) = 0)) (e2 : Hid (paE (bys sd) = 0)) (hv : Hid (0 < paV (bys sd) ∧ Int.gcd (paV (bys sn)) (paV (bys sd)) ≠ 1)) :
    Calls Try.prog 26 #[.string s] w fun e w' => ∃ v', e = .returned v' ∧ Below w.heap.size w w' ∧ (Fq.tup2 (Fq.pair 0 0) (Fq.is (.int .i64 3))).P v' w' := by
  obtain ⟨w1, b1, hw1, hb1, hs1, E⟩ := fr_start w (F := Fq.pair 0 0) (us := [.bool false, .slice none 0 0, .bool false, .slice none 0 0]) 31 rfl (by simp) (tame_rat _ _ _ _ _ _ _ _) (Pair.zero _)
  go_enter Try.func26, Try.ntmps26
  go_upto_region 1 with (fail)
  rw [← hw1]
  rw [← hb1]
  clear hw1 hb1 hs1
  have T1 := hidd (show ¬ (2601 : Int) < ((s.size : Nat) : Int) by omega)
  have HL := hidd hl
  have HK := hidd hK
  clear hl hK
  refine region_fr (C := [Fq.is (.string s), Fq.is (.int .i64 ((s.size : Nat) : Int)), Fq.is (.bool false)]) (ks := [none]) (new := []) E rfl (by kernel_rfl) rfl rfl (fun hp => ⟨?_, ?_, ?_, trivial⟩) ?_
  · exact q_move hp (free_of rfl) trivial (sq_out rfl rfl (fun _ _ => rfl))
  · exact q_lenS hp (free_of rfl) trivial (sq_in 0 rfl rfl (by simp) rfl (fun v w h => h)) (fun _ => rfl)
  · exact q_one (F := fun v _ => v = .int .i64 ((s.size : Nat) : Int)) hp (free_of rfl) trivial (sq_in 1 rfl rfl (by simp) rfl (fun v w h => h)) (fun ρ w hc h => ⟨.bool false, by simp [execOp, go_sem, h, hc, T1.out], rfl⟩)
  intro L vs w2 nb hL hC hn E2
  have e0 : vs 0 = .string s := hC 0 (by simp)
  have e1 : vs 1 = .int .i64 ((s.size : Nat) : Int) := hC 1 (by simp)
  have e2 : vs 2 = .bool false := hC 2 (by simp)
  have E : Fr w [(b1, 4, Fq.pair 0 0)] w2 := E2
  rw [lay_all hL]
  simp only [putAll, dstOf, List.length_cons, List.length_nil, Nat.zero_add, Nat.reduceAdd, List.getElem?_toArray, List.getElem?_cons_zero, List.getElem?_cons_succ, Option.bind_some, Act.put, List.setIfInBounds_toArray, List.set_cons_succ, List.set_cons_zero]
  rw [e0, e1, e2]
  clear e0 e1 e2 hC hn E2 hL vs L nb
  clear T1
  go_wp2_with fail
  refine (exCutSlash _ hS (by have := HL.out; omega) HK.out).mono ?_
  rintro e wq ⟨rfl, hb⟩
  replace E := E.mono hb
  clear hb hS HL HK
  rw [← hn.out, ← hd.out]
  clear hn hd
  go_upto_region 6 with (fail)
  refine region_fr (C := [Fq.is (.string sn), Fq.is (.string sd), Fq.tup2 (Fq.pair (paV (bys sn)) (paV (bys sd))) (Fq.is (.bool false)), Fq.tup2 (Fq.pair (paV (bys sn)) (paV (bys sd))) (Fq.is (.bool false)), Fq.pair (paV (bys sn)) (paV (bys sd)), Fq.is (.bool false), Fq.any, Fq.any, Fq.is (.bool false)]) (ks := [none]) (new := [⟨6, 7, 4, Fq.pair 0 0, Fq.pair (paV (bys sn)) (paV (bys sd)), none⟩]) E rfl (by kernel_rfl) rfl rfl (fun hp => ⟨?_, ?_, ?_, ?_, ?_, ?_, ?_, ?_, ?_, trivial⟩) ?_
  · exact q_move hp (free_of rfl) trivial (sq_out rfl rfl (fun _ _ => rfl))
  · exact q_move hp (free_of rfl) trivial (sq_out rfl rfl (fun _ _ => rfl))
  · exact q_call2 (F := (Fq.is (.string sn)).P) (G := (Fq.is (.string sd)).P) hp (free_of rfl) trivial (enq_Q_read) (sq_in 0 rfl rfl (by simp) rfl (fun v w h => h)) (sq_in 1 rfl rfl (by simp) rfl (fun v w h => h)) (fun v v' w h h' => (by subst h; subst h'; exact rd_g w e1 e2 hv))
  · exact q_move hp (free_of rfl) trivial (sq_in 2 rfl rfl (by simp) rfl (fun v w h => h))
  · exact q_extract2 hp (free_of rfl) trivial (sq_in 3 rfl rfl (by simp) rfl (fun v w h => h)) (fun v1 v2 w h1 h2 => ⟨_, rfl, h1⟩)
  · exact q_extract2 hp (free_of rfl) trivial (sq_in 3 rfl rfl (by simp) rfl (fun v w h => h)) (fun v1 v2 w h1 h2 => ⟨_, rfl, h2⟩)
  · exact q_allocRat hp (List.mem_iff_getElem?.2 ⟨0, rfl⟩) rfl rfl rfl rfl (Nat.ne_of_beq_eq_false rfl) (fun _ _ => trivial) (old_ne rfl) (newk_ne rfl) (fun w => Pair.zero w)
  · exact q_storeNewRat hp (List.mem_iff_getElem?.2 ⟨0, rfl⟩) rfl rfl rfl (own_ptr rfl rfl (by simp) rfl) (sq_in 4 rfl rfl (by simp) rfl (fun v w h => ratV_pair h)) (fun _ _ => trivial) (old_ne rfl) (newi_ne rfl)
  · exact q_assign hp (free_of rfl) trivial (sq_in 5 rfl rfl (by simp) rfl (fun v w h => h))
  intro L vs w3 nb hL hC hn E3
  have e0 : vs 0 = .string sn := hC 0 (by simp)
  have e1 : vs 1 = .string sd := hC 1 (by simp)
  have e5 : vs 5 = .bool false := hC 5 (by simp)
  have e8 : vs 8 = .bool false := hC 8 (by simp)
  have e6 : vs 6 = .pointer (some ⟨nb 6, 0, none⟩) := hn _ (List.mem_iff_getElem?.2 ⟨0, rfl⟩)
  have E : Fr w [(nb 6, 4, Fq.pair (paV (bys sn)) (paV (bys sd))), (b1, 4, Fq.pair 0 0)] w3 := E3
  rw [lay_all hL]
  simp only [putAll, dstOf, List.length_cons, List.length_nil, Nat.zero_add, Nat.reduceAdd, List.getElem?_toArray, List.getElem?_cons_zero, List.getElem?_cons_succ, Option.bind_some, Act.put, List.setIfInBounds_toArray, List.set_cons_succ, List.set_cons_zero]
  rw [e0, e1, e5, e8, e6]
  generalize nb 6 = b3_6 at E ⊢
  generalize vs 2 = u3_2
  generalize vs 3 = u3_3
  generalize vs 4 = u3_4
  clear e0 e1 e5 e8 e6 hC hn E3 hL vs L nb
  go_upto_region 7 with (fail)
  refine region_fr (C := [Fq.is (.bool false), Fq.is (.bool true), Fq.is (.bool true), Fq.is (undef), Fq.is (undef), Fq.is (undef), Fq.is (undef), Fq.is (undef), Fq.is (undef), Fq.is (.bool true)]) (ks := [none, none]) (new := []) E rfl (by kernel_rfl) rfl rfl (fun hp => ⟨?_, ?_, ?_, ?_, ?_, ?_, ?_, ?_, ?_, ?_, trivial⟩) ?_
  · exact q_move hp (free_of rfl) trivial (sq_out rfl rfl (fun _ _ => rfl))
  · exact q_one (F := fun v _ => v = .bool false) hp (free_of rfl) trivial (sq_in 0 rfl rfl (by simp) rfl (fun v w h => h)) (fun ρ w _ h => ⟨.bool true, by simp [execOp, go_sem, h], rfl⟩)
  · exact q_move hp (free_of rfl) trivial (sq_in 1 rfl rfl (by simp) rfl (fun v w h => h))
  · exact q_skip hp (free_of rfl) rfl (gq_some rfl rfl (by simp) rfl (fun v w h => h)) (fun _ => rfl)
  · exact q_skip hp (free_of rfl) rfl (gq_some rfl rfl (by simp) rfl (fun v w h => h)) (fun _ => rfl)
  · exact q_skipU hp (free_of rfl) rfl rfl rfl (by simp) rfl (fun v w h => h) (fun _ => rfl)
  · exact q_skipU hp (free_of rfl) rfl rfl rfl (by simp) rfl (fun v w h => h) (fun _ => rfl)
  · exact q_skipU hp (free_of rfl) rfl rfl rfl (by simp) rfl (fun v w h => h) (fun _ => rfl)
  · exact q_skip hp (free_of rfl) rfl (gq_some rfl rfl (by simp) rfl (fun v w h => h)) (fun _ => rfl)
  · exact q_two (F := fun v _ => v = .bool true) (G := fun v _ => v = .bool true) hp (free_of rfl) trivial (sq_in 2 rfl rfl (by simp) rfl (fun v w h => h)) (sq_const (fun _ => rfl)) (fun ρ w hc h h' => ⟨_, by simp [execOp, go_sem, h, h'], rfl⟩)
  intro L vs w4 nb hL hC hn E4
  have e0 : vs 0 = .bool false := hC 0 (by simp)
  have e1 : vs 1 = .bool true := hC 1 (by simp)
  have e2 : vs 2 = .bool true := hC 2 (by simp)
  have e3 : vs 3 = undef := hC 3 (by simp)
  have e4 : vs 4 = undef := hC 4 (by simp)
  have e5 : vs 5 = undef := hC 5 (by simp)
  have e6 : vs 6 = undef := hC 6 (by simp)
  have e7 : vs 7 = undef := hC 7 (by simp)
  have e8 : vs 8 = undef := hC 8 (by simp)
  have e9 : vs 9 = .bool true := hC 9 (by simp)
  have E : Fr w [(b3_6, 4, Fq.pair (paV (bys sn)) (paV (bys sd))), (b1, 4, Fq.pair 0 0)] w4 := E4
  rw [lay_all hL]
  simp only [putAll, dstOf, List.length_cons, List.length_nil, Nat.zero_add, Nat.reduceAdd, List.getElem?_toArray, List.getElem?_cons_zero, List.getElem?_cons_succ, Option.bind_some, Act.put, List.setIfInBounds_toArray, List.set_cons_succ, List.set_cons_zero]
  rw [e0, e1, e2, e3, e4, e5, e6, e7, e8, e9]
  clear e0 e1 e2 e3 e4 e5 e6 e7 e8 e9 hC hn E4 hL vs L nb
  go_upto_region 8 with (fail)
  refine region_fr (C := [Fq.pair 0 0, Fq.any, Fq.is (.int .i64 3)]) (ks := [none, some (1, Fq.pair 0 0)]) (new := []) E rfl (by kernel_rfl) rfl rfl (fun hp => ⟨?_, ?_, ?_, trivial⟩) ?_
  · exact q_zeroRat hp (free_of rfl) trivial (fun v w h => h)
  · exact q_storeOldRat hp (List.mem_iff_getElem?.2 ⟨1, rfl⟩) rfl rfl (sq_out rfl rfl (fun _ _ => rfl)) (sq_in 0 rfl rfl (by simp) rfl (fun v w h => ratV_pair h)) (fun _ _ => trivial) (newik_ne rfl)
  · exact q_assign hp (free_of rfl) trivial (sq_const (fun _ => rfl))
  intro L vs w5 nb hL hC hn E5
  have e2 : vs 2 = .int .i64 3 := hC 2 (by simp)
  have E : Fr w [(b3_6, 4, Fq.pair (paV (bys sn)) (paV (bys sd))), (b1, 4, Fq.pair 0 0)] w5 := E5
  rw [lay_all hL]
  simp only [putAll, dstOf, List.length_cons, List.length_nil, Nat.zero_add, Nat.reduceAdd, List.getElem?_toArray, List.getElem?_cons_zero, List.getElem?_cons_succ, Option.bind_some, Act.put, List.setIfInBounds_toArray, List.set_cons_succ, List.set_cons_zero]
  rw [e2]
  generalize vs 0 = u5_0
  clear e2 hC hn E5 hL vs L nb
  obtain ⟨p0, p1, p2, p3, c0, c1, c2, c3, hP⟩ := box_pair (E.box 1 rfl)
  go_wp2
  refine bodyPost_ret (v := .tuple #[.agg #[p0, p1, p2, p3], .int .i64 3]) ?_ rfl ⟨_, rfl, E.below, ⟨_, _, rfl, hP, rfl⟩⟩
  simp [results, Try.results26, go_sem, c0, c1, c2, c3]

set_option maxRecDepth 100000 in
set_option maxHeartbeats 4000000 in
theorem qp_1 (w : World) {s sn sd : ByteArray} {K : Nat} (hS : Slash (bys s) K) (hl : s.size ≤ 2601) (hK : K < s.size) (hn : Hid (sn = s.extract 0 K)) (hd : Hid (sd = s.extract (K + 1) s.size)) (e1 : Hid (paE (bys sn) = 0)) (e2 : Hid (paE (bys sd) = 0)) (hv : Hid (0 < paV (bys sd) ∧ Int.gcd (paV (bys sn)) (paV (bys sd)) = 1)) (h1 : Hid (paV (bys sd) = 1)) :
    Calls Try.prog 26 #[.string s] w fun e w' => ∃ v', e = .returned v' ∧ Below w.heap.size w w' ∧ (Fq.tup2 (Fq.pair 0 0) (Fq.is (.int .i64 3))).P v' w' := by
  obtain ⟨w1, b1, hw1, hb1, hs1, E⟩ := fr_start w (F := Fq.pair 0 0) (us := [.bool false, .slice none 0 0, .bool false, .slice none 0 0]) 31 rfl (by simp) (tame_rat _ _ _ _ _ _ _ _) (Pair.zero _)
  go_enter Try.func26, Try.ntmps26
  go_upto_region 1 with (fail)
  rw [← hw1]
  rw [← hb1]
  clear hw1 hb1 hs1
  have T1 := hidd (show ¬ (2601 : Int) < ((s.size : Nat) : Int) by omega)
  have HL := hidd hl
  have HK := hidd hK
  clear hl hK
  refine region_fr (C := [Fq.is (.string s), Fq.is (.int .i64 ((s.size : Nat) : Int)), Fq.is (.bool false)]) (ks := [none]) (new := []) E rfl (by kernel_rfl) rfl rfl (fun hp => ⟨?_, ?_, ?_, trivial⟩) ?_
  · exact q_move hp (free_of rfl) trivial (sq_out rfl rfl (fun _ _ => rfl))
  · exact q_lenS hp (free_of rfl) trivial (sq_in 0 rfl rfl (by simp) rfl (fun v w h => h)) (fun _ => rfl)
  · exact q_one (F := fun v _ => v = .int .i64 ((s.size : Nat) : Int)) hp (free_of rfl) trivial (sq_in 1 rfl rfl (by simp) rfl (fun v w h => h)) (fun ρ w hc h => ⟨.bool false, by simp [execOp, go_sem, h, hc, T1.out], rfl⟩)
  intro L vs w2 nb hL hC hn E2
  have e0 : vs 0 = .string s := hC 0 (by simp)
  have e1 : vs 1 = .int .i64 ((s.size : Nat) : Int) := hC 1 (by simp)
  have e2 : vs 2 = .bool false := hC 2 (by simp)
  have E : Fr w [(b1, 4, Fq.pair 0 0)] w2 := E2
  rw [lay_all hL]
  simp only [putAll, dstOf, List.length_cons, List.length_nil, Nat.zero_add, Nat.reduceAdd, List.getElem?_toArray, List.getElem?_cons_zero, List.getElem?_cons_succ, Option.bind_some, Act.put, List.setIfInBounds_toArray, List.set_cons_succ, List.set_cons_zero]
  rw [e0, e1, e2]
  clear e0 e1 e2 hC hn E2 hL vs L nb
  clear T1
  go_wp2_with fail
  refine (exCutSlash _ hS (by have := HL.out; omega) HK.out).mono ?_
  rintro e wq ⟨rfl, hb⟩
  replace E := E.mono hb
  clear hb hS HL HK
  rw [← hn.out, ← hd.out]
  clear hn hd
  go_upto_region 6 with (fail)
  refine region_fr (C := [Fq.is (.string sn), Fq.is (.string sd), Fq.tup2 (Fq.pair (paV (bys sn)) (paV (bys sd))) (Fq.is (.bool true)), Fq.tup2 (Fq.pair (paV (bys sn)) (paV (bys sd))) (Fq.is (.bool true)), Fq.pair (paV (bys sn)) (paV (bys sd)), Fq.is (.bool true), Fq.any, Fq.any, Fq.is (.bool true)]) (ks := [none]) (new := [⟨6, 7, 4, Fq.pair 0 0, Fq.pair (paV (bys sn)) (paV (bys sd)), none⟩]) E rfl (by kernel_rfl) rfl rfl (fun hp => ⟨?_, ?_, ?_, ?_, ?_, ?_, ?_, ?_, ?_, trivial⟩) ?_
  · exact q_move hp (free_of rfl) trivial (sq_out rfl rfl (fun _ _ => rfl))
  · exact q_move hp (free_of rfl) trivial (sq_out rfl rfl (fun _ _ => rfl))
  · exact q_call2 (F := (Fq.is (.string sn)).P) (G := (Fq.is (.string sd)).P) hp (free_of rfl) trivial (enq_Q_read) (sq_in 0 rfl rfl (by simp) rfl (fun v w h => h)) (sq_in 1 rfl rfl (by simp) rfl (fun v w h => h)) (fun v v' w h h' => (by subst h; subst h'; exact rd_ok w e1 e2 hv))
  · exact q_move hp (free_of rfl) trivial (sq_in 2 rfl rfl (by simp) rfl (fun v w h => h))
  · exact q_extract2 hp (free_of rfl) trivial (sq_in 3 rfl rfl (by simp) rfl (fun v w h => h)) (fun v1 v2 w h1 h2 => ⟨_, rfl, h1⟩)
  · exact q_extract2 hp (free_of rfl) trivial (sq_in 3 rfl rfl (by simp) rfl (fun v w h => h)) (fun v1 v2 w h1 h2 => ⟨_, rfl, h2⟩)
  · exact q_allocRat hp (List.mem_iff_getElem?.2 ⟨0, rfl⟩) rfl rfl rfl rfl (Nat.ne_of_beq_eq_false rfl) (fun _ _ => trivial) (old_ne rfl) (newk_ne rfl) (fun w => Pair.zero w)
  · exact q_storeNewRat hp (List.mem_iff_getElem?.2 ⟨0, rfl⟩) rfl rfl rfl (own_ptr rfl rfl (by simp) rfl) (sq_in 4 rfl rfl (by simp) rfl (fun v w h => ratV_pair h)) (fun _ _ => trivial) (old_ne rfl) (newi_ne rfl)
  · exact q_assign hp (free_of rfl) trivial (sq_in 5 rfl rfl (by simp) rfl (fun v w h => h))
  intro L vs w3 nb hL hC hn E3
  have e0 : vs 0 = .string sn := hC 0 (by simp)
  have e1 : vs 1 = .string sd := hC 1 (by simp)
  have e5 : vs 5 = .bool true := hC 5 (by simp)
  have e8 : vs 8 = .bool true := hC 8 (by simp)
  have e6 : vs 6 = .pointer (some ⟨nb 6, 0, none⟩) := hn _ (List.mem_iff_getElem?.2 ⟨0, rfl⟩)
  have E : Fr w [(nb 6, 4, Fq.pair (paV (bys sn)) (paV (bys sd))), (b1, 4, Fq.pair 0 0)] w3 := E3
  rw [lay_all hL]
  simp only [putAll, dstOf, List.length_cons, List.length_nil, Nat.zero_add, Nat.reduceAdd, List.getElem?_toArray, List.getElem?_cons_zero, List.getElem?_cons_succ, Option.bind_some, Act.put, List.setIfInBounds_toArray, List.set_cons_succ, List.set_cons_zero]
  rw [e0, e1, e5, e8, e6]
  generalize nb 6 = b3_6 at E ⊢
  generalize vs 2 = u3_2
  generalize vs 3 = u3_3
  generalize vs 4 = u3_4
  clear e0 e1 e5 e8 e6 hC hn E3 hL vs L nb
  go_upto_region 7 with (fail)
  refine region_fr (C := [Fq.is (.bool true), Fq.is (.bool false), Fq.is (.bool false), Fq.is (.bool true), Fq.is (.bool true), Fq.is (.pointer (some ⟨b3_6, 2, none⟩)), Fq.num (paV (bys sd)), Fq.is (.bool true), Fq.is (.bool true), Fq.is (.bool true)]) (ks := [none, none]) (new := []) E rfl (by kernel_rfl) rfl rfl (fun hp => ⟨?_, ?_, ?_, ?_, ?_, ?_, ?_, ?_, ?_, ?_, trivial⟩) ?_
  · exact q_move hp (free_of rfl) trivial (sq_out rfl rfl (fun _ _ => rfl))
  · exact q_one (F := fun v _ => v = .bool true) hp (free_of rfl) trivial (sq_in 0 rfl rfl (by simp) rfl (fun v w h => h)) (fun ρ w _ h => ⟨.bool false, by simp [execOp, go_sem, h], rfl⟩)
  · exact q_move hp (free_of rfl) trivial (sq_in 1 rfl rfl (by simp) rfl (fun v w h => h))
  · exact q_move hp (free_of rfl) (gq_some rfl rfl (by simp) rfl (fun v w h => h)) (sq_out rfl rfl (fun _ _ => rfl))
  · exact q_move hp (free_of rfl) (gq_some rfl rfl (by simp) rfl (fun v w h => h)) (sq_in 3 rfl rfl (by simp) rfl (fun v w h => h))
  · exact q_addr (b := b3_6) (off := 0) (off' := 2) hp (free_of rfl) (gq_some rfl rfl (by simp) rfl (fun v w h => h)) (sq_out rfl rfl (fun _ _ => rfl)) (fun ρ w h => by simp [execOp, go_sem, h]) (fun _ => rfl)
  · exact q_loadInt (off := 2) hp (free_of rfl) (gq_some rfl rfl (by simp) rfl (fun v w h => h)) (List.mem_iff_getElem?.2 ⟨0, rfl⟩) (.inl rfl) (Nat.le_of_ble_eq_true rfl) (sq_in 5 rfl rfl (by simp) rfl (fun v w h => h)) (fun us w hl h => ld_pd hl h)
  · exact q_call1 (F := (Fq.num (paV (bys sd))).P) hp (free_of rfl) (gq_some rfl rfl (by simp) rfl (fun v w h => h)) (enq_Q_isOne) (sq_in 6 rfl rfl (by simp) rfl (fun v w h => h)) (fun v w h => exIsOneB h (decide_eq_true h1.out))
  · exact q_two (F := fun v _ => v = .bool true) (G := fun v _ => v = .bool true) hp (free_of rfl) (gq_some rfl rfl (by simp) rfl (fun v w h => h)) (sq_in 4 rfl rfl (by simp) rfl (fun v w h => h)) (sq_in 7 rfl rfl (by simp) rfl (fun v w h => h)) (fun ρ w hc h h' => ⟨_, by simp [execOp, go_sem, h, h'], rfl⟩)
  · exact q_two (F := fun v _ => v = .bool false) (G := fun v _ => v = .bool true) hp (free_of rfl) trivial (sq_in 2 rfl rfl (by simp) rfl (fun v w h => h)) (sq_in 8 rfl rfl (by simp) rfl (fun v w h => h)) (fun ρ w hc h h' => ⟨_, by simp [execOp, go_sem, h, h'], rfl⟩)
  intro L vs w4 nb hL hC hn E4
  have e0 : vs 0 = .bool true := hC 0 (by simp)
  have e1 : vs 1 = .bool false := hC 1 (by simp)
  have e2 : vs 2 = .bool false := hC 2 (by simp)
  have e3 : vs 3 = .bool true := hC 3 (by simp)
  have e4 : vs 4 = .bool true := hC 4 (by simp)
  have e5 : vs 5 = .pointer (some ⟨b3_6, 2, none⟩) := hC 5 (by simp)
  have e7 : vs 7 = .bool true := hC 7 (by simp)
  have e8 : vs 8 = .bool true := hC 8 (by simp)
  have e9 : vs 9 = .bool true := hC 9 (by simp)
  have E : Fr w [(b3_6, 4, Fq.pair (paV (bys sn)) (paV (bys sd))), (b1, 4, Fq.pair 0 0)] w4 := E4
  rw [lay_all hL]
  simp only [putAll, dstOf, List.length_cons, List.length_nil, Nat.zero_add, Nat.reduceAdd, List.getElem?_toArray, List.getElem?_cons_zero, List.getElem?_cons_succ, Option.bind_some, Act.put, List.setIfInBounds_toArray, List.set_cons_succ, List.set_cons_zero]
  rw [e0, e1, e2, e3, e4, e5, e7, e8, e9]
  generalize vs 6 = u4_6
  clear e0 e1 e2 e3 e4 e5 e7 e8 e9 hC hn E4 hL vs L nb
  go_upto_region 8 with (fail)
  refine region_fr (C := [Fq.pair 0 0, Fq.any, Fq.is (.int .i64 3)]) (ks := [none, some (1, Fq.pair 0 0)]) (new := []) E rfl (by kernel_rfl) rfl rfl (fun hp => ⟨?_, ?_, ?_, trivial⟩) ?_
  · exact q_zeroRat hp (free_of rfl) trivial (fun v w h => h)
  · exact q_storeOldRat hp (List.mem_iff_getElem?.2 ⟨1, rfl⟩) rfl rfl (sq_out rfl rfl (fun _ _ => rfl)) (sq_in 0 rfl rfl (by simp) rfl (fun v w h => ratV_pair h)) (fun _ _ => trivial) (newik_ne rfl)
  · exact q_assign hp (free_of rfl) trivial (sq_const (fun _ => rfl))
  intro L vs w5 nb hL hC hn E5
  have e2 : vs 2 = .int .i64 3 := hC 2 (by simp)
  have E : Fr w [(b3_6, 4, Fq.pair (paV (bys sn)) (paV (bys sd))), (b1, 4, Fq.pair 0 0)] w5 := E5
  rw [lay_all hL]
  simp only [putAll, dstOf, List.length_cons, List.length_nil, Nat.zero_add, Nat.reduceAdd, List.getElem?_toArray, List.getElem?_cons_zero, List.getElem?_cons_succ, Option.bind_some, Act.put, List.setIfInBounds_toArray, List.set_cons_succ, List.set_cons_zero]
  rw [e2]
  generalize vs 0 = u5_0
  clear e2 hC hn E5 hL vs L nb
  obtain ⟨p0, p1, p2, p3, c0, c1, c2, c3, hP⟩ := box_pair (E.box 1 rfl)
  go_wp2
  refine bodyPost_ret (v := .tuple #[.agg #[p0, p1, p2, p3], .int .i64 3]) ?_ rfl ⟨_, rfl, E.below, ⟨_, _, rfl, hP, rfl⟩⟩
  simp [results, Try.results26, go_sem, c0, c1, c2, c3]

set_option maxRecDepth 100000 in
set_option maxHeartbeats 4000000 in
theorem qp_ok (w : World) {s sn sd : ByteArray} {K : Nat} (hS : Slash (bys s) K) (hl : s.size ≤ 2601) (hK : K < s.size) (hn : Hid (sn = s.extract 0 K)) (hd : Hid (sd = s.extract (K + 1) s.size)) (e1 : Hid (paE (bys sn) = 0)) (e2 : Hid (paE (bys sd) = 0)) (hv : Hid (0 < paV (bys sd) ∧ Int.gcd (paV (bys sn)) (paV (bys sd)) = 1)) (h1 : Hid (¬ paV (bys sd) = 1)) :
    Calls Try.prog 26 #[.string s] w fun e w' => ∃ v', e = .returned v' ∧ Below w.heap.size w w' ∧ (Fq.tup2 (Fq.pair (paV (bys sn)) (paV (bys sd))) (Fq.is (.int .i64 0))).P v' w' := by
  obtain ⟨w1, b1, hw1, hb1, hs1, E⟩ := fr_start w (F := Fq.pair 0 0) (us := [.bool false, .slice none 0 0, .bool false, .slice none 0 0]) 31 rfl (by simp) (tame_rat _ _ _ _ _ _ _ _) (Pair.zero _)
  go_enter Try.func26, Try.ntmps26
  go_upto_region 1 with (fail)
  rw [← hw1]
  rw [← hb1]
  clear hw1 hb1 hs1
  have T1 := hidd (show ¬ (2601 : Int) < ((s.size : Nat) : Int) by omega)
  have HL := hidd hl
  have HK := hidd hK
  clear hl hK
  refine region_fr (C := [Fq.is (.string s), Fq.is (.int .i64 ((s.size : Nat) : Int)), Fq.is (.bool false)]) (ks := [none]) (new := []) E rfl (by kernel_rfl) rfl rfl (fun hp => ⟨?_, ?_, ?_, trivial⟩) ?_
  · exact q_move hp (free_of rfl) trivial (sq_out rfl rfl (fun _ _ => rfl))
  · exact q_lenS hp (free_of rfl) trivial (sq_in 0 rfl rfl (by simp) rfl (fun v w h => h)) (fun _ => rfl)
  · exact q_one (F := fun v _ => v = .int .i64 ((s.size : Nat) : Int)) hp (free_of rfl) trivial (sq_in 1 rfl rfl (by simp) rfl (fun v w h => h)) (fun ρ w hc h => ⟨.bool false, by simp [execOp, go_sem, h, hc, T1.out], rfl⟩)
  intro L vs w2 nb hL hC hn E2
  have e0 : vs 0 = .string s := hC 0 (by simp)
  have e1 : vs 1 = .int .i64 ((s.size : Nat) : Int) := hC 1 (by simp)
  have e2 : vs 2 = .bool false := hC 2 (by simp)
  have E : Fr w [(b1, 4, Fq.pair 0 0)] w2 := E2
  rw [lay_all hL]
  simp only [putAll, dstOf, List.length_cons, List.length_nil, Nat.zero_add, Nat.reduceAdd, List.getElem?_toArray, List.getElem?_cons_zero, List.getElem?_cons_succ, Option.bind_some, Act.put, List.setIfInBounds_toArray, List.set_cons_succ, List.set_cons_zero]
  rw [e0, e1, e2]
  clear e0 e1 e2 hC hn E2 hL vs L nb
  clear T1
  go_wp2_with fail
  refine (exCutSlash _ hS (by have := HL.out; omega) HK.out).mono ?_
  rintro e wq ⟨rfl, hb⟩
  replace E := E.mono hb
  clear hb hS HL HK
  rw [← hn.out, ← hd.out]
  clear hn hd
  go_upto_region 6 with (fail)
  refine region_fr (C := [Fq.is (.string sn), Fq.is (.string sd), Fq.tup2 (Fq.pair (paV (bys sn)) (paV (bys sd))) (Fq.is (.bool true)), Fq.tup2 (Fq.pair (paV (bys sn)) (paV (bys sd))) (Fq.is (.bool true)), Fq.pair (paV (bys sn)) (paV (bys sd)), Fq.is (.bool true), Fq.any, Fq.any, Fq.is (.bool true)]) (ks := [none]) (new := [⟨6, 7, 4, Fq.pair 0 0, Fq.pair (paV (bys sn)) (paV (bys sd)), none⟩]) E rfl (by kernel_rfl) rfl rfl (fun hp => ⟨?_, ?_, ?_, ?_, ?_, ?_, ?_, ?_, ?_, trivial⟩) ?_
  · exact q_move hp (free_of rfl) trivial (sq_out rfl rfl (fun _ _ => rfl))
  · exact q_move hp (free_of rfl) trivial (sq_out rfl rfl (fun _ _ => rfl))
  · exact q_call2 (F := (Fq.is (.string sn)).P) (G := (Fq.is (.string sd)).P) hp (free_of rfl) trivial (enq_Q_read) (sq_in 0 rfl rfl (by simp) rfl (fun v w h => h)) (sq_in 1 rfl rfl (by simp) rfl (fun v w h => h)) (fun v v' w h h' => (by subst h; subst h'; exact rd_ok w e1 e2 hv))
  · exact q_move hp (free_of rfl) trivial (sq_in 2 rfl rfl (by simp) rfl (fun v w h => h))
  · exact q_extract2 hp (free_of rfl) trivial (sq_in 3 rfl rfl (by simp) rfl (fun v w h => h)) (fun v1 v2 w h1 h2 => ⟨_, rfl, h1⟩)
  · exact q_extract2 hp (free_of rfl) trivial (sq_in 3 rfl rfl (by simp) rfl (fun v w h => h)) (fun v1 v2 w h1 h2 => ⟨_, rfl, h2⟩)
  · exact q_allocRat hp (List.mem_iff_getElem?.2 ⟨0, rfl⟩) rfl rfl rfl rfl (Nat.ne_of_beq_eq_false rfl) (fun _ _ => trivial) (old_ne rfl) (newk_ne rfl) (fun w => Pair.zero w)
  · exact q_storeNewRat hp (List.mem_iff_getElem?.2 ⟨0, rfl⟩) rfl rfl rfl (own_ptr rfl rfl (by simp) rfl) (sq_in 4 rfl rfl (by simp) rfl (fun v w h => ratV_pair h)) (fun _ _ => trivial) (old_ne rfl) (newi_ne rfl)
  · exact q_assign hp (free_of rfl) trivial (sq_in 5 rfl rfl (by simp) rfl (fun v w h => h))
  intro L vs w3 nb hL hC hn E3
  have e0 : vs 0 = .string sn := hC 0 (by simp)
  have e1 : vs 1 = .string sd := hC 1 (by simp)
  have e5 : vs 5 = .bool true := hC 5 (by simp)
  have e8 : vs 8 = .bool true := hC 8 (by simp)
  have e6 : vs 6 = .pointer (some ⟨nb 6, 0, none⟩) := hn _ (List.mem_iff_getElem?.2 ⟨0, rfl⟩)
  have E : Fr w [(nb 6, 4, Fq.pair (paV (bys sn)) (paV (bys sd))), (b1, 4, Fq.pair 0 0)] w3 := E3
  rw [lay_all hL]
  simp only [putAll, dstOf, List.length_cons, List.length_nil, Nat.zero_add, Nat.reduceAdd, List.getElem?_toArray, List.getElem?_cons_zero, List.getElem?_cons_succ, Option.bind_some, Act.put, List.setIfInBounds_toArray, List.set_cons_succ, List.set_cons_zero]
  rw [e0, e1, e5, e8, e6]
  generalize nb 6 = b3_6 at E ⊢
  generalize vs 2 = u3_2
  generalize vs 3 = u3_3
  generalize vs 4 = u3_4
  clear e0 e1 e5 e8 e6 hC hn E3 hL vs L nb
  go_upto_region 7 with (fail)
  refine region_fr (C := [Fq.is (.bool true), Fq.is (.bool false), Fq.is (.bool false), Fq.is (.bool true), Fq.is (.bool true), Fq.is (.pointer (some ⟨b3_6, 2, none⟩)), Fq.num (paV (bys sd)), Fq.is (.bool false), Fq.is (.bool false), Fq.is (.bool false)]) (ks := [none, none]) (new := []) E rfl (by kernel_rfl) rfl rfl (fun hp => ⟨?_, ?_, ?_, ?_, ?_, ?_, ?_, ?_, ?_, ?_, trivial⟩) ?_
  · exact q_move hp (free_of rfl) trivial (sq_out rfl rfl (fun _ _ => rfl))
  · exact q_one (F := fun v _ => v = .bool true) hp (free_of rfl) trivial (sq_in 0 rfl rfl (by simp) rfl (fun v w h => h)) (fun ρ w _ h => ⟨.bool false, by simp [execOp, go_sem, h], rfl⟩)
  · exact q_move hp (free_of rfl) trivial (sq_in 1 rfl rfl (by simp) rfl (fun v w h => h))
  · exact q_move hp (free_of rfl) (gq_some rfl rfl (by simp) rfl (fun v w h => h)) (sq_out rfl rfl (fun _ _ => rfl))
  · exact q_move hp (free_of rfl) (gq_some rfl rfl (by simp) rfl (fun v w h => h)) (sq_in 3 rfl rfl (by simp) rfl (fun v w h => h))
  · exact q_addr (b := b3_6) (off := 0) (off' := 2) hp (free_of rfl) (gq_some rfl rfl (by simp) rfl (fun v w h => h)) (sq_out rfl rfl (fun _ _ => rfl)) (fun ρ w h => by simp [execOp, go_sem, h]) (fun _ => rfl)
  · exact q_loadInt (off := 2) hp (free_of rfl) (gq_some rfl rfl (by simp) rfl (fun v w h => h)) (List.mem_iff_getElem?.2 ⟨0, rfl⟩) (.inl rfl) (Nat.le_of_ble_eq_true rfl) (sq_in 5 rfl rfl (by simp) rfl (fun v w h => h)) (fun us w hl h => ld_pd hl h)
  · exact q_call1 (F := (Fq.num (paV (bys sd))).P) hp (free_of rfl) (gq_some rfl rfl (by simp) rfl (fun v w h => h)) (enq_Q_isOne) (sq_in 6 rfl rfl (by simp) rfl (fun v w h => h)) (fun v w h => exIsOneB h (decide_eq_false h1.out))
  · exact q_two (F := fun v _ => v = .bool true) (G := fun v _ => v = .bool false) hp (free_of rfl) (gq_some rfl rfl (by simp) rfl (fun v w h => h)) (sq_in 4 rfl rfl (by simp) rfl (fun v w h => h)) (sq_in 7 rfl rfl (by simp) rfl (fun v w h => h)) (fun ρ w hc h h' => ⟨_, by simp [execOp, go_sem, h, h'], rfl⟩)
  · exact q_two (F := fun v _ => v = .bool false) (G := fun v _ => v = .bool false) hp (free_of rfl) trivial (sq_in 2 rfl rfl (by simp) rfl (fun v w h => h)) (sq_in 8 rfl rfl (by simp) rfl (fun v w h => h)) (fun ρ w hc h h' => ⟨_, by simp [execOp, go_sem, h, h'], rfl⟩)
  intro L vs w4 nb hL hC hn E4
  have e0 : vs 0 = .bool true := hC 0 (by simp)
  have e1 : vs 1 = .bool false := hC 1 (by simp)
  have e2 : vs 2 = .bool false := hC 2 (by simp)
  have e3 : vs 3 = .bool true := hC 3 (by simp)
  have e4 : vs 4 = .bool true := hC 4 (by simp)
  have e5 : vs 5 = .pointer (some ⟨b3_6, 2, none⟩) := hC 5 (by simp)
  have e7 : vs 7 = .bool false := hC 7 (by simp)
  have e8 : vs 8 = .bool false := hC 8 (by simp)
  have e9 : vs 9 = .bool false := hC 9 (by simp)
  have E : Fr w [(b3_6, 4, Fq.pair (paV (bys sn)) (paV (bys sd))), (b1, 4, Fq.pair 0 0)] w4 := E4
  rw [lay_all hL]
  simp only [putAll, dstOf, List.length_cons, List.length_nil, Nat.zero_add, Nat.reduceAdd, List.getElem?_toArray, List.getElem?_cons_zero, List.getElem?_cons_succ, Option.bind_some, Act.put, List.setIfInBounds_toArray, List.set_cons_succ, List.set_cons_zero]
  rw [e0, e1, e2, e3, e4, e5, e7, e8, e9]
  generalize vs 6 = u4_6
  clear e0 e1 e2 e3 e4 e5 e7 e8 e9 hC hn E4 hL vs L nb
  go_upto_region 9 with (fail)
  refine region_fr (C := [Fq.pair (paV (bys sn)) (paV (bys sd)), Fq.any, Fq.is (.int .i64 0)]) (ks := [none, some (1, Fq.pair (paV (bys sn)) (paV (bys sd)))]) (new := []) E rfl (by kernel_rfl) rfl rfl (fun hp => ⟨?_, ?_, ?_, trivial⟩) ?_
  · exact q_loadRat hp (free_of rfl) trivial (List.mem_iff_getElem?.2 ⟨0, rfl⟩) (.inl rfl) rfl (sq_out rfl rfl (fun _ _ => rfl)) (fun us w hl h => h)
  · exact q_storeOldRat hp (List.mem_iff_getElem?.2 ⟨1, rfl⟩) rfl rfl (sq_out rfl rfl (fun _ _ => rfl)) (sq_in 0 rfl rfl (by simp) rfl (fun v w h => ratV_pair h)) (fun _ _ => trivial) (newik_ne rfl)
  · exact q_assign hp (free_of rfl) trivial (sq_const (fun _ => rfl))
  intro L vs w5 nb hL hC hn E5
  have e2 : vs 2 = .int .i64 0 := hC 2 (by simp)
  have E : Fr w [(b3_6, 4, Fq.pair (paV (bys sn)) (paV (bys sd))), (b1, 4, Fq.pair (paV (bys sn)) (paV (bys sd)))] w5 := E5
  rw [lay_all hL]
  simp only [putAll, dstOf, List.length_cons, List.length_nil, Nat.zero_add, Nat.reduceAdd, List.getElem?_toArray, List.getElem?_cons_zero, List.getElem?_cons_succ, Option.bind_some, Act.put, List.setIfInBounds_toArray, List.set_cons_succ, List.set_cons_zero]
  rw [e2]
  generalize vs 0 = u5_0
  clear e2 hC hn E5 hL vs L nb
  obtain ⟨p0, p1, p2, p3, c0, c1, c2, c3, hP⟩ := box_pair (E.box 1 rfl)
  go_wp2
  refine bodyPost_ret (v := .tuple #[.agg #[p0, p1, p2, p3], .int .i64 0]) ?_ rfl ⟨_, rfl, E.below, ⟨_, _, rfl, hP, rfl⟩⟩
  simp [results, Try.results26, go_sem, c0, c1, c2, c3]

set_option maxRecDepth 100000 in
set_option maxHeartbeats 4000000 in
theorem qp_na (w : World) {s : ByteArray} {K : Nat} (hS : Slash (bys s) K) (hl : s.size ≤ 2601) (hK : ¬ K < s.size) (e1 : Hid (¬ paE (bys s) = 0)) :
    Calls Try.prog 26 #[.string s] w fun e w' => ∃ v', e = .returned v' ∧ Below w.heap.size w w' ∧ (Fq.tup2 (Fq.pair 0 0) (Fq.is (.int .i64 3))).P v' w' := by
  obtain ⟨w1, b1, hw1, hb1, hs1, E⟩ := fr_start w (F := Fq.pair 0 0) (us := [.bool false, .slice none 0 0, .bool false, .slice none 0 0]) 31 rfl (by simp) (tame_rat _ _ _ _ _ _ _ _) (Pair.zero _)
  go_enter Try.func26, Try.ntmps26
  go_upto_region 1 with (fail)
  rw [← hw1]
  rw [← hb1]
  clear hw1 hb1 hs1
  have T1 := hidd (show ¬ (2601 : Int) < ((s.size : Nat) : Int) by omega)
  have HL := hidd hl
  have HK := hidd hK
  clear hl hK
  refine region_fr (C := [Fq.is (.string s), Fq.is (.int .i64 ((s.size : Nat) : Int)), Fq.is (.bool false)]) (ks := [none]) (new := []) E rfl (by kernel_rfl) rfl rfl (fun hp => ⟨?_, ?_, ?_, trivial⟩) ?_
  · exact q_move hp (free_of rfl) trivial (sq_out rfl rfl (fun _ _ => rfl))
  · exact q_lenS hp (free_of rfl) trivial (sq_in 0 rfl rfl (by simp) rfl (fun v w h => h)) (fun _ => rfl)
  · exact q_one (F := fun v _ => v = .int .i64 ((s.size : Nat) : Int)) hp (free_of rfl) trivial (sq_in 1 rfl rfl (by simp) rfl (fun v w h => h)) (fun ρ w hc h => ⟨.bool false, by simp [execOp, go_sem, h, hc, T1.out], rfl⟩)
  intro L vs w2 nb hL hC hn E2
  have e0 : vs 0 = .string s := hC 0 (by simp)
  have e1 : vs 1 = .int .i64 ((s.size : Nat) : Int) := hC 1 (by simp)
  have e2 : vs 2 = .bool false := hC 2 (by simp)
  have E : Fr w [(b1, 4, Fq.pair 0 0)] w2 := E2
  rw [lay_all hL]
  simp only [putAll, dstOf, List.length_cons, List.length_nil, Nat.zero_add, Nat.reduceAdd, List.getElem?_toArray, List.getElem?_cons_zero, List.getElem?_cons_succ, Option.bind_some, Act.put, List.setIfInBounds_toArray, List.set_cons_succ, List.set_cons_zero]
  rw [e0, e1, e2]
  clear e0 e1 e2 hC hn E2 hL vs L nb
  clear T1
  go_wp2_with fail
  refine (exCutNone _ hS HK.out).mono ?_
  rintro e wq ⟨rfl, hb⟩
  replace E := E.mono hb
  clear hb hS HL HK
  go_upto_region 6 with (fail)
  refine region_fr (C := [Fq.is (.string s), Fq.is (.string { data := #[49] }), Fq.tup2 (Fq.pair 0 0) (Fq.is (.bool false)), Fq.tup2 (Fq.pair 0 0) (Fq.is (.bool false)), Fq.pair 0 0, Fq.is (.bool false), Fq.any, Fq.any, Fq.is (.bool false)]) (ks := [none]) (new := [⟨6, 7, 4, Fq.pair 0 0, Fq.pair 0 0, none⟩]) E rfl (by kernel_rfl) rfl rfl (fun hp => ⟨?_, ?_, ?_, ?_, ?_, ?_, ?_, ?_, ?_, trivial⟩) ?_
  · exact q_move hp (free_of rfl) trivial (sq_out rfl rfl (fun _ _ => rfl))
  · exact q_move hp (free_of rfl) trivial (sq_out rfl rfl (fun _ _ => rfl))
  · exact q_call2 (F := (Fq.is (.string s)).P) (G := (Fq.is (.string { data := #[49] })).P) hp (free_of rfl) trivial (enq_Q_read) (sq_in 0 rfl rfl (by simp) rfl (fun v w h => h)) (sq_in 1 rfl rfl (by simp) rfl (fun v w h => h)) (fun v v' w h h' => (by subst h; subst h'; exact rd_a w e1))
  · exact q_move hp (free_of rfl) trivial (sq_in 2 rfl rfl (by simp) rfl (fun v w h => h))
  · exact q_extract2 hp (free_of rfl) trivial (sq_in 3 rfl rfl (by simp) rfl (fun v w h => h)) (fun v1 v2 w h1 h2 => ⟨_, rfl, h1⟩)
  · exact q_extract2 hp (free_of rfl) trivial (sq_in 3 rfl rfl (by simp) rfl (fun v w h => h)) (fun v1 v2 w h1 h2 => ⟨_, rfl, h2⟩)
  · exact q_allocRat hp (List.mem_iff_getElem?.2 ⟨0, rfl⟩) rfl rfl rfl rfl (Nat.ne_of_beq_eq_false rfl) (fun _ _ => trivial) (old_ne rfl) (newk_ne rfl) (fun w => Pair.zero w)
  · exact q_storeNewRat hp (List.mem_iff_getElem?.2 ⟨0, rfl⟩) rfl rfl rfl (own_ptr rfl rfl (by simp) rfl) (sq_in 4 rfl rfl (by simp) rfl (fun v w h => ratV_pair h)) (fun _ _ => trivial) (old_ne rfl) (newi_ne rfl)
  · exact q_assign hp (free_of rfl) trivial (sq_in 5 rfl rfl (by simp) rfl (fun v w h => h))
  intro L vs w3 nb hL hC hn E3
  have e0 : vs 0 = .string s := hC 0 (by simp)
  have e1 : vs 1 = .string { data := #[49] } := hC 1 (by simp)
  have e5 : vs 5 = .bool false := hC 5 (by simp)
  have e8 : vs 8 = .bool false := hC 8 (by simp)
  have e6 : vs 6 = .pointer (some ⟨nb 6, 0, none⟩) := hn _ (List.mem_iff_getElem?.2 ⟨0, rfl⟩)
  have E : Fr w [(nb 6, 4, Fq.pair 0 0), (b1, 4, Fq.pair 0 0)] w3 := E3
  rw [lay_all hL]
  simp only [putAll, dstOf, List.length_cons, List.length_nil, Nat.zero_add, Nat.reduceAdd, List.getElem?_toArray, List.getElem?_cons_zero, List.getElem?_cons_succ, Option.bind_some, Act.put, List.setIfInBounds_toArray, List.set_cons_succ, List.set_cons_zero]
  rw [e0, e1, e5, e8, e6]
  generalize nb 6 = b3_6 at E ⊢
  generalize vs 2 = u3_2
  generalize vs 3 = u3_3
  generalize vs 4 = u3_4
  clear e0 e1 e5 e8 e6 hC hn E3 hL vs L nb
  go_upto_region 7 with (fail)
  refine region_fr (C := [Fq.is (.bool false), Fq.is (.bool true), Fq.is (.bool true), Fq.is (undef), Fq.is (undef), Fq.is (undef), Fq.is (undef), Fq.is (undef), Fq.is (undef), Fq.is (.bool true)]) (ks := [none, none]) (new := []) E rfl (by kernel_rfl) rfl rfl (fun hp => ⟨?_, ?_, ?_, ?_, ?_, ?_, ?_, ?_, ?_, ?_, trivial⟩) ?_
  · exact q_move hp (free_of rfl) trivial (sq_out rfl rfl (fun _ _ => rfl))
  · exact q_one (F := fun v _ => v = .bool false) hp (free_of rfl) trivial (sq_in 0 rfl rfl (by simp) rfl (fun v w h => h)) (fun ρ w _ h => ⟨.bool true, by simp [execOp, go_sem, h], rfl⟩)
  · exact q_move hp (free_of rfl) trivial (sq_in 1 rfl rfl (by simp) rfl (fun v w h => h))
  · exact q_skip hp (free_of rfl) rfl (gq_some rfl rfl (by simp) rfl (fun v w h => h)) (fun _ => rfl)
  · exact q_skip hp (free_of rfl) rfl (gq_some rfl rfl (by simp) rfl (fun v w h => h)) (fun _ => rfl)
  · exact q_skipU hp (free_of rfl) rfl rfl rfl (by simp) rfl (fun v w h => h) (fun _ => rfl)
  · exact q_skipU hp (free_of rfl) rfl rfl rfl (by simp) rfl (fun v w h => h) (fun _ => rfl)
  · exact q_skipU hp (free_of rfl) rfl rfl rfl (by simp) rfl (fun v w h => h) (fun _ => rfl)
  · exact q_skip hp (free_of rfl) rfl (gq_some rfl rfl (by simp) rfl (fun v w h => h)) (fun _ => rfl)
  · exact q_two (F := fun v _ => v = .bool true) (G := fun v _ => v = .bool true) hp (free_of rfl) trivial (sq_in 2 rfl rfl (by simp) rfl (fun v w h => h)) (sq_const (fun _ => rfl)) (fun ρ w hc h h' => ⟨_, by simp [execOp, go_sem, h, h'], rfl⟩)
  intro L vs w4 nb hL hC hn E4
  have e0 : vs 0 = .bool false := hC 0 (by simp)
  have e1 : vs 1 = .bool true := hC 1 (by simp)
  have e2 : vs 2 = .bool true := hC 2 (by simp)
  have e3 : vs 3 = undef := hC 3 (by simp)
  have e4 : vs 4 = undef := hC 4 (by simp)
  have e5 : vs 5 = undef := hC 5 (by simp)
  have e6 : vs 6 = undef := hC 6 (by simp)
  have e7 : vs 7 = undef := hC 7 (by simp)
  have e8 : vs 8 = undef := hC 8 (by simp)
  have e9 : vs 9 = .bool true := hC 9 (by simp)
  have E : Fr w [(b3_6, 4, Fq.pair 0 0), (b1, 4, Fq.pair 0 0)] w4 := E4
  rw [lay_all hL]
  simp only [putAll, dstOf, List.length_cons, List.length_nil, Nat.zero_add, Nat.reduceAdd, List.getElem?_toArray, List.getElem?_cons_zero, List.getElem?_cons_succ, Option.bind_some, Act.put, List.setIfInBounds_toArray, List.set_cons_succ, List.set_cons_zero]
  rw [e0, e1, e2, e3, e4, e5, e6, e7, e8, e9]
  clear e0 e1 e2 e3 e4 e5 e6 e7 e8 e9 hC hn E4 hL vs L nb
  go_upto_region 8 with (fail)
  refine region_fr (C := [Fq.pair 0 0, Fq.any, Fq.is (.int .i64 3)]) (ks := [none, some (1, Fq.pair 0 0)]) (new := []) E rfl (by kernel_rfl) rfl rfl (fun hp => ⟨?_, ?_, ?_, trivial⟩) ?_
  · exact q_zeroRat hp (free_of rfl) trivial (fun v w h => h)
  · exact q_storeOldRat hp (List.mem_iff_getElem?.2 ⟨1, rfl⟩) rfl rfl (sq_out rfl rfl (fun _ _ => rfl)) (sq_in 0 rfl rfl (by simp) rfl (fun v w h => ratV_pair h)) (fun _ _ => trivial) (newik_ne rfl)
  · exact q_assign hp (free_of rfl) trivial (sq_const (fun _ => rfl))
  intro L vs w5 nb hL hC hn E5
  have e2 : vs 2 = .int .i64 3 := hC 2 (by simp)
  have E : Fr w [(b3_6, 4, Fq.pair 0 0), (b1, 4, Fq.pair 0 0)] w5 := E5
  rw [lay_all hL]
  simp only [putAll, dstOf, List.length_cons, List.length_nil, Nat.zero_add, Nat.reduceAdd, List.getElem?_toArray, List.getElem?_cons_zero, List.getElem?_cons_succ, Option.bind_some, Act.put, List.setIfInBounds_toArray, List.set_cons_succ, List.set_cons_zero]
  rw [e2]
  generalize vs 0 = u5_0
  clear e2 hC hn E5 hL vs L nb
  obtain ⟨p0, p1, p2, p3, c0, c1, c2, c3, hP⟩ := box_pair (E.box 1 rfl)
  go_wp2
  refine bodyPost_ret (v := .tuple #[.agg #[p0, p1, p2, p3], .int .i64 3]) ?_ rfl ⟨_, rfl, E.below, ⟨_, _, rfl, hP, rfl⟩⟩
  simp [results, Try.results26, go_sem, c0, c1, c2, c3]

set_option maxRecDepth 100000 in
set_option maxHeartbeats 4000000 in
theorem qp_nok (w : World) {s : ByteArray} {K : Nat} (hS : Slash (bys s) K) (hl : s.size ≤ 2601) (hK : ¬ K < s.size) (e1 : Hid (paE (bys s) = 0)) (e2 : Hid (paE (bys { data := #[49] }) = 0)) (hv : Hid (0 < paV (bys { data := #[49] }) ∧ Int.gcd (paV (bys s)) (paV (bys { data := #[49] })) = 1)) :
    Calls Try.prog 26 #[.string s] w fun e w' => ∃ v', e = .returned v' ∧ Below w.heap.size w w' ∧ (Fq.tup2 (Fq.pair (paV (bys s)) (paV (bys { data := #[49] }))) (Fq.is (.int .i64 0))).P v' w' := by
  obtain ⟨w1, b1, hw1, hb1, hs1, E⟩ := fr_start w (F := Fq.pair 0 0) (us := [.bool false, .slice none 0 0, .bool false, .slice none 0 0]) 31 rfl (by simp) (tame_rat _ _ _ _ _ _ _ _) (Pair.zero _)
  go_enter Try.func26, Try.ntmps26
  go_upto_region 1 with (fail)
  rw [← hw1]
  rw [← hb1]
  clear hw1 hb1 hs1
  have T1 := hidd (show ¬ (2601 : Int) < ((s.size : Nat) : Int) by omega)
  have HL := hidd hl
  have HK := hidd hK
  clear hl hK
  refine region_fr (C := [Fq.is (.string s), Fq.is (.int .i64 ((s.size : Nat) : Int)), Fq.is (.bool false)]) (ks := [none]) (new := []) E rfl (by kernel_rfl) rfl rfl (fun hp => ⟨?_, ?_, ?_, trivial⟩) ?_
  · exact q_move hp (free_of rfl) trivial (sq_out rfl rfl (fun _ _ => rfl))
  · exact q_lenS hp (free_of rfl) trivial (sq_in 0 rfl rfl (by simp) rfl (fun v w h => h)) (fun _ => rfl)
  · exact q_one (F := fun v _ => v = .int .i64 ((s.size : Nat) : Int)) hp (free_of rfl) trivial (sq_in 1 rfl rfl (by simp) rfl (fun v w h => h)) (fun ρ w hc h => ⟨.bool false, by simp [execOp, go_sem, h, hc, T1.out], rfl⟩)
  intro L vs w2 nb hL hC hn E2
  have e0 : vs 0 = .string s := hC 0 (by simp)
  have e1 : vs 1 = .int .i64 ((s.size : Nat) : Int) := hC 1 (by simp)
  have e2 : vs 2 = .bool false := hC 2 (by simp)
  have E : Fr w [(b1, 4, Fq.pair 0 0)] w2 := E2
  rw [lay_all hL]
  simp only [putAll, dstOf, List.length_cons, List.length_nil, Nat.zero_add, Nat.reduceAdd, List.getElem?_toArray, List.getElem?_cons_zero, List.getElem?_cons_succ, Option.bind_some, Act.put, List.setIfInBounds_toArray, List.set_cons_succ, List.set_cons_zero]
  rw [e0, e1, e2]
  clear e0 e1 e2 hC hn E2 hL vs L nb
  clear T1
  go_wp2_with fail
  refine (exCutNone _ hS HK.out).mono ?_
  rintro e wq ⟨rfl, hb⟩
  replace E := E.mono hb
  clear hb hS HL HK
  go_upto_region 6 with (fail)
  refine region_fr (C := [Fq.is (.string s), Fq.is (.string { data := #[49] }), Fq.tup2 (Fq.pair (paV (bys s)) (paV (bys { data := #[49] }))) (Fq.is (.bool true)), Fq.tup2 (Fq.pair (paV (bys s)) (paV (bys { data := #[49] }))) (Fq.is (.bool true)), Fq.pair (paV (bys s)) (paV (bys { data := #[49] })), Fq.is (.bool true), Fq.any, Fq.any, Fq.is (.bool true)]) (ks := [none]) (new := [⟨6, 7, 4, Fq.pair 0 0, Fq.pair (paV (bys s)) (paV (bys { data := #[49] })), none⟩]) E rfl (by kernel_rfl) rfl rfl (fun hp => ⟨?_, ?_, ?_, ?_, ?_, ?_, ?_, ?_, ?_, trivial⟩) ?_
  · exact q_move hp (free_of rfl) trivial (sq_out rfl rfl (fun _ _ => rfl))
  · exact q_move hp (free_of rfl) trivial (sq_out rfl rfl (fun _ _ => rfl))
  · exact q_call2 (F := (Fq.is (.string s)).P) (G := (Fq.is (.string { data := #[49] })).P) hp (free_of rfl) trivial (enq_Q_read) (sq_in 0 rfl rfl (by simp) rfl (fun v w h => h)) (sq_in 1 rfl rfl (by simp) rfl (fun v w h => h)) (fun v v' w h h' => (by subst h; subst h'; exact rd_ok w e1 e2 hv))
  · exact q_move hp (free_of rfl) trivial (sq_in 2 rfl rfl (by simp) rfl (fun v w h => h))
  · exact q_extract2 hp (free_of rfl) trivial (sq_in 3 rfl rfl (by simp) rfl (fun v w h => h)) (fun v1 v2 w h1 h2 => ⟨_, rfl, h1⟩)
  · exact q_extract2 hp (free_of rfl) trivial (sq_in 3 rfl rfl (by simp) rfl (fun v w h => h)) (fun v1 v2 w h1 h2 => ⟨_, rfl, h2⟩)
  · exact q_allocRat hp (List.mem_iff_getElem?.2 ⟨0, rfl⟩) rfl rfl rfl rfl (Nat.ne_of_beq_eq_false rfl) (fun _ _ => trivial) (old_ne rfl) (newk_ne rfl) (fun w => Pair.zero w)
  · exact q_storeNewRat hp (List.mem_iff_getElem?.2 ⟨0, rfl⟩) rfl rfl rfl (own_ptr rfl rfl (by simp) rfl) (sq_in 4 rfl rfl (by simp) rfl (fun v w h => ratV_pair h)) (fun _ _ => trivial) (old_ne rfl) (newi_ne rfl)
  · exact q_assign hp (free_of rfl) trivial (sq_in 5 rfl rfl (by simp) rfl (fun v w h => h))
  intro L vs w3 nb hL hC hn E3
  have e0 : vs 0 = .string s := hC 0 (by simp)
  have e1 : vs 1 = .string { data := #[49] } := hC 1 (by simp)
  have e5 : vs 5 = .bool true := hC 5 (by simp)
  have e8 : vs 8 = .bool true := hC 8 (by simp)
  have e6 : vs 6 = .pointer (some ⟨nb 6, 0, none⟩) := hn _ (List.mem_iff_getElem?.2 ⟨0, rfl⟩)
  have E : Fr w [(nb 6, 4, Fq.pair (paV (bys s)) (paV (bys { data := #[49] }))), (b1, 4, Fq.pair 0 0)] w3 := E3
  rw [lay_all hL]
  simp only [putAll, dstOf, List.length_cons, List.length_nil, Nat.zero_add, Nat.reduceAdd, List.getElem?_toArray, List.getElem?_cons_zero, List.getElem?_cons_succ, Option.bind_some, Act.put, List.setIfInBounds_toArray, List.set_cons_succ, List.set_cons_zero]
  rw [e0, e1, e5, e8, e6]
  generalize nb 6 = b3_6 at E ⊢
  generalize vs 2 = u3_2
  generalize vs 3 = u3_3
  generalize vs 4 = u3_4
  clear e0 e1 e5 e8 e6 hC hn E3 hL vs L nb
  go_upto_region 7 with (fail)
  refine region_fr (C := [Fq.is (.bool true), Fq.is (.bool false), Fq.is (.bool false), Fq.is (.bool false), Fq.is (.bool false), Fq.is (undef), Fq.is (undef), Fq.is (undef), Fq.is (.bool false), Fq.is (.bool false)]) (ks := [none, none]) (new := []) E rfl (by kernel_rfl) rfl rfl (fun hp => ⟨?_, ?_, ?_, ?_, ?_, ?_, ?_, ?_, ?_, ?_, trivial⟩) ?_
  · exact q_move hp (free_of rfl) trivial (sq_out rfl rfl (fun _ _ => rfl))
  · exact q_one (F := fun v _ => v = .bool true) hp (free_of rfl) trivial (sq_in 0 rfl rfl (by simp) rfl (fun v w h => h)) (fun ρ w _ h => ⟨.bool false, by simp [execOp, go_sem, h], rfl⟩)
  · exact q_move hp (free_of rfl) trivial (sq_in 1 rfl rfl (by simp) rfl (fun v w h => h))
  · exact q_move hp (free_of rfl) (gq_some rfl rfl (by simp) rfl (fun v w h => h)) (sq_out rfl rfl (fun _ _ => rfl))
  · exact q_move hp (free_of rfl) (gq_some rfl rfl (by simp) rfl (fun v w h => h)) (sq_in 3 rfl rfl (by simp) rfl (fun v w h => h))
  · exact q_skip hp (free_of rfl) rfl (gq_some rfl rfl (by simp) rfl (fun v w h => h)) (fun _ => rfl)
  · exact q_skip hp (free_of rfl) rfl (gq_some rfl rfl (by simp) rfl (fun v w h => h)) (fun _ => rfl)
  · exact q_skip hp (free_of rfl) rfl (gq_some rfl rfl (by simp) rfl (fun v w h => h)) (fun _ => rfl)
  · exact q_two (F := fun v _ => v = .bool false) (G := fun v _ => v = .bool false) hp (free_of rfl) (gq_some rfl rfl (by simp) rfl (fun v w h => h)) (sq_in 4 rfl rfl (by simp) rfl (fun v w h => h)) (sq_const (fun _ => rfl)) (fun ρ w hc h h' => ⟨_, by simp [execOp, go_sem, h, h'], rfl⟩)
  · exact q_two (F := fun v _ => v = .bool false) (G := fun v _ => v = .bool false) hp (free_of rfl) trivial (sq_in 2 rfl rfl (by simp) rfl (fun v w h => h)) (sq_in 8 rfl rfl (by simp) rfl (fun v w h => h)) (fun ρ w hc h h' => ⟨_, by simp [execOp, go_sem, h, h'], rfl⟩)
  intro L vs w4 nb hL hC hn E4
  have e0 : vs 0 = .bool true := hC 0 (by simp)
  have e1 : vs 1 = .bool false := hC 1 (by simp)
  have e2 : vs 2 = .bool false := hC 2 (by simp)
  have e3 : vs 3 = .bool false := hC 3 (by simp)
  have e4 : vs 4 = .bool false := hC 4 (by simp)
  have e5 : vs 5 = undef := hC 5 (by simp)
  have e6 : vs 6 = undef := hC 6 (by simp)
  have e7 : vs 7 = undef := hC 7 (by simp)
  have e8 : vs 8 = .bool false := hC 8 (by simp)
  have e9 : vs 9 = .bool false := hC 9 (by simp)
  have E : Fr w [(b3_6, 4, Fq.pair (paV (bys s)) (paV (bys { data := #[49] }))), (b1, 4, Fq.pair 0 0)] w4 := E4
  rw [lay_all hL]
  simp only [putAll, dstOf, List.length_cons, List.length_nil, Nat.zero_add, Nat.reduceAdd, List.getElem?_toArray, List.getElem?_cons_zero, List.getElem?_cons_succ, Option.bind_some, Act.put, List.setIfInBounds_toArray, List.set_cons_succ, List.set_cons_zero]
  rw [e0, e1, e2, e3, e4, e5, e6, e7, e8, e9]
  clear e0 e1 e2 e3 e4 e5 e6 e7 e8 e9 hC hn E4 hL vs L nb
  go_upto_region 9 with (fail)
  refine region_fr (C := [Fq.pair (paV (bys s)) (paV (bys { data := #[49] })), Fq.any, Fq.is (.int .i64 0)]) (ks := [none, some (1, Fq.pair (paV (bys s)) (paV (bys { data := #[49] })))]) (new := []) E rfl (by kernel_rfl) rfl rfl (fun hp => ⟨?_, ?_, ?_, trivial⟩) ?_
  · exact q_loadRat hp (free_of rfl) trivial (List.mem_iff_getElem?.2 ⟨0, rfl⟩) (.inl rfl) rfl (sq_out rfl rfl (fun _ _ => rfl)) (fun us w hl h => h)
  · exact q_storeOldRat hp (List.mem_iff_getElem?.2 ⟨1, rfl⟩) rfl rfl (sq_out rfl rfl (fun _ _ => rfl)) (sq_in 0 rfl rfl (by simp) rfl (fun v w h => ratV_pair h)) (fun _ _ => trivial) (newik_ne rfl)
  · exact q_assign hp (free_of rfl) trivial (sq_const (fun _ => rfl))
  intro L vs w5 nb hL hC hn E5
  have e2 : vs 2 = .int .i64 0 := hC 2 (by simp)
  have E : Fr w [(b3_6, 4, Fq.pair (paV (bys s)) (paV (bys { data := #[49] }))), (b1, 4, Fq.pair (paV (bys s)) (paV (bys { data := #[49] })))] w5 := E5
  rw [lay_all hL]
  simp only [putAll, dstOf, List.length_cons, List.length_nil, Nat.zero_add, Nat.reduceAdd, List.getElem?_toArray, List.getElem?_cons_zero, List.getElem?_cons_succ, Option.bind_some, Act.put, List.setIfInBounds_toArray, List.set_cons_succ, List.set_cons_zero]
  rw [e2]
  generalize vs 0 = u5_0
  clear e2 hC hn E5 hL vs L nb
  obtain ⟨p0, p1, p2, p3, c0, c1, c2, c3, hP⟩ := box_pair (E.box 1 rfl)
  go_wp2
  refine bodyPost_ret (v := .tuple #[.agg #[p0, p1, p2, p3], .int .i64 0]) ?_ rfl ⟨_, rfl, E.below, ⟨_, _, rfl, hP, rfl⟩⟩
  simp [results, Try.results26, go_sem, c0, c1, c2, c3]

end Go.Proofs.Ytlehjhlihahjhaa
