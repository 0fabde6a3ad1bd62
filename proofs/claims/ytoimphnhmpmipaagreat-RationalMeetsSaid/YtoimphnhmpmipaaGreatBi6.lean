/- Vg, Vh. -/
import Derived.Test.YtoimphnhmpmipaaGreatBi5
/- Walks: intervals, in the code and in the reference. -/
namespace Go.Proofs.YtoimphnhmpmipaaGreat
open Go Go.RowKit

theorem Ivl.mono {w w' : World} {v : Value} {n1 d1 n2 d2 : Int} (h : Ivl w v n1 d1 n2 d2) (hb : Below w.heap.size w w') : Ivl w' v n1 d1 n2 d2 := (Fq.ivl n1 d1 n2 d2).mono h hb
theorem nilR {k : Nat} : ∀ q ∈ ([] : List Rat), Rb q k := fun _ h => by simp at h
theorem allR {x : Rat} {l : List Rat} {k : Nat} (h : Rb x k) (hl : ∀ q ∈ l, Rb q k) : ∀ q ∈ x :: l, Rb q k := fun q hq => by
  rcases List.mem_cons.1 hq with rfl | hq
  · exact h
  · exact hl q hq
theorem cmpQ_leN {a b : Rat} : cmpQ a b ≤ 0 ↔ a ≤ b := by
  constructor
  · intro h
    refine Rat.not_lt.1 fun h2 => ?_
    have := cmpQ_gt.2 h2
    omega
  · intro h
    rcases Int.lt_or_le 0 (cmpQ a b) with h2 | h2
    · exact absurd (cmpQ_gt.1 h2) (Rat.not_lt.2 h)
    · exact h2
theorem exSSameN {w : World} {v v' : Value} {a b : Rat} (h : Pair w v a.num a.den) (h' : Pair w v' b.num b.den) {t : Bool} (ht : decide (a = b) = t) : Calls Tryz.prog 13 #[v, v'] w fun e w' => ∃ v', e = .returned v' ∧ Below w.heap.size w w' ∧ v' = .bool t := by
  refine (exSSame h h').mono fun e w' ⟨v1, he, hb, hv⟩ => ⟨v1, he, hb, ?_⟩
  rw [hv, ← ht]
  congr 1
  by_cases hq : a = b
  · rw [decide_eq_true hq, decide_eq_true ⟨congrArg Rat.num hq, by rw [hq]⟩]
  · rw [decide_eq_false hq, decide_eq_false]
    rintro ⟨h1, h2⟩
    exact hq (Rat.ext h1 (by omega))

set_option maxRecDepth 100000 in
set_option maxHeartbeats 4000000 in
theorem exSSpan {w : World} {v v' : Value} {a b : Rat} (h : Pair w v a.num a.den) (h' : Pair w v' b.num b.den) (ha : Rb a 300) (hb : Rb b 300) :
    Calls Tryz.prog 27 #[v, v'] w fun e w' => ∃ v', e = .returned v' ∧ Below w.heap.size w w' ∧ Ivl w' v' (leastQ a [b]).num ((leastQ a [b]).den : Int) (greatQ a [b]).num ((greatQ a [b]).den : Int) := by
  replace ha := hidd ha
  replace hb := hidd hb
  obtain ⟨n0, ao0, k0, c0, n0', ao0', k0', c0', rfl, _⟩ := ratV_pair h
  obtain ⟨n1, ao1, k1, c1, n1', ao1', k1', c1', rfl, _⟩ := ratV_pair h'
  obtain ⟨w1, b1, hw1, hb1, hs1, E⟩ := fr_start w (F := Fq.pair a.num (a.den : Int)) (us := [.bool n0, .slice ao0 k0 c0, .bool n0', .slice ao0' k0' c0']) 31 rfl (by simp) (tame_rat _ _ _ _ _ _ _ _) h
  obtain ⟨w2, b2, hw2, hb2, hs2, E⟩ := fr_more E hs1 (F := Fq.pair b.num (b.den : Int)) (us := [.bool n1, .slice ao1 k1 c1, .bool n1', .slice ao1' k1' c1']) 31 rfl (by simp) (tame_rat _ _ _ _ _ _ _ _) (h'.mono E.below)
  obtain ⟨w3, b3, hw3, hb3, hs3, E⟩ := fr_more E hs2 (F := Fq.ivl 0 0 0 0) (us := [.bool false, .slice none 0 0, .bool false, .slice none 0 0, .bool false, .slice none 0 0, .bool false, .slice none 0 0]) 47 rfl (by simp) (tame_ivl _ _ _ _ _ _ _ _ _ _ _ _ _ _ _ _) (Ivl.zero _)
  go_enter Tryz.func27, Tryz.ntmps27
  go_upto_region 1 with (fail)
  rw [← hw1]
  rw [← hw2]
  rw [← hw3]
  rw [← hb3]
  rw [← hb2]
  rw [← hb1]
  clear hw1 hw2 hw3 hb1 hb2 hb3 hs3 hs1 hs2
  refine region_frS (same := [(3, 2)]) (C := [Fq.pair a.num (a.den : Int), Fq.pair b.num (b.den : Int), Fq.any, Fq.any]) (ks := [none, none, none]) (new := [⟨2, 2, 8, Fq.rats [(a.num, (a.den : Int)), (b.num, (b.den : Int))], Fq.rats [(a.num, (a.den : Int)), (b.num, (b.den : Int))], (some 2)⟩]) E rfl (by kernel_rfl) rfl rfl (fun hp => ⟨?_, ?_, ?_, ?_, trivial⟩) ?_
  · exact stepS_of (q_loadRat hp (free_of rfl) trivial (List.mem_iff_getElem?.2 ⟨2, rfl⟩) (.inl rfl) rfl (sq_out rfl rfl (fun _ _ => rfl)) (fun us w hl h => h)) rfl
  · exact stepS_of (q_loadRat hp (free_of rfl) trivial (List.mem_iff_getElem?.2 ⟨1, rfl⟩) (.inl rfl) rfl (sq_out rfl rfl (fun _ _ => rfl)) (fun us w hl h => h)) rfl
  · exact stepS_of (q_buildRats2 hp (List.mem_iff_getElem?.2 ⟨0, rfl⟩) rfl rfl rfl rfl rfl (sq_in 0 rfl rfl (by simp) rfl (fun v w h => h)) (sq_in 1 rfl rfl (by simp) rfl (fun v w h => h)) (fun _ _ => trivial) (old_ne rfl) (newks_ne rfl)) rfl
  · exact stepS_assign hp (free_of rfl) rfl (j := 2) rfl (by simp) rfl (fun _ _ => trivial) rfl (Nat.ne_of_beq_eq_false rfl)
  intro L vs w4 nb hsm hL hC hn E4
  have e2 : vs 2 = .slice (some ⟨nb 2, 0, none⟩) 2 2 := hn _ (List.mem_iff_getElem?.2 ⟨0, rfl⟩)
  have e3 : vs 3 = .slice (some ⟨nb 2, 0, none⟩) 2 2 := (hsm (3, 2) (by simp) (Nat.lt_of_sub_eq_succ rfl)).trans e2
  have E : Fr w [(nb 2, 8, Fq.rats [(a.num, (a.den : Int)), (b.num, (b.den : Int))]), (b3, 8, Fq.ivl 0 0 0 0), (b2, 4, Fq.pair b.num (b.den : Int)), (b1, 4, Fq.pair a.num (a.den : Int))] w4 := E4
  rw [lay_all hL]
  simp only [putAll, dstOf, List.length_cons, List.length_nil, Nat.zero_add, Nat.reduceAdd, List.getElem?_toArray, List.getElem?_cons_zero, List.getElem?_cons_succ, Option.bind_some, Act.put, List.setIfInBounds_toArray, List.set_cons_succ, List.set_cons_zero]
  rw [e2, e3]
  generalize nb 2 = b4_2 at E ⊢
  generalize vs 0 = u4_0
  generalize vs 1 = u4_1
  clear e2 e3 hsm hC hn E4 hL vs L nb
  go_upto_region 2 with (fail)
  have B5 : Hid (Rb (leastQ a [b]) 300) := rb_least (rb_le ha.out (by omega)) (allR (rb_le hb.out (by omega)) nilR)
  have B6 : Hid (Rb (greatQ a [b]) 300) := rb_great (rb_le ha.out (by omega)) (allR (rb_le hb.out (by omega)) nilR)
  refine region_fr (C := [Fq.is (.slice (some ⟨b4_2, 0, none⟩) 2 2), Fq.pair (leastQ a [b]).num ((leastQ a [b]).den : Int), Fq.is (.slice (some ⟨b4_2, 0, none⟩) 2 2), Fq.pair (greatQ a [b]).num ((greatQ a [b]).den : Int), Fq.ivl (leastQ a [b]).num ((leastQ a [b]).den : Int) (greatQ a [b]).num ((greatQ a [b]).den : Int), Fq.any]) (ks := [none, some (5, Fq.ivl (leastQ a [b]).num ((leastQ a [b]).den : Int) (greatQ a [b]).num ((greatQ a [b]).den : Int)), none, none]) (new := []) E rfl (by kernel_rfl) rfl rfl (fun hp => ⟨?_, ?_, ?_, ?_, ?_, ?_, trivial⟩) ?_
  · exact q_move hp (free_of rfl) trivial (sq_out rfl rfl (fun _ _ => rfl))
  · exact q_callSl (u := .slice (some ⟨b4_2, 0, none⟩) 2 2) hp (free_of rfl) trivial (enq_S_Least) (List.mem_iff_getElem?.2 ⟨0, rfl⟩) rfl (sq_in 0 rfl rfl (by simp) rfl (fun v w h => h)) (fun w hbx => exSLeast (a := a) (r := [b]) hbx rfl (Nat.le_of_ble_eq_true rfl) (allR (rb_le ha.out (by omega)) (allR (rb_le hb.out (by omega)) nilR)))
  · exact q_move hp (free_of rfl) trivial (sq_out rfl rfl (fun _ _ => rfl))
  · exact q_callSl (u := .slice (some ⟨b4_2, 0, none⟩) 2 2) hp (free_of rfl) trivial (enq_S_Greatest) (List.mem_iff_getElem?.2 ⟨0, rfl⟩) rfl (sq_in 2 rfl rfl (by simp) rfl (fun v w h => h)) (fun w hbx => exSGreatest (a := a) (r := [b]) hbx rfl (Nat.le_of_ble_eq_true rfl) (allR (rb_le ha.out (by omega)) (allR (rb_le hb.out (by omega)) nilR)))
  · exact q_buildIvl hp (free_of rfl) trivial (sq_in 1 rfl rfl (by simp) rfl (fun v w h => h)) (sq_in 3 rfl rfl (by simp) rfl (fun v w h => h)) (fun v w h => h)
  · exact q_storeOldIvl hp (List.mem_iff_getElem?.2 ⟨1, rfl⟩) rfl rfl (sq_out rfl rfl (fun _ _ => rfl)) (sq_in 4 rfl rfl (by simp) rfl (fun v w h => h.parts)) (fun _ _ => trivial) (newik_ne rfl)
  intro L vs w7 nb hL hC hn E7
  have e0 : vs 0 = .slice (some ⟨b4_2, 0, none⟩) 2 2 := hC 0 (by simp)
  have e2 : vs 2 = .slice (some ⟨b4_2, 0, none⟩) 2 2 := hC 2 (by simp)
  have E : Fr w [(b4_2, 8, Fq.rats [(a.num, (a.den : Int)), (b.num, (b.den : Int))]), (b3, 8, Fq.ivl (leastQ a [b]).num ((leastQ a [b]).den : Int) (greatQ a [b]).num ((greatQ a [b]).den : Int)), (b2, 4, Fq.pair b.num (b.den : Int)), (b1, 4, Fq.pair a.num (a.den : Int))] w7 := E7
  rw [lay_all hL]
  simp only [putAll, dstOf, List.length_cons, List.length_nil, Nat.zero_add, Nat.reduceAdd, List.getElem?_toArray, List.getElem?_cons_zero, List.getElem?_cons_succ, Option.bind_some, Act.put, List.setIfInBounds_toArray, List.set_cons_succ, List.set_cons_zero]
  rw [e0, e2]
  generalize vs 1 = u7_1
  generalize vs 3 = u7_3
  generalize vs 4 = u7_4
  clear e0 e2 hC hn E7 hL vs L nb
  obtain ⟨p0, p1, p2, p3, p4, p5, p6, p7, c0, c1, c2, c3, c4, c5, c6, c7, hP⟩ := box_ivl (E.box 1 rfl)
  clear B5 B6 ha hb
  go_wp2
  refine bodyPost_ret (v := .agg #[p0, p1, p2, p3, p4, p5, p6, p7]) ?_ rfl ⟨_, rfl, E.below, hP⟩
  simp [results, Tryz.results27, go_sem, c0, c1, c2, c3, c4, c5, c6, c7]

set_option maxRecDepth 100000 in
set_option maxHeartbeats 4000000 in
theorem exQHas {w : World} {v v' : Value} {a b q : Rat} (h : Ivl w v a.num a.den b.num b.den) (h' : Pair w v' q.num q.den) (ha : Rb a 300) (hb : Rb b 300) (hq : Rb q 300) :
    Calls Tryz.prog 39 #[v, v'] w fun e w' => ∃ v', e = .returned v' ∧ Below w.heap.size w w' ∧ v' = .bool (decide (a ≤ q) && decide (q ≤ b)) := by
  replace ha := hidd ha
  replace hb := hidd hb
  replace hq := hidd hq
  obtain ⟨n0_0, ao0_0, k0_0, c0_0, n0_1, ao0_1, k0_1, c0_1, n0_2, ao0_2, k0_2, c0_2, n0_3, ao0_3, k0_3, c0_3, rfl, _⟩ := h.parts
  obtain ⟨n1, ao1, k1, c1, n1', ao1', k1', c1', rfl, _⟩ := ratV_pair h'
  obtain ⟨w1, b1, hw1, hb1, hs1, E⟩ := fr_start w (F := Fq.ivl a.num (a.den : Int) b.num (b.den : Int)) (us := [.bool n0_0, .slice ao0_0 k0_0 c0_0, .bool n0_1, .slice ao0_1 k0_1 c0_1, .bool n0_2, .slice ao0_2 k0_2 c0_2, .bool n0_3, .slice ao0_3 k0_3 c0_3]) 47 rfl (by simp) (tame_ivl _ _ _ _ _ _ _ _ _ _ _ _ _ _ _ _) h
  obtain ⟨w2, b2, hw2, hb2, hs2, E⟩ := fr_more E hs1 (F := Fq.pair q.num (q.den : Int)) (us := [.bool n1, .slice ao1 k1 c1, .bool n1', .slice ao1' k1' c1']) 31 rfl (by simp) (tame_rat _ _ _ _ _ _ _ _) (h'.mono E.below)
  go_enter Tryz.func39, Tryz.ntmps39
  go_upto_region 1 with (fail)
  rw [← hw1]
  rw [← hw2]
  rw [← hb2]
  rw [← hb1]
  clear hw1 hw2 hb1 hb2 hs2 hs1
  by_cases h1 : a ≤ q
  · have T1 := hidd (cmpQ_leN.2 h1)
    have e1 := hidd (decide_eq_true h1)
    clear h1
    by_cases h2 : q ≤ b
    · have T2 := hidd (cmpQ_leN.2 h2)
      have e2 := hidd (decide_eq_true h2)
      clear h2
      refine region_fr (C := [Fq.is (.pointer (some ⟨b1, 0, none⟩)), Fq.pair a.num (a.den : Int), Fq.pair q.num (q.den : Int), Fq.is (.int .i64 (cmpQ a q)), Fq.is (.bool true), Fq.is (.bool true), Fq.pair q.num (q.den : Int), Fq.is (.pointer (some ⟨b1, 4, none⟩)), Fq.pair b.num (b.den : Int), Fq.is (.int .i64 (cmpQ q b)), Fq.is (.bool true), Fq.is (.bool true), Fq.is (.bool true)]) (ks := [none, none]) (new := []) E rfl (by kernel_rfl) rfl rfl (fun hp => ⟨?_, ?_, ?_, ?_, ?_, ?_, ?_, ?_, ?_, ?_, ?_, ?_, ?_, trivial⟩) ?_
      · exact q_addr (b := b1) (off := 0) (off' := 0) hp (free_of rfl) trivial (sq_out rfl rfl (fun _ _ => rfl)) (fun ρ w h => by simp [execOp, go_sem, h]) (fun _ => rfl)
      · exact q_loadRatAt (off := 0) hp (free_of rfl) trivial (List.mem_iff_getElem?.2 ⟨1, rfl⟩) (.inl rfl) (Nat.le_of_ble_eq_true rfl) (sq_in 0 rfl rfl (by simp) rfl (fun v w h => h)) (fun us w hl h => ld_ivl0 hl h)
      · exact q_loadRat hp (free_of rfl) trivial (List.mem_iff_getElem?.2 ⟨0, rfl⟩) (.inl rfl) rfl (sq_out rfl rfl (fun _ _ => rfl)) (fun us w hl h => h)
      · exact q_call2 (F := (Fq.pair a.num (a.den : Int)).P) (G := (Fq.pair q.num (q.den : Int)).P) hp (free_of rfl) trivial (enq_Q_Cmp) (sq_in 1 rfl rfl (by simp) rfl (fun v w h => h)) (sq_in 2 rfl rfl (by simp) rfl (fun v w h => h)) (fun v v' w h h' => exCmpQ h h' (rb_le ha.out (by omega)) (rb_le hq.out (by omega)))
      · exact q_one (F := fun v _ => v = .int .i64 (cmpQ a q)) hp (free_of rfl) trivial (sq_in 3 rfl rfl (by simp) rfl (fun v w h => h)) (fun ρ w hc h => ⟨.bool true, by simp [execOp, go_sem, h, hc, T1.out], rfl⟩)
      · exact q_move hp (free_of rfl) trivial (sq_in 4 rfl rfl (by simp) rfl (fun v w h => h))
      · exact q_loadRat hp (free_of rfl) (gq_some rfl rfl (by simp) rfl (fun v w h => h)) (List.mem_iff_getElem?.2 ⟨0, rfl⟩) (.inl rfl) rfl (sq_out rfl rfl (fun _ _ => rfl)) (fun us w hl h => h)
      · exact q_addr (b := b1) (off := 0) (off' := 4) hp (free_of rfl) (gq_some rfl rfl (by simp) rfl (fun v w h => h)) (sq_out rfl rfl (fun _ _ => rfl)) (fun ρ w h => by simp [execOp, go_sem, h]) (fun _ => rfl)
      · exact q_loadRatAt (off := 4) hp (free_of rfl) (gq_some rfl rfl (by simp) rfl (fun v w h => h)) (List.mem_iff_getElem?.2 ⟨1, rfl⟩) (.inl rfl) (Nat.le_of_ble_eq_true rfl) (sq_in 7 rfl rfl (by simp) rfl (fun v w h => h)) (fun us w hl h => ld_ivl1 hl h)
      · exact q_call2 (F := (Fq.pair q.num (q.den : Int)).P) (G := (Fq.pair b.num (b.den : Int)).P) hp (free_of rfl) (gq_some rfl rfl (by simp) rfl (fun v w h => h)) (enq_Q_Cmp) (sq_in 6 rfl rfl (by simp) rfl (fun v w h => h)) (sq_in 8 rfl rfl (by simp) rfl (fun v w h => h)) (fun v v' w h h' => exCmpQ h h' (rb_le hq.out (by omega)) (rb_le hb.out (by omega)))
      · exact q_one (F := fun v _ => v = .int .i64 (cmpQ q b)) hp (free_of rfl) (gq_some rfl rfl (by simp) rfl (fun v w h => h)) (sq_in 9 rfl rfl (by simp) rfl (fun v w h => h)) (fun ρ w hc h => ⟨.bool true, by simp [execOp, go_sem, h, hc, T2.out], rfl⟩)
      · exact q_two (F := fun v _ => v = .bool true) (G := fun v _ => v = .bool true) hp (free_of rfl) trivial (sq_in 5 rfl rfl (by simp) rfl (fun v w h => h)) (sq_in 10 rfl rfl (by simp) rfl (fun v w h => h)) (fun ρ w hc h h' => ⟨_, by simp [execOp, go_sem, h, h'], rfl⟩)
      · exact q_assign hp (free_of rfl) trivial (sq_in 11 rfl rfl (by simp) rfl (fun v w h => h))
      intro L vs w3 nb hL hC hn E3
      have e0 : vs 0 = .pointer (some ⟨b1, 0, none⟩) := hC 0 (by simp)
      have e3 : vs 3 = .int .i64 (cmpQ a q) := hC 3 (by simp)
      have e4 : vs 4 = .bool true := hC 4 (by simp)
      have e5 : vs 5 = .bool true := hC 5 (by simp)
      have e7 : vs 7 = .pointer (some ⟨b1, 4, none⟩) := hC 7 (by simp)
      have e9 : vs 9 = .int .i64 (cmpQ q b) := hC 9 (by simp)
      have e10 : vs 10 = .bool true := hC 10 (by simp)
      have e11 : vs 11 = .bool true := hC 11 (by simp)
      have e12 : vs 12 = .bool true := hC 12 (by simp)
      have E : Fr w [(b2, 4, Fq.pair q.num (q.den : Int)), (b1, 8, Fq.ivl a.num (a.den : Int) b.num (b.den : Int))] w3 := E3
      rw [lay_all hL]
      simp only [putAll, dstOf, List.length_cons, List.length_nil, Nat.zero_add, Nat.reduceAdd, List.getElem?_toArray, List.getElem?_cons_zero, List.getElem?_cons_succ, Option.bind_some, Act.put, List.setIfInBounds_toArray, List.set_cons_succ, List.set_cons_zero]
      rw [e0, e3, e4, e5, e7, e9, e10, e11, e12]
      generalize vs 1 = u3_1
      generalize vs 2 = u3_2
      generalize vs 6 = u3_6
      generalize vs 8 = u3_8
      clear e0 e3 e4 e5 e7 e9 e10 e11 e12 hC hn E3 hL vs L nb
      clear T1 T2
      clear ha hb hq
      go_wp2
      refine bodyPost_ret (v := .bool true) ?_ rfl (by first | exact ⟨_, rfl, E.below, by rw [e1.out, e2.out]; rfl⟩ | exact ⟨_, rfl, E.below⟩ | exact ⟨rfl, E.below⟩)
      simp [results, Tryz.results39, go_sem]
    · have T2 := hidd (mt cmpQ_leN.1 h2)
      have e2 := hidd (decide_eq_false h2)
      clear h2
      refine region_fr (C := [Fq.is (.pointer (some ⟨b1, 0, none⟩)), Fq.pair a.num (a.den : Int), Fq.pair q.num (q.den : Int), Fq.is (.int .i64 (cmpQ a q)), Fq.is (.bool true), Fq.is (.bool true), Fq.pair q.num (q.den : Int), Fq.is (.pointer (some ⟨b1, 4, none⟩)), Fq.pair b.num (b.den : Int), Fq.is (.int .i64 (cmpQ q b)), Fq.is (.bool false), Fq.is (.bool false), Fq.is (.bool false)]) (ks := [none, none]) (new := []) E rfl (by kernel_rfl) rfl rfl (fun hp => ⟨?_, ?_, ?_, ?_, ?_, ?_, ?_, ?_, ?_, ?_, ?_, ?_, ?_, trivial⟩) ?_
      · exact q_addr (b := b1) (off := 0) (off' := 0) hp (free_of rfl) trivial (sq_out rfl rfl (fun _ _ => rfl)) (fun ρ w h => by simp [execOp, go_sem, h]) (fun _ => rfl)
      · exact q_loadRatAt (off := 0) hp (free_of rfl) trivial (List.mem_iff_getElem?.2 ⟨1, rfl⟩) (.inl rfl) (Nat.le_of_ble_eq_true rfl) (sq_in 0 rfl rfl (by simp) rfl (fun v w h => h)) (fun us w hl h => ld_ivl0 hl h)
      · exact q_loadRat hp (free_of rfl) trivial (List.mem_iff_getElem?.2 ⟨0, rfl⟩) (.inl rfl) rfl (sq_out rfl rfl (fun _ _ => rfl)) (fun us w hl h => h)
      · exact q_call2 (F := (Fq.pair a.num (a.den : Int)).P) (G := (Fq.pair q.num (q.den : Int)).P) hp (free_of rfl) trivial (enq_Q_Cmp) (sq_in 1 rfl rfl (by simp) rfl (fun v w h => h)) (sq_in 2 rfl rfl (by simp) rfl (fun v w h => h)) (fun v v' w h h' => exCmpQ h h' (rb_le ha.out (by omega)) (rb_le hq.out (by omega)))
      · exact q_one (F := fun v _ => v = .int .i64 (cmpQ a q)) hp (free_of rfl) trivial (sq_in 3 rfl rfl (by simp) rfl (fun v w h => h)) (fun ρ w hc h => ⟨.bool true, by simp [execOp, go_sem, h, hc, T1.out], rfl⟩)
      · exact q_move hp (free_of rfl) trivial (sq_in 4 rfl rfl (by simp) rfl (fun v w h => h))
      · exact q_loadRat hp (free_of rfl) (gq_some rfl rfl (by simp) rfl (fun v w h => h)) (List.mem_iff_getElem?.2 ⟨0, rfl⟩) (.inl rfl) rfl (sq_out rfl rfl (fun _ _ => rfl)) (fun us w hl h => h)
      · exact q_addr (b := b1) (off := 0) (off' := 4) hp (free_of rfl) (gq_some rfl rfl (by simp) rfl (fun v w h => h)) (sq_out rfl rfl (fun _ _ => rfl)) (fun ρ w h => by simp [execOp, go_sem, h]) (fun _ => rfl)
      · exact q_loadRatAt (off := 4) hp (free_of rfl) (gq_some rfl rfl (by simp) rfl (fun v w h => h)) (List.mem_iff_getElem?.2 ⟨1, rfl⟩) (.inl rfl) (Nat.le_of_ble_eq_true rfl) (sq_in 7 rfl rfl (by simp) rfl (fun v w h => h)) (fun us w hl h => ld_ivl1 hl h)
      · exact q_call2 (F := (Fq.pair q.num (q.den : Int)).P) (G := (Fq.pair b.num (b.den : Int)).P) hp (free_of rfl) (gq_some rfl rfl (by simp) rfl (fun v w h => h)) (enq_Q_Cmp) (sq_in 6 rfl rfl (by simp) rfl (fun v w h => h)) (sq_in 8 rfl rfl (by simp) rfl (fun v w h => h)) (fun v v' w h h' => exCmpQ h h' (rb_le hq.out (by omega)) (rb_le hb.out (by omega)))
      · exact q_one (F := fun v _ => v = .int .i64 (cmpQ q b)) hp (free_of rfl) (gq_some rfl rfl (by simp) rfl (fun v w h => h)) (sq_in 9 rfl rfl (by simp) rfl (fun v w h => h)) (fun ρ w hc h => ⟨.bool false, by simp [execOp, go_sem, h, hc, T2.out], rfl⟩)
      · exact q_two (F := fun v _ => v = .bool true) (G := fun v _ => v = .bool false) hp (free_of rfl) trivial (sq_in 5 rfl rfl (by simp) rfl (fun v w h => h)) (sq_in 10 rfl rfl (by simp) rfl (fun v w h => h)) (fun ρ w hc h h' => ⟨_, by simp [execOp, go_sem, h, h'], rfl⟩)
      · exact q_assign hp (free_of rfl) trivial (sq_in 11 rfl rfl (by simp) rfl (fun v w h => h))
      intro L vs w4 nb hL hC hn E4
      have e0 : vs 0 = .pointer (some ⟨b1, 0, none⟩) := hC 0 (by simp)
      have e3 : vs 3 = .int .i64 (cmpQ a q) := hC 3 (by simp)
      have e4 : vs 4 = .bool true := hC 4 (by simp)
      have e5 : vs 5 = .bool true := hC 5 (by simp)
      have e7 : vs 7 = .pointer (some ⟨b1, 4, none⟩) := hC 7 (by simp)
      have e9 : vs 9 = .int .i64 (cmpQ q b) := hC 9 (by simp)
      have e10 : vs 10 = .bool false := hC 10 (by simp)
      have e11 : vs 11 = .bool false := hC 11 (by simp)
      have e12 : vs 12 = .bool false := hC 12 (by simp)
      have E : Fr w [(b2, 4, Fq.pair q.num (q.den : Int)), (b1, 8, Fq.ivl a.num (a.den : Int) b.num (b.den : Int))] w4 := E4
      rw [lay_all hL]
      simp only [putAll, dstOf, List.length_cons, List.length_nil, Nat.zero_add, Nat.reduceAdd, List.getElem?_toArray, List.getElem?_cons_zero, List.getElem?_cons_succ, Option.bind_some, Act.put, List.setIfInBounds_toArray, List.set_cons_succ, List.set_cons_zero]
      rw [e0, e3, e4, e5, e7, e9, e10, e11, e12]
      generalize vs 1 = u4_1
      generalize vs 2 = u4_2
      generalize vs 6 = u4_6
      generalize vs 8 = u4_8
      clear e0 e3 e4 e5 e7 e9 e10 e11 e12 hC hn E4 hL vs L nb
      clear T1 T2
      clear ha hb hq
      go_wp2
      refine bodyPost_ret (v := .bool false) ?_ rfl (by first | exact ⟨_, rfl, E.below, by rw [e1.out, e2.out]; rfl⟩ | exact ⟨_, rfl, E.below⟩ | exact ⟨rfl, E.below⟩)
      simp [results, Tryz.results39, go_sem]
  · have T1 := hidd (mt cmpQ_leN.1 h1)
    have e1 := hidd (decide_eq_false h1)
    clear h1
    refine region_fr (C := [Fq.is (.pointer (some ⟨b1, 0, none⟩)), Fq.pair a.num (a.den : Int), Fq.pair q.num (q.den : Int), Fq.is (.int .i64 (cmpQ a q)), Fq.is (.bool false), Fq.is (.bool false), Fq.is (undef), Fq.is (undef), Fq.is (undef), Fq.is (undef), Fq.is (undef), Fq.is (.bool false), Fq.is (.bool false)]) (ks := [none, none]) (new := []) E rfl (by kernel_rfl) rfl rfl (fun hp => ⟨?_, ?_, ?_, ?_, ?_, ?_, ?_, ?_, ?_, ?_, ?_, ?_, ?_, trivial⟩) ?_
    · exact q_addr (b := b1) (off := 0) (off' := 0) hp (free_of rfl) trivial (sq_out rfl rfl (fun _ _ => rfl)) (fun ρ w h => by simp [execOp, go_sem, h]) (fun _ => rfl)
    · exact q_loadRatAt (off := 0) hp (free_of rfl) trivial (List.mem_iff_getElem?.2 ⟨1, rfl⟩) (.inl rfl) (Nat.le_of_ble_eq_true rfl) (sq_in 0 rfl rfl (by simp) rfl (fun v w h => h)) (fun us w hl h => ld_ivl0 hl h)
    · exact q_loadRat hp (free_of rfl) trivial (List.mem_iff_getElem?.2 ⟨0, rfl⟩) (.inl rfl) rfl (sq_out rfl rfl (fun _ _ => rfl)) (fun us w hl h => h)
    · exact q_call2 (F := (Fq.pair a.num (a.den : Int)).P) (G := (Fq.pair q.num (q.den : Int)).P) hp (free_of rfl) trivial (enq_Q_Cmp) (sq_in 1 rfl rfl (by simp) rfl (fun v w h => h)) (sq_in 2 rfl rfl (by simp) rfl (fun v w h => h)) (fun v v' w h h' => exCmpQ h h' (rb_le ha.out (by omega)) (rb_le hq.out (by omega)))
    · exact q_one (F := fun v _ => v = .int .i64 (cmpQ a q)) hp (free_of rfl) trivial (sq_in 3 rfl rfl (by simp) rfl (fun v w h => h)) (fun ρ w hc h => ⟨.bool false, by simp [execOp, go_sem, h, hc, T1.out], rfl⟩)
    · exact q_move hp (free_of rfl) trivial (sq_in 4 rfl rfl (by simp) rfl (fun v w h => h))
    · exact q_skip hp (free_of rfl) rfl (gq_some rfl rfl (by simp) rfl (fun v w h => h)) (fun _ => rfl)
    · exact q_skip hp (free_of rfl) rfl (gq_some rfl rfl (by simp) rfl (fun v w h => h)) (fun _ => rfl)
    · exact q_skip hp (free_of rfl) rfl (gq_some rfl rfl (by simp) rfl (fun v w h => h)) (fun _ => rfl)
    · exact q_skip hp (free_of rfl) rfl (gq_some rfl rfl (by simp) rfl (fun v w h => h)) (fun _ => rfl)
    · exact q_skip hp (free_of rfl) rfl (gq_some rfl rfl (by simp) rfl (fun v w h => h)) (fun _ => rfl)
    · exact q_two (F := fun v _ => v = .bool false) (G := fun v _ => v = .bool false) hp (free_of rfl) trivial (sq_in 5 rfl rfl (by simp) rfl (fun v w h => h)) (sq_const (fun _ => rfl)) (fun ρ w hc h h' => ⟨_, by simp [execOp, go_sem, h, h'], rfl⟩)
    · exact q_assign hp (free_of rfl) trivial (sq_in 11 rfl rfl (by simp) rfl (fun v w h => h))
    intro L vs w5 nb hL hC hn E5
    have e0 : vs 0 = .pointer (some ⟨b1, 0, none⟩) := hC 0 (by simp)
    have e3 : vs 3 = .int .i64 (cmpQ a q) := hC 3 (by simp)
    have e4 : vs 4 = .bool false := hC 4 (by simp)
    have e5 : vs 5 = .bool false := hC 5 (by simp)
    have e6 : vs 6 = undef := hC 6 (by simp)
    have e7 : vs 7 = undef := hC 7 (by simp)
    have e8 : vs 8 = undef := hC 8 (by simp)
    have e9 : vs 9 = undef := hC 9 (by simp)
    have e10 : vs 10 = undef := hC 10 (by simp)
    have e11 : vs 11 = .bool false := hC 11 (by simp)
    have e12 : vs 12 = .bool false := hC 12 (by simp)
    have E : Fr w [(b2, 4, Fq.pair q.num (q.den : Int)), (b1, 8, Fq.ivl a.num (a.den : Int) b.num (b.den : Int))] w5 := E5
    rw [lay_all hL]
    simp only [putAll, dstOf, List.length_cons, List.length_nil, Nat.zero_add, Nat.reduceAdd, List.getElem?_toArray, List.getElem?_cons_zero, List.getElem?_cons_succ, Option.bind_some, Act.put, List.setIfInBounds_toArray, List.set_cons_succ, List.set_cons_zero]
    rw [e0, e3, e4, e5, e6, e7, e8, e9, e10, e11, e12]
    generalize vs 1 = u5_1
    generalize vs 2 = u5_2
    clear e0 e3 e4 e5 e6 e7 e8 e9 e10 e11 e12 hC hn E5 hL vs L nb
    clear T1
    clear ha hb hq
    go_wp2
    refine bodyPost_ret (v := .bool false) ?_ rfl (by first | exact ⟨_, rfl, E.below, by rw [e1.out]; rfl⟩ | exact ⟨_, rfl, E.below⟩ | exact ⟨rfl, E.below⟩)
    simp [results, Tryz.results39, go_sem]

theorem exQHasB {w : World} {v v' : Value} {a b q : Rat} {t : Bool} (h : Ivl w v a.num a.den b.num b.den) (h' : Pair w v' q.num q.den) (ha : Rb a 300) (hb : Rb b 300) (hq : Rb q 300) (ht : (decide (a ≤ q) && decide (q ≤ b)) = t) : Calls Tryz.prog 39 #[v, v'] w fun e w' => ∃ v', e = .returned v' ∧ Below w.heap.size w w' ∧ v' = .bool t := by
  have := exQHas h h' ha hb hq
  rw [ht] at this
  exact this
set_option maxRecDepth 100000 in
set_option maxHeartbeats 4000000 in
theorem exSSameI {w : World} {v v' : Value} {a b c d : Rat} (h : Ivl w v a.num a.den b.num b.den) (h' : Ivl w v' c.num c.den d.num d.den) :
    Calls Tryz.prog 33 #[v, v'] w fun e w' => ∃ v', e = .returned v' ∧ Below w.heap.size w w' ∧ v' = .bool (decide (a = c) && decide (b = d)) := by
  obtain ⟨n0_0, ao0_0, k0_0, c0_0, n0_1, ao0_1, k0_1, c0_1, n0_2, ao0_2, k0_2, c0_2, n0_3, ao0_3, k0_3, c0_3, rfl, _⟩ := h.parts
  obtain ⟨n1_0, ao1_0, k1_0, c1_0, n1_1, ao1_1, k1_1, c1_1, n1_2, ao1_2, k1_2, c1_2, n1_3, ao1_3, k1_3, c1_3, rfl, _⟩ := h'.parts
  obtain ⟨w1, b1, hw1, hb1, hs1, E⟩ := fr_start w (F := Fq.ivl a.num (a.den : Int) b.num (b.den : Int)) (us := [.bool n0_0, .slice ao0_0 k0_0 c0_0, .bool n0_1, .slice ao0_1 k0_1 c0_1, .bool n0_2, .slice ao0_2 k0_2 c0_2, .bool n0_3, .slice ao0_3 k0_3 c0_3]) 47 rfl (by simp) (tame_ivl _ _ _ _ _ _ _ _ _ _ _ _ _ _ _ _) h
  obtain ⟨w2, b2, hw2, hb2, hs2, E⟩ := fr_more E hs1 (F := Fq.ivl c.num (c.den : Int) d.num (d.den : Int)) (us := [.bool n1_0, .slice ao1_0 k1_0 c1_0, .bool n1_1, .slice ao1_1 k1_1 c1_1, .bool n1_2, .slice ao1_2 k1_2 c1_2, .bool n1_3, .slice ao1_3 k1_3 c1_3]) 47 rfl (by simp) (tame_ivl _ _ _ _ _ _ _ _ _ _ _ _ _ _ _ _) (h'.mono E.below)
  go_enter Tryz.func33, Tryz.ntmps33
  go_upto_region 1 with (fail)
  rw [← hw1]
  rw [← hw2]
  rw [← hb2]
  rw [← hb1]
  clear hw1 hw2 hb1 hb2 hs2 hs1
  by_cases h1 : a = c
  · have e1 := hidd (decide_eq_true h1)
    by_cases h2 : b = d
    · have e2 := hidd (decide_eq_true h2)
      clear h1 h2
      refine region_fr (C := [Fq.is (.pointer (some ⟨b1, 0, none⟩)), Fq.pair a.num (a.den : Int), Fq.is (.pointer (some ⟨b2, 0, none⟩)), Fq.pair c.num (c.den : Int), Fq.is (.bool true), Fq.is (.bool true), Fq.is (.pointer (some ⟨b1, 4, none⟩)), Fq.pair b.num (b.den : Int), Fq.is (.pointer (some ⟨b2, 4, none⟩)), Fq.pair d.num (d.den : Int), Fq.is (.bool true), Fq.is (.bool true), Fq.is (.bool true)]) (ks := [none, none]) (new := []) E rfl (by kernel_rfl) rfl rfl (fun hp => ⟨?_, ?_, ?_, ?_, ?_, ?_, ?_, ?_, ?_, ?_, ?_, ?_, ?_, trivial⟩) ?_
      · exact q_addr (b := b1) (off := 0) (off' := 0) hp (free_of rfl) trivial (sq_out rfl rfl (fun _ _ => rfl)) (fun ρ w h => by simp [execOp, go_sem, h]) (fun _ => rfl)
      · exact q_loadRatAt (off := 0) hp (free_of rfl) trivial (List.mem_iff_getElem?.2 ⟨1, rfl⟩) (.inl rfl) (Nat.le_of_ble_eq_true rfl) (sq_in 0 rfl rfl (by simp) rfl (fun v w h => h)) (fun us w hl h => ld_ivl0 hl h)
      · exact q_addr (b := b2) (off := 0) (off' := 0) hp (free_of rfl) trivial (sq_out rfl rfl (fun _ _ => rfl)) (fun ρ w h => by simp [execOp, go_sem, h]) (fun _ => rfl)
      · exact q_loadRatAt (off := 0) hp (free_of rfl) trivial (List.mem_iff_getElem?.2 ⟨0, rfl⟩) (.inl rfl) (Nat.le_of_ble_eq_true rfl) (sq_in 2 rfl rfl (by simp) rfl (fun v w h => h)) (fun us w hl h => ld_ivl0 hl h)
      · exact q_call2 (F := (Fq.pair a.num (a.den : Int)).P) (G := (Fq.pair c.num (c.den : Int)).P) hp (free_of rfl) trivial (enq_S_Same) (sq_in 1 rfl rfl (by simp) rfl (fun v w h => h)) (sq_in 3 rfl rfl (by simp) rfl (fun v w h => h)) (fun v v' w h h' => exSSameN h h' e1.out)
      · exact q_move hp (free_of rfl) trivial (sq_in 4 rfl rfl (by simp) rfl (fun v w h => h))
      · exact q_addr (b := b1) (off := 0) (off' := 4) hp (free_of rfl) (gq_some rfl rfl (by simp) rfl (fun v w h => h)) (sq_out rfl rfl (fun _ _ => rfl)) (fun ρ w h => by simp [execOp, go_sem, h]) (fun _ => rfl)
      · exact q_loadRatAt (off := 4) hp (free_of rfl) (gq_some rfl rfl (by simp) rfl (fun v w h => h)) (List.mem_iff_getElem?.2 ⟨1, rfl⟩) (.inl rfl) (Nat.le_of_ble_eq_true rfl) (sq_in 6 rfl rfl (by simp) rfl (fun v w h => h)) (fun us w hl h => ld_ivl1 hl h)
      · exact q_addr (b := b2) (off := 0) (off' := 4) hp (free_of rfl) (gq_some rfl rfl (by simp) rfl (fun v w h => h)) (sq_out rfl rfl (fun _ _ => rfl)) (fun ρ w h => by simp [execOp, go_sem, h]) (fun _ => rfl)
      · exact q_loadRatAt (off := 4) hp (free_of rfl) (gq_some rfl rfl (by simp) rfl (fun v w h => h)) (List.mem_iff_getElem?.2 ⟨0, rfl⟩) (.inl rfl) (Nat.le_of_ble_eq_true rfl) (sq_in 8 rfl rfl (by simp) rfl (fun v w h => h)) (fun us w hl h => ld_ivl1 hl h)
      · exact q_call2 (F := (Fq.pair b.num (b.den : Int)).P) (G := (Fq.pair d.num (d.den : Int)).P) hp (free_of rfl) (gq_some rfl rfl (by simp) rfl (fun v w h => h)) (enq_S_Same) (sq_in 7 rfl rfl (by simp) rfl (fun v w h => h)) (sq_in 9 rfl rfl (by simp) rfl (fun v w h => h)) (fun v v' w h h' => exSSameN h h' e2.out)
      · exact q_two (F := fun v _ => v = .bool true) (G := fun v _ => v = .bool true) hp (free_of rfl) trivial (sq_in 5 rfl rfl (by simp) rfl (fun v w h => h)) (sq_in 10 rfl rfl (by simp) rfl (fun v w h => h)) (fun ρ w hc h h' => ⟨_, by simp [execOp, go_sem, h, h'], rfl⟩)
      · exact q_assign hp (free_of rfl) trivial (sq_in 11 rfl rfl (by simp) rfl (fun v w h => h))
      intro L vs w3 nb hL hC hn E3
      have e0 : vs 0 = .pointer (some ⟨b1, 0, none⟩) := hC 0 (by simp)
      have e2 : vs 2 = .pointer (some ⟨b2, 0, none⟩) := hC 2 (by simp)
      have e4 : vs 4 = .bool true := hC 4 (by simp)
      have e5 : vs 5 = .bool true := hC 5 (by simp)
      have e6 : vs 6 = .pointer (some ⟨b1, 4, none⟩) := hC 6 (by simp)
      have e8 : vs 8 = .pointer (some ⟨b2, 4, none⟩) := hC 8 (by simp)
      have e10 : vs 10 = .bool true := hC 10 (by simp)
      have e11 : vs 11 = .bool true := hC 11 (by simp)
      have e12 : vs 12 = .bool true := hC 12 (by simp)
      have E : Fr w [(b2, 8, Fq.ivl c.num (c.den : Int) d.num (d.den : Int)), (b1, 8, Fq.ivl a.num (a.den : Int) b.num (b.den : Int))] w3 := E3
      rw [lay_all hL]
      simp only [putAll, dstOf, List.length_cons, List.length_nil, Nat.zero_add, Nat.reduceAdd, List.getElem?_toArray, List.getElem?_cons_zero, List.getElem?_cons_succ, Option.bind_some, Act.put, List.setIfInBounds_toArray, List.set_cons_succ, List.set_cons_zero]
      rw [e0, e2, e4, e5, e6, e8, e10, e11, e12]
      generalize vs 1 = u3_1
      generalize vs 3 = u3_3
      generalize vs 7 = u3_7
      generalize vs 9 = u3_9
      clear e0 e2 e4 e5 e6 e8 e10 e11 e12 hC hn E3 hL vs L nb
      go_wp2
      refine bodyPost_ret (v := .bool true) ?_ rfl (by first | exact ⟨_, rfl, E.below, by rw [e1.out, e2.out]; rfl⟩ | exact ⟨_, rfl, E.below⟩ | exact ⟨rfl, E.below⟩)
      simp [results, Tryz.results33, go_sem]
    · have e2 := hidd (decide_eq_false h2)
      clear h1 h2
      refine region_fr (C := [Fq.is (.pointer (some ⟨b1, 0, none⟩)), Fq.pair a.num (a.den : Int), Fq.is (.pointer (some ⟨b2, 0, none⟩)), Fq.pair c.num (c.den : Int), Fq.is (.bool true), Fq.is (.bool true), Fq.is (.pointer (some ⟨b1, 4, none⟩)), Fq.pair b.num (b.den : Int), Fq.is (.pointer (some ⟨b2, 4, none⟩)), Fq.pair d.num (d.den : Int), Fq.is (.bool false), Fq.is (.bool false), Fq.is (.bool false)]) (ks := [none, none]) (new := []) E rfl (by kernel_rfl) rfl rfl (fun hp => ⟨?_, ?_, ?_, ?_, ?_, ?_, ?_, ?_, ?_, ?_, ?_, ?_, ?_, trivial⟩) ?_
      · exact q_addr (b := b1) (off := 0) (off' := 0) hp (free_of rfl) trivial (sq_out rfl rfl (fun _ _ => rfl)) (fun ρ w h => by simp [execOp, go_sem, h]) (fun _ => rfl)
      · exact q_loadRatAt (off := 0) hp (free_of rfl) trivial (List.mem_iff_getElem?.2 ⟨1, rfl⟩) (.inl rfl) (Nat.le_of_ble_eq_true rfl) (sq_in 0 rfl rfl (by simp) rfl (fun v w h => h)) (fun us w hl h => ld_ivl0 hl h)
      · exact q_addr (b := b2) (off := 0) (off' := 0) hp (free_of rfl) trivial (sq_out rfl rfl (fun _ _ => rfl)) (fun ρ w h => by simp [execOp, go_sem, h]) (fun _ => rfl)
      · exact q_loadRatAt (off := 0) hp (free_of rfl) trivial (List.mem_iff_getElem?.2 ⟨0, rfl⟩) (.inl rfl) (Nat.le_of_ble_eq_true rfl) (sq_in 2 rfl rfl (by simp) rfl (fun v w h => h)) (fun us w hl h => ld_ivl0 hl h)
      · exact q_call2 (F := (Fq.pair a.num (a.den : Int)).P) (G := (Fq.pair c.num (c.den : Int)).P) hp (free_of rfl) trivial (enq_S_Same) (sq_in 1 rfl rfl (by simp) rfl (fun v w h => h)) (sq_in 3 rfl rfl (by simp) rfl (fun v w h => h)) (fun v v' w h h' => exSSameN h h' e1.out)
      · exact q_move hp (free_of rfl) trivial (sq_in 4 rfl rfl (by simp) rfl (fun v w h => h))
      · exact q_addr (b := b1) (off := 0) (off' := 4) hp (free_of rfl) (gq_some rfl rfl (by simp) rfl (fun v w h => h)) (sq_out rfl rfl (fun _ _ => rfl)) (fun ρ w h => by simp [execOp, go_sem, h]) (fun _ => rfl)
      · exact q_loadRatAt (off := 4) hp (free_of rfl) (gq_some rfl rfl (by simp) rfl (fun v w h => h)) (List.mem_iff_getElem?.2 ⟨1, rfl⟩) (.inl rfl) (Nat.le_of_ble_eq_true rfl) (sq_in 6 rfl rfl (by simp) rfl (fun v w h => h)) (fun us w hl h => ld_ivl1 hl h)
      · exact q_addr (b := b2) (off := 0) (off' := 4) hp (free_of rfl) (gq_some rfl rfl (by simp) rfl (fun v w h => h)) (sq_out rfl rfl (fun _ _ => rfl)) (fun ρ w h => by simp [execOp, go_sem, h]) (fun _ => rfl)
      · exact q_loadRatAt (off := 4) hp (free_of rfl) (gq_some rfl rfl (by simp) rfl (fun v w h => h)) (List.mem_iff_getElem?.2 ⟨0, rfl⟩) (.inl rfl) (Nat.le_of_ble_eq_true rfl) (sq_in 8 rfl rfl (by simp) rfl (fun v w h => h)) (fun us w hl h => ld_ivl1 hl h)
      · exact q_call2 (F := (Fq.pair b.num (b.den : Int)).P) (G := (Fq.pair d.num (d.den : Int)).P) hp (free_of rfl) (gq_some rfl rfl (by simp) rfl (fun v w h => h)) (enq_S_Same) (sq_in 7 rfl rfl (by simp) rfl (fun v w h => h)) (sq_in 9 rfl rfl (by simp) rfl (fun v w h => h)) (fun v v' w h h' => exSSameN h h' e2.out)
      · exact q_two (F := fun v _ => v = .bool true) (G := fun v _ => v = .bool false) hp (free_of rfl) trivial (sq_in 5 rfl rfl (by simp) rfl (fun v w h => h)) (sq_in 10 rfl rfl (by simp) rfl (fun v w h => h)) (fun ρ w hc h h' => ⟨_, by simp [execOp, go_sem, h, h'], rfl⟩)
      · exact q_assign hp (free_of rfl) trivial (sq_in 11 rfl rfl (by simp) rfl (fun v w h => h))
      intro L vs w4 nb hL hC hn E4
      have e0 : vs 0 = .pointer (some ⟨b1, 0, none⟩) := hC 0 (by simp)
      have e2 : vs 2 = .pointer (some ⟨b2, 0, none⟩) := hC 2 (by simp)
      have e4 : vs 4 = .bool true := hC 4 (by simp)
      have e5 : vs 5 = .bool true := hC 5 (by simp)
      have e6 : vs 6 = .pointer (some ⟨b1, 4, none⟩) := hC 6 (by simp)
      have e8 : vs 8 = .pointer (some ⟨b2, 4, none⟩) := hC 8 (by simp)
      have e10 : vs 10 = .bool false := hC 10 (by simp)
      have e11 : vs 11 = .bool false := hC 11 (by simp)
      have e12 : vs 12 = .bool false := hC 12 (by simp)
      have E : Fr w [(b2, 8, Fq.ivl c.num (c.den : Int) d.num (d.den : Int)), (b1, 8, Fq.ivl a.num (a.den : Int) b.num (b.den : Int))] w4 := E4
      rw [lay_all hL]
      simp only [putAll, dstOf, List.length_cons, List.length_nil, Nat.zero_add, Nat.reduceAdd, List.getElem?_toArray, List.getElem?_cons_zero, List.getElem?_cons_succ, Option.bind_some, Act.put, List.setIfInBounds_toArray, List.set_cons_succ, List.set_cons_zero]
      rw [e0, e2, e4, e5, e6, e8, e10, e11, e12]
      generalize vs 1 = u4_1
      generalize vs 3 = u4_3
      generalize vs 7 = u4_7
      generalize vs 9 = u4_9
      clear e0 e2 e4 e5 e6 e8 e10 e11 e12 hC hn E4 hL vs L nb
      go_wp2
      refine bodyPost_ret (v := .bool false) ?_ rfl (by first | exact ⟨_, rfl, E.below, by rw [e1.out, e2.out]; rfl⟩ | exact ⟨_, rfl, E.below⟩ | exact ⟨rfl, E.below⟩)
      simp [results, Tryz.results33, go_sem]
  · have e1 := hidd (decide_eq_false h1)
    clear h1
    refine region_fr (C := [Fq.is (.pointer (some ⟨b1, 0, none⟩)), Fq.pair a.num (a.den : Int), Fq.is (.pointer (some ⟨b2, 0, none⟩)), Fq.pair c.num (c.den : Int), Fq.is (.bool false), Fq.is (.bool false), Fq.is (undef), Fq.is (undef), Fq.is (undef), Fq.is (undef), Fq.is (undef), Fq.is (.bool false), Fq.is (.bool false)]) (ks := [none, none]) (new := []) E rfl (by kernel_rfl) rfl rfl (fun hp => ⟨?_, ?_, ?_, ?_, ?_, ?_, ?_, ?_, ?_, ?_, ?_, ?_, ?_, trivial⟩) ?_
    · exact q_addr (b := b1) (off := 0) (off' := 0) hp (free_of rfl) trivial (sq_out rfl rfl (fun _ _ => rfl)) (fun ρ w h => by simp [execOp, go_sem, h]) (fun _ => rfl)
    · exact q_loadRatAt (off := 0) hp (free_of rfl) trivial (List.mem_iff_getElem?.2 ⟨1, rfl⟩) (.inl rfl) (Nat.le_of_ble_eq_true rfl) (sq_in 0 rfl rfl (by simp) rfl (fun v w h => h)) (fun us w hl h => ld_ivl0 hl h)
    · exact q_addr (b := b2) (off := 0) (off' := 0) hp (free_of rfl) trivial (sq_out rfl rfl (fun _ _ => rfl)) (fun ρ w h => by simp [execOp, go_sem, h]) (fun _ => rfl)
    · exact q_loadRatAt (off := 0) hp (free_of rfl) trivial (List.mem_iff_getElem?.2 ⟨0, rfl⟩) (.inl rfl) (Nat.le_of_ble_eq_true rfl) (sq_in 2 rfl rfl (by simp) rfl (fun v w h => h)) (fun us w hl h => ld_ivl0 hl h)
    · exact q_call2 (F := (Fq.pair a.num (a.den : Int)).P) (G := (Fq.pair c.num (c.den : Int)).P) hp (free_of rfl) trivial (enq_S_Same) (sq_in 1 rfl rfl (by simp) rfl (fun v w h => h)) (sq_in 3 rfl rfl (by simp) rfl (fun v w h => h)) (fun v v' w h h' => exSSameN h h' e1.out)
    · exact q_move hp (free_of rfl) trivial (sq_in 4 rfl rfl (by simp) rfl (fun v w h => h))
    · exact q_skip hp (free_of rfl) rfl (gq_some rfl rfl (by simp) rfl (fun v w h => h)) (fun _ => rfl)
    · exact q_skip hp (free_of rfl) rfl (gq_some rfl rfl (by simp) rfl (fun v w h => h)) (fun _ => rfl)
    · exact q_skip hp (free_of rfl) rfl (gq_some rfl rfl (by simp) rfl (fun v w h => h)) (fun _ => rfl)
    · exact q_skip hp (free_of rfl) rfl (gq_some rfl rfl (by simp) rfl (fun v w h => h)) (fun _ => rfl)
    · exact q_skip hp (free_of rfl) rfl (gq_some rfl rfl (by simp) rfl (fun v w h => h)) (fun _ => rfl)
    · exact q_two (F := fun v _ => v = .bool false) (G := fun v _ => v = .bool false) hp (free_of rfl) trivial (sq_in 5 rfl rfl (by simp) rfl (fun v w h => h)) (sq_const (fun _ => rfl)) (fun ρ w hc h h' => ⟨_, by simp [execOp, go_sem, h, h'], rfl⟩)
    · exact q_assign hp (free_of rfl) trivial (sq_in 11 rfl rfl (by simp) rfl (fun v w h => h))
    intro L vs w5 nb hL hC hn E5
    have e0 : vs 0 = .pointer (some ⟨b1, 0, none⟩) := hC 0 (by simp)
    have e2 : vs 2 = .pointer (some ⟨b2, 0, none⟩) := hC 2 (by simp)
    have e4 : vs 4 = .bool false := hC 4 (by simp)
    have e5 : vs 5 = .bool false := hC 5 (by simp)
    have e6 : vs 6 = undef := hC 6 (by simp)
    have e7 : vs 7 = undef := hC 7 (by simp)
    have e8 : vs 8 = undef := hC 8 (by simp)
    have e9 : vs 9 = undef := hC 9 (by simp)
    have e10 : vs 10 = undef := hC 10 (by simp)
    have e11 : vs 11 = .bool false := hC 11 (by simp)
    have e12 : vs 12 = .bool false := hC 12 (by simp)
    have E : Fr w [(b2, 8, Fq.ivl c.num (c.den : Int) d.num (d.den : Int)), (b1, 8, Fq.ivl a.num (a.den : Int) b.num (b.den : Int))] w5 := E5
    rw [lay_all hL]
    simp only [putAll, dstOf, List.length_cons, List.length_nil, Nat.zero_add, Nat.reduceAdd, List.getElem?_toArray, List.getElem?_cons_zero, List.getElem?_cons_succ, Option.bind_some, Act.put, List.setIfInBounds_toArray, List.set_cons_succ, List.set_cons_zero]
    rw [e0, e2, e4, e5, e6, e7, e8, e9, e10, e11, e12]
    generalize vs 1 = u5_1
    generalize vs 3 = u5_3
    clear e0 e2 e4 e5 e6 e7 e8 e9 e10 e11 e12 hC hn E5 hL vs L nb
    go_wp2
    refine bodyPost_ret (v := .bool false) ?_ rfl (by first | exact ⟨_, rfl, E.below, by rw [e1.out]; rfl⟩ | exact ⟨_, rfl, E.below⟩ | exact ⟨rfl, E.below⟩)
    simp [results, Tryz.results33, go_sem]

theorem exSSameIB {w : World} {v v' : Value} {a b c d : Rat} {t : Bool} (h : Ivl w v a.num a.den b.num b.den) (h' : Ivl w v' c.num c.den d.num d.den) (ht : (decide (a = c) && decide (b = d)) = t) : Calls Tryz.prog 33 #[v, v'] w fun e w' => ∃ v', e = .returned v' ∧ Below w.heap.size w w' ∧ v' = .bool t := by
  have := exSSameI h h'
  rw [ht] at this
  exact this

set_option maxRecDepth 100000 in
set_option maxHeartbeats 4000000 in
theorem exMeetY {w : World} {v v' : Value} {a b c d : Rat} (h : Ivl w v a.num a.den b.num b.den) (h' : Ivl w v' c.num c.den d.num d.den) (ha : Rb a 100) (hb : Rb b 100) (hc : Rb c 100) (hd : Rb d 100) (hm : (greatQ a [c]) ≤ (leastQ b [d])) :
    Calls Tryz.prog 40 #[v, v'] w fun e w' => ∃ v', e = .returned v' ∧ Below w.heap.size w w' ∧ (Fq.tup2 (Fq.ivl (greatQ a [c]).num ((greatQ a [c]).den : Int) (leastQ b [d]).num ((leastQ b [d]).den : Int)) (Fq.is (.bool true))).P v' w' := by
  replace ha := hidd ha
  replace hb := hidd hb
  replace hc := hidd hc
  replace hd := hidd hd
  obtain ⟨n0_0, ao0_0, k0_0, c0_0, n0_1, ao0_1, k0_1, c0_1, n0_2, ao0_2, k0_2, c0_2, n0_3, ao0_3, k0_3, c0_3, rfl, _⟩ := h.parts
  obtain ⟨n1_0, ao1_0, k1_0, c1_0, n1_1, ao1_1, k1_1, c1_1, n1_2, ao1_2, k1_2, c1_2, n1_3, ao1_3, k1_3, c1_3, rfl, _⟩ := h'.parts
  obtain ⟨w1, b1, hw1, hb1, hs1, E⟩ := fr_start w (F := Fq.ivl a.num (a.den : Int) b.num (b.den : Int)) (us := [.bool n0_0, .slice ao0_0 k0_0 c0_0, .bool n0_1, .slice ao0_1 k0_1 c0_1, .bool n0_2, .slice ao0_2 k0_2 c0_2, .bool n0_3, .slice ao0_3 k0_3 c0_3]) 47 rfl (by simp) (tame_ivl _ _ _ _ _ _ _ _ _ _ _ _ _ _ _ _) h
  obtain ⟨w2, b2, hw2, hb2, hs2, E⟩ := fr_more E hs1 (F := Fq.ivl c.num (c.den : Int) d.num (d.den : Int)) (us := [.bool n1_0, .slice ao1_0 k1_0 c1_0, .bool n1_1, .slice ao1_1 k1_1 c1_1, .bool n1_2, .slice ao1_2 k1_2 c1_2, .bool n1_3, .slice ao1_3 k1_3 c1_3]) 47 rfl (by simp) (tame_ivl _ _ _ _ _ _ _ _ _ _ _ _ _ _ _ _) (h'.mono E.below)
  obtain ⟨w3, b3, hw3, hb3, hs3, E⟩ := fr_more E hs2 (F := Fq.ivl 0 0 0 0) (us := [.bool false, .slice none 0 0, .bool false, .slice none 0 0, .bool false, .slice none 0 0, .bool false, .slice none 0 0]) 47 rfl (by simp) (tame_ivl _ _ _ _ _ _ _ _ _ _ _ _ _ _ _ _) (Ivl.zero _)
  go_enter Tryz.func40, Tryz.ntmps40
  go_upto_region 1 with (fail)
  rw [← hw1]
  rw [← hw2]
  rw [← hw3]
  rw [← hb3]
  rw [← hb2]
  rw [← hb1]
  clear hw1 hw2 hw3 hb1 hb2 hb3 hs3 hs1 hs2
  have T1 := hidd (mt cmpQ_gt.1 (Rat.not_lt.2 hm))
  clear hm
  have B4 : Hid (Rb (leastQ a [c]) 100) := rb_least (rb_le ha.out (by omega)) (allR (rb_le hc.out (by omega)) nilR)
  have B5 : Hid (Rb (greatQ a [c]) 100) := rb_great (rb_le ha.out (by omega)) (allR (rb_le hc.out (by omega)) nilR)
  have B6 : Hid (Rb (leastQ b [d]) 100) := rb_least (rb_le hb.out (by omega)) (allR (rb_le hd.out (by omega)) nilR)
  have B7 : Hid (Rb (greatQ b [d]) 100) := rb_great (rb_le hb.out (by omega)) (allR (rb_le hd.out (by omega)) nilR)
  refine region_fr (C := [Fq.is (.pointer (some ⟨b1, 0, none⟩)), Fq.pair a.num (a.den : Int), Fq.is (.pointer (some ⟨b2, 0, none⟩)), Fq.pair c.num (c.den : Int), Fq.any, Fq.ivl (leastQ a [c]).num ((leastQ a [c]).den : Int) (greatQ a [c]).num ((greatQ a [c]).den : Int), Fq.pair (greatQ a [c]).num ((greatQ a [c]).den : Int), Fq.is (.pointer (some ⟨b1, 4, none⟩)), Fq.pair b.num (b.den : Int), Fq.is (.pointer (some ⟨b2, 4, none⟩)), Fq.pair d.num (d.den : Int), Fq.any, Fq.ivl (leastQ b [d]).num ((leastQ b [d]).den : Int) (greatQ b [d]).num ((greatQ b [d]).den : Int), Fq.pair (leastQ b [d]).num ((leastQ b [d]).den : Int), Fq.any, Fq.any, Fq.any, Fq.any]) (ks := [none, none, none]) (new := [⟨4, 4, 4, Fq.rats [(c.num, (c.den : Int))], Fq.rats [(c.num, (c.den : Int))], (some 1)⟩, ⟨11, 11, 4, Fq.rats [(d.num, (d.den : Int))], Fq.rats [(d.num, (d.den : Int))], (some 1)⟩, ⟨14, 16, 4, Fq.pair 0 0, Fq.pair (greatQ a [c]).num ((greatQ a [c]).den : Int), none⟩, ⟨15, 17, 4, Fq.pair 0 0, Fq.pair (leastQ b [d]).num ((leastQ b [d]).den : Int), none⟩]) E rfl (by kernel_rfl) rfl rfl (fun hp => ⟨?_, ?_, ?_, ?_, ?_, ?_, ?_, ?_, ?_, ?_, ?_, ?_, ?_, ?_, ?_, ?_, ?_, ?_, trivial⟩) ?_
  · exact q_addr (b := b1) (off := 0) (off' := 0) hp (free_of rfl) trivial (sq_out rfl rfl (fun _ _ => rfl)) (fun ρ w h => by simp [execOp, go_sem, h]) (fun _ => rfl)
  · exact q_loadRatAt (off := 0) hp (free_of rfl) trivial (List.mem_iff_getElem?.2 ⟨2, rfl⟩) (.inl rfl) (Nat.le_of_ble_eq_true rfl) (sq_in 0 rfl rfl (by simp) rfl (fun v w h => h)) (fun us w hl h => ld_ivl0 hl h)
  · exact q_addr (b := b2) (off := 0) (off' := 0) hp (free_of rfl) trivial (sq_out rfl rfl (fun _ _ => rfl)) (fun ρ w h => by simp [execOp, go_sem, h]) (fun _ => rfl)
  · exact q_loadRatAt (off := 0) hp (free_of rfl) trivial (List.mem_iff_getElem?.2 ⟨1, rfl⟩) (.inl rfl) (Nat.le_of_ble_eq_true rfl) (sq_in 2 rfl rfl (by simp) rfl (fun v w h => h)) (fun us w hl h => ld_ivl0 hl h)
  · exact q_buildRats1 hp (List.mem_iff_getElem?.2 ⟨0, rfl⟩) rfl rfl rfl rfl rfl (sq_in 3 rfl rfl (by simp) rfl (fun v w h => h)) (fun _ _ => trivial) (old_ne rfl) (newks_ne rfl)
  · exact q_callPSl (F := (Fq.pair a.num (a.den : Int)).P) hp (free_of rfl) trivial enq_Q_hull (List.mem_iff_getElem?.2 ⟨0, rfl⟩) rfl (sq_in 1 rfl rfl (by simp) rfl (fun v w h => h)) (own_ptr rfl rfl (by simp) rfl) (fun v bx w h hbx => exHull (a := a) (r := [c]) h hbx rfl (Nat.le_of_ble_eq_true rfl) (rb_le ha.out (by omega)) (allR (rb_le hc.out (by omega)) nilR))
  · exact q_field1 hp (free_of rfl) trivial (sq_in 5 rfl rfl (by simp) rfl (fun v w h => h)) (fun v w h => h)
  · exact q_addr (b := b1) (off := 0) (off' := 4) hp (free_of rfl) trivial (sq_out rfl rfl (fun _ _ => rfl)) (fun ρ w h => by simp [execOp, go_sem, h]) (fun _ => rfl)
  · exact q_loadRatAt (off := 4) hp (free_of rfl) trivial (List.mem_iff_getElem?.2 ⟨2, rfl⟩) (.inl rfl) (Nat.le_of_ble_eq_true rfl) (sq_in 7 rfl rfl (by simp) rfl (fun v w h => h)) (fun us w hl h => ld_ivl1 hl h)
  · exact q_addr (b := b2) (off := 0) (off' := 4) hp (free_of rfl) trivial (sq_out rfl rfl (fun _ _ => rfl)) (fun ρ w h => by simp [execOp, go_sem, h]) (fun _ => rfl)
  · exact q_loadRatAt (off := 4) hp (free_of rfl) trivial (List.mem_iff_getElem?.2 ⟨1, rfl⟩) (.inl rfl) (Nat.le_of_ble_eq_true rfl) (sq_in 9 rfl rfl (by simp) rfl (fun v w h => h)) (fun us w hl h => ld_ivl1 hl h)
  · exact q_buildRats1 hp (List.mem_iff_getElem?.2 ⟨1, rfl⟩) rfl rfl rfl rfl rfl (sq_in 10 rfl rfl (by simp) rfl (fun v w h => h)) (fun _ _ => trivial) (old_ne rfl) (newks_ne rfl)
  · exact q_callPSl (F := (Fq.pair b.num (b.den : Int)).P) hp (free_of rfl) trivial enq_Q_hull (List.mem_iff_getElem?.2 ⟨1, rfl⟩) rfl (sq_in 8 rfl rfl (by simp) rfl (fun v w h => h)) (own_ptr rfl rfl (by simp) rfl) (fun v bx w h hbx => exHull (a := b) (r := [d]) h hbx rfl (Nat.le_of_ble_eq_true rfl) (rb_le hb.out (by omega)) (allR (rb_le hd.out (by omega)) nilR))
  · exact q_field0 hp (free_of rfl) trivial (sq_in 12 rfl rfl (by simp) rfl (fun v w h => h)) (fun v w h => h)
  · exact q_allocRat hp (List.mem_iff_getElem?.2 ⟨2, rfl⟩) rfl rfl rfl rfl (Nat.ne_of_beq_eq_false rfl) (fun _ _ => trivial) (old_ne rfl) (newk_ne rfl) (fun w => Pair.zero w)
  · exact q_allocRat hp (List.mem_iff_getElem?.2 ⟨3, rfl⟩) rfl rfl rfl rfl (Nat.ne_of_beq_eq_false rfl) (fun _ _ => trivial) (old_ne rfl) (newk_ne rfl) (fun w => Pair.zero w)
  · exact q_storeNewRat hp (List.mem_iff_getElem?.2 ⟨2, rfl⟩) rfl rfl rfl (own_ptr rfl rfl (by simp) rfl) (sq_in 6 rfl rfl (by simp) rfl (fun v w h => ratV_pair h)) (fun _ _ => trivial) (old_ne rfl) (newi_ne rfl)
  · exact q_storeNewRat hp (List.mem_iff_getElem?.2 ⟨3, rfl⟩) rfl rfl rfl (own_ptr rfl rfl (by simp) rfl) (sq_in 13 rfl rfl (by simp) rfl (fun v w h => ratV_pair h)) (fun _ _ => trivial) (old_ne rfl) (newi_ne rfl)
  intro L vs w8 nb hL hC hn E8
  have e0 : vs 0 = .pointer (some ⟨b1, 0, none⟩) := hC 0 (by simp)
  have e2 : vs 2 = .pointer (some ⟨b2, 0, none⟩) := hC 2 (by simp)
  have e7 : vs 7 = .pointer (some ⟨b1, 4, none⟩) := hC 7 (by simp)
  have e9 : vs 9 = .pointer (some ⟨b2, 4, none⟩) := hC 9 (by simp)
  have e4 : vs 4 = .slice (some ⟨nb 4, 0, none⟩) 1 1 := hn _ (List.mem_iff_getElem?.2 ⟨0, rfl⟩)
  have e11 : vs 11 = .slice (some ⟨nb 11, 0, none⟩) 1 1 := hn _ (List.mem_iff_getElem?.2 ⟨1, rfl⟩)
  have e14 : vs 14 = .pointer (some ⟨nb 14, 0, none⟩) := hn _ (List.mem_iff_getElem?.2 ⟨2, rfl⟩)
  have e15 : vs 15 = .pointer (some ⟨nb 15, 0, none⟩) := hn _ (List.mem_iff_getElem?.2 ⟨3, rfl⟩)
  have E : Fr w [(nb 4, 4, Fq.rats [(c.num, (c.den : Int))]), (nb 11, 4, Fq.rats [(d.num, (d.den : Int))]), (nb 14, 4, Fq.pair (greatQ a [c]).num ((greatQ a [c]).den : Int)), (nb 15, 4, Fq.pair (leastQ b [d]).num ((leastQ b [d]).den : Int)), (b3, 8, Fq.ivl 0 0 0 0), (b2, 8, Fq.ivl c.num (c.den : Int) d.num (d.den : Int)), (b1, 8, Fq.ivl a.num (a.den : Int) b.num (b.den : Int))] w8 := E8
  rw [lay_all hL]
  simp only [putAll, dstOf, List.length_cons, List.length_nil, Nat.zero_add, Nat.reduceAdd, List.getElem?_toArray, List.getElem?_cons_zero, List.getElem?_cons_succ, Option.bind_some, Act.put, List.setIfInBounds_toArray, List.set_cons_succ, List.set_cons_zero]
  rw [e0, e2, e7, e9, e4, e11, e14, e15]
  generalize nb 4 = b8_4 at E ⊢
  generalize nb 11 = b8_11 at E ⊢
  generalize nb 14 = b8_14 at E ⊢
  generalize nb 15 = b8_15 at E ⊢
  generalize vs 1 = u8_1
  generalize vs 3 = u8_3
  generalize vs 5 = u8_5
  generalize vs 6 = u8_6
  generalize vs 8 = u8_8
  generalize vs 10 = u8_10
  generalize vs 12 = u8_12
  generalize vs 13 = u8_13
  clear e0 e2 e7 e9 e4 e11 e14 e15 hC hn E8 hL vs L nb
  go_upto_region 2 with (fail)
  refine region_fr (C := [Fq.pair (greatQ a [c]).num ((greatQ a [c]).den : Int), Fq.pair (leastQ b [d]).num ((leastQ b [d]).den : Int), Fq.is (.int .i64 (cmpQ (greatQ a [c]) (leastQ b [d]))), Fq.is (.bool false)]) (ks := [none, none, none, none, none, none, none]) (new := []) E rfl (by kernel_rfl) rfl rfl (fun hp => ⟨?_, ?_, ?_, ?_, trivial⟩) ?_
  · exact q_loadRat hp (free_of rfl) trivial (List.mem_iff_getElem?.2 ⟨2, rfl⟩) (.inl rfl) rfl (sq_out rfl rfl (fun _ _ => rfl)) (fun us w hl h => h)
  · exact q_loadRat hp (free_of rfl) trivial (List.mem_iff_getElem?.2 ⟨3, rfl⟩) (.inl rfl) rfl (sq_out rfl rfl (fun _ _ => rfl)) (fun us w hl h => h)
  · exact q_call2 (F := (Fq.pair (greatQ a [c]).num ((greatQ a [c]).den : Int)).P) (G := (Fq.pair (leastQ b [d]).num ((leastQ b [d]).den : Int)).P) hp (free_of rfl) trivial (enq_Q_Cmp) (sq_in 0 rfl rfl (by simp) rfl (fun v w h => h)) (sq_in 1 rfl rfl (by simp) rfl (fun v w h => h)) (fun v v' w h h' => exCmpQ h h' (rb_le B5.out (by omega)) (rb_le B6.out (by omega)))
  · exact q_one (F := fun v _ => v = .int .i64 (cmpQ (greatQ a [c]) (leastQ b [d]))) hp (free_of rfl) trivial (sq_in 2 rfl rfl (by simp) rfl (fun v w h => h)) (fun ρ w hc h => ⟨.bool false, by simp [execOp, go_sem, h, hc, T1.out], rfl⟩)
  intro L vs w9 nb hL hC hn E9
  have e2 : vs 2 = .int .i64 (cmpQ (greatQ a [c]) (leastQ b [d])) := hC 2 (by simp)
  have e3 : vs 3 = .bool false := hC 3 (by simp)
  have E : Fr w [(b8_4, 4, Fq.rats [(c.num, (c.den : Int))]), (b8_11, 4, Fq.rats [(d.num, (d.den : Int))]), (b8_14, 4, Fq.pair (greatQ a [c]).num ((greatQ a [c]).den : Int)), (b8_15, 4, Fq.pair (leastQ b [d]).num ((leastQ b [d]).den : Int)), (b3, 8, Fq.ivl 0 0 0 0), (b2, 8, Fq.ivl c.num (c.den : Int) d.num (d.den : Int)), (b1, 8, Fq.ivl a.num (a.den : Int) b.num (b.den : Int))] w9 := E9
  rw [lay_all hL]
  simp only [putAll, dstOf, List.length_cons, List.length_nil, Nat.zero_add, Nat.reduceAdd, List.getElem?_toArray, List.getElem?_cons_zero, List.getElem?_cons_succ, Option.bind_some, Act.put, List.setIfInBounds_toArray, List.set_cons_succ, List.set_cons_zero]
  rw [e2, e3]
  generalize vs 0 = u9_0
  generalize vs 1 = u9_1
  clear e2 e3 hC hn E9 hL vs L nb
  clear T1
  go_upto_region 4 with (fail)
  refine region_fr (C := [Fq.pair (greatQ a [c]).num ((greatQ a [c]).den : Int), Fq.pair (leastQ b [d]).num ((leastQ b [d]).den : Int), Fq.ivl (greatQ a [c]).num ((greatQ a [c]).den : Int) (leastQ b [d]).num ((leastQ b [d]).den : Int), Fq.any, Fq.is (.bool true)]) (ks := [none, none, none, none, some (3, Fq.ivl (greatQ a [c]).num ((greatQ a [c]).den : Int) (leastQ b [d]).num ((leastQ b [d]).den : Int)), none, none]) (new := []) E rfl (by kernel_rfl) rfl rfl (fun hp => ⟨?_, ?_, ?_, ?_, ?_, trivial⟩) ?_
  · exact q_loadRat hp (free_of rfl) trivial (List.mem_iff_getElem?.2 ⟨2, rfl⟩) (.inl rfl) rfl (sq_out rfl rfl (fun _ _ => rfl)) (fun us w hl h => h)
  · exact q_loadRat hp (free_of rfl) trivial (List.mem_iff_getElem?.2 ⟨3, rfl⟩) (.inl rfl) rfl (sq_out rfl rfl (fun _ _ => rfl)) (fun us w hl h => h)
  · exact q_buildIvl hp (free_of rfl) trivial (sq_in 0 rfl rfl (by simp) rfl (fun v w h => h)) (sq_in 1 rfl rfl (by simp) rfl (fun v w h => h)) (fun v w h => h)
  · exact q_storeOldIvl hp (List.mem_iff_getElem?.2 ⟨4, rfl⟩) rfl rfl (sq_out rfl rfl (fun _ _ => rfl)) (sq_in 2 rfl rfl (by simp) rfl (fun v w h => h.parts)) (fun _ _ => trivial) (newik_ne rfl)
  · exact q_assign hp (free_of rfl) trivial (sq_const (fun _ => rfl))
  intro L vs w10 nb hL hC hn E10
  have e4 : vs 4 = .bool true := hC 4 (by simp)
  have E : Fr w [(b8_4, 4, Fq.rats [(c.num, (c.den : Int))]), (b8_11, 4, Fq.rats [(d.num, (d.den : Int))]), (b8_14, 4, Fq.pair (greatQ a [c]).num ((greatQ a [c]).den : Int)), (b8_15, 4, Fq.pair (leastQ b [d]).num ((leastQ b [d]).den : Int)), (b3, 8, Fq.ivl (greatQ a [c]).num ((greatQ a [c]).den : Int) (leastQ b [d]).num ((leastQ b [d]).den : Int)), (b2, 8, Fq.ivl c.num (c.den : Int) d.num (d.den : Int)), (b1, 8, Fq.ivl a.num (a.den : Int) b.num (b.den : Int))] w10 := E10
  rw [lay_all hL]
  simp only [putAll, dstOf, List.length_cons, List.length_nil, Nat.zero_add, Nat.reduceAdd, List.getElem?_toArray, List.getElem?_cons_zero, List.getElem?_cons_succ, Option.bind_some, Act.put, List.setIfInBounds_toArray, List.set_cons_succ, List.set_cons_zero]
  rw [e4]
  generalize vs 0 = u10_0
  generalize vs 1 = u10_1
  generalize vs 2 = u10_2
  clear e4 hC hn E10 hL vs L nb
  obtain ⟨p0, p1, p2, p3, p4, p5, p6, p7, c0, c1, c2, c3, c4, c5, c6, c7, hP⟩ := box_ivl (E.box 4 rfl)
  clear B4 B5 B6 B7 ha hb hc hd
  go_wp2
  refine bodyPost_ret (v := .tuple #[.agg #[p0, p1, p2, p3, p4, p5, p6, p7], .bool true]) ?_ rfl ⟨_, rfl, E.below, ⟨_, _, rfl, hP, rfl⟩⟩
  simp [results, Tryz.results40, go_sem, c0, c1, c2, c3, c4, c5, c6, c7]

set_option maxRecDepth 100000 in
set_option maxHeartbeats 4000000 in
theorem exMeetN {w : World} {v v' : Value} {a b c d : Rat} (h : Ivl w v a.num a.den b.num b.den) (h' : Ivl w v' c.num c.den d.num d.den) (ha : Rb a 100) (hb : Rb b 100) (hc : Rb c 100) (hd : Rb d 100) (hm : (leastQ b [d]) < (greatQ a [c])) :
    Calls Tryz.prog 40 #[v, v'] w fun e w' => ∃ v', e = .returned v' ∧ Below w.heap.size w w' ∧ (Fq.tup2 (Fq.ivl 0 0 0 0) (Fq.is (.bool false))).P v' w' := by
  replace ha := hidd ha
  replace hb := hidd hb
  replace hc := hidd hc
  replace hd := hidd hd
  obtain ⟨n0_0, ao0_0, k0_0, c0_0, n0_1, ao0_1, k0_1, c0_1, n0_2, ao0_2, k0_2, c0_2, n0_3, ao0_3, k0_3, c0_3, rfl, _⟩ := h.parts
  obtain ⟨n1_0, ao1_0, k1_0, c1_0, n1_1, ao1_1, k1_1, c1_1, n1_2, ao1_2, k1_2, c1_2, n1_3, ao1_3, k1_3, c1_3, rfl, _⟩ := h'.parts
  obtain ⟨w1, b1, hw1, hb1, hs1, E⟩ := fr_start w (F := Fq.ivl a.num (a.den : Int) b.num (b.den : Int)) (us := [.bool n0_0, .slice ao0_0 k0_0 c0_0, .bool n0_1, .slice ao0_1 k0_1 c0_1, .bool n0_2, .slice ao0_2 k0_2 c0_2, .bool n0_3, .slice ao0_3 k0_3 c0_3]) 47 rfl (by simp) (tame_ivl _ _ _ _ _ _ _ _ _ _ _ _ _ _ _ _) h
  obtain ⟨w2, b2, hw2, hb2, hs2, E⟩ := fr_more E hs1 (F := Fq.ivl c.num (c.den : Int) d.num (d.den : Int)) (us := [.bool n1_0, .slice ao1_0 k1_0 c1_0, .bool n1_1, .slice ao1_1 k1_1 c1_1, .bool n1_2, .slice ao1_2 k1_2 c1_2, .bool n1_3, .slice ao1_3 k1_3 c1_3]) 47 rfl (by simp) (tame_ivl _ _ _ _ _ _ _ _ _ _ _ _ _ _ _ _) (h'.mono E.below)
  obtain ⟨w3, b3, hw3, hb3, hs3, E⟩ := fr_more E hs2 (F := Fq.ivl 0 0 0 0) (us := [.bool false, .slice none 0 0, .bool false, .slice none 0 0, .bool false, .slice none 0 0, .bool false, .slice none 0 0]) 47 rfl (by simp) (tame_ivl _ _ _ _ _ _ _ _ _ _ _ _ _ _ _ _) (Ivl.zero _)
  go_enter Tryz.func40, Tryz.ntmps40
  go_upto_region 1 with (fail)
  rw [← hw1]
  rw [← hw2]
  rw [← hw3]
  rw [← hb3]
  rw [← hb2]
  rw [← hb1]
  clear hw1 hw2 hw3 hb1 hb2 hb3 hs3 hs1 hs2
  have T1 := hidd (cmpQ_gt.2 hm)
  clear hm
  have B4 : Hid (Rb (leastQ a [c]) 100) := rb_least (rb_le ha.out (by omega)) (allR (rb_le hc.out (by omega)) nilR)
  have B5 : Hid (Rb (greatQ a [c]) 100) := rb_great (rb_le ha.out (by omega)) (allR (rb_le hc.out (by omega)) nilR)
  have B6 : Hid (Rb (leastQ b [d]) 100) := rb_least (rb_le hb.out (by omega)) (allR (rb_le hd.out (by omega)) nilR)
  have B7 : Hid (Rb (greatQ b [d]) 100) := rb_great (rb_le hb.out (by omega)) (allR (rb_le hd.out (by omega)) nilR)
  refine region_fr (C := [Fq.is (.pointer (some ⟨b1, 0, none⟩)), Fq.pair a.num (a.den : Int), Fq.is (.pointer (some ⟨b2, 0, none⟩)), Fq.pair c.num (c.den : Int), Fq.any, Fq.ivl (leastQ a [c]).num ((leastQ a [c]).den : Int) (greatQ a [c]).num ((greatQ a [c]).den : Int), Fq.pair (greatQ a [c]).num ((greatQ a [c]).den : Int), Fq.is (.pointer (some ⟨b1, 4, none⟩)), Fq.pair b.num (b.den : Int), Fq.is (.pointer (some ⟨b2, 4, none⟩)), Fq.pair d.num (d.den : Int), Fq.any, Fq.ivl (leastQ b [d]).num ((leastQ b [d]).den : Int) (greatQ b [d]).num ((greatQ b [d]).den : Int), Fq.pair (leastQ b [d]).num ((leastQ b [d]).den : Int), Fq.any, Fq.any, Fq.any, Fq.any]) (ks := [none, none, none]) (new := [⟨4, 4, 4, Fq.rats [(c.num, (c.den : Int))], Fq.rats [(c.num, (c.den : Int))], (some 1)⟩, ⟨11, 11, 4, Fq.rats [(d.num, (d.den : Int))], Fq.rats [(d.num, (d.den : Int))], (some 1)⟩, ⟨14, 16, 4, Fq.pair 0 0, Fq.pair (greatQ a [c]).num ((greatQ a [c]).den : Int), none⟩, ⟨15, 17, 4, Fq.pair 0 0, Fq.pair (leastQ b [d]).num ((leastQ b [d]).den : Int), none⟩]) E rfl (by kernel_rfl) rfl rfl (fun hp => ⟨?_, ?_, ?_, ?_, ?_, ?_, ?_, ?_, ?_, ?_, ?_, ?_, ?_, ?_, ?_, ?_, ?_, ?_, trivial⟩) ?_
  · exact q_addr (b := b1) (off := 0) (off' := 0) hp (free_of rfl) trivial (sq_out rfl rfl (fun _ _ => rfl)) (fun ρ w h => by simp [execOp, go_sem, h]) (fun _ => rfl)
  · exact q_loadRatAt (off := 0) hp (free_of rfl) trivial (List.mem_iff_getElem?.2 ⟨2, rfl⟩) (.inl rfl) (Nat.le_of_ble_eq_true rfl) (sq_in 0 rfl rfl (by simp) rfl (fun v w h => h)) (fun us w hl h => ld_ivl0 hl h)
  · exact q_addr (b := b2) (off := 0) (off' := 0) hp (free_of rfl) trivial (sq_out rfl rfl (fun _ _ => rfl)) (fun ρ w h => by simp [execOp, go_sem, h]) (fun _ => rfl)
  · exact q_loadRatAt (off := 0) hp (free_of rfl) trivial (List.mem_iff_getElem?.2 ⟨1, rfl⟩) (.inl rfl) (Nat.le_of_ble_eq_true rfl) (sq_in 2 rfl rfl (by simp) rfl (fun v w h => h)) (fun us w hl h => ld_ivl0 hl h)
  · exact q_buildRats1 hp (List.mem_iff_getElem?.2 ⟨0, rfl⟩) rfl rfl rfl rfl rfl (sq_in 3 rfl rfl (by simp) rfl (fun v w h => h)) (fun _ _ => trivial) (old_ne rfl) (newks_ne rfl)
  · exact q_callPSl (F := (Fq.pair a.num (a.den : Int)).P) hp (free_of rfl) trivial enq_Q_hull (List.mem_iff_getElem?.2 ⟨0, rfl⟩) rfl (sq_in 1 rfl rfl (by simp) rfl (fun v w h => h)) (own_ptr rfl rfl (by simp) rfl) (fun v bx w h hbx => exHull (a := a) (r := [c]) h hbx rfl (Nat.le_of_ble_eq_true rfl) (rb_le ha.out (by omega)) (allR (rb_le hc.out (by omega)) nilR))
  · exact q_field1 hp (free_of rfl) trivial (sq_in 5 rfl rfl (by simp) rfl (fun v w h => h)) (fun v w h => h)
  · exact q_addr (b := b1) (off := 0) (off' := 4) hp (free_of rfl) trivial (sq_out rfl rfl (fun _ _ => rfl)) (fun ρ w h => by simp [execOp, go_sem, h]) (fun _ => rfl)
  · exact q_loadRatAt (off := 4) hp (free_of rfl) trivial (List.mem_iff_getElem?.2 ⟨2, rfl⟩) (.inl rfl) (Nat.le_of_ble_eq_true rfl) (sq_in 7 rfl rfl (by simp) rfl (fun v w h => h)) (fun us w hl h => ld_ivl1 hl h)
  · exact q_addr (b := b2) (off := 0) (off' := 4) hp (free_of rfl) trivial (sq_out rfl rfl (fun _ _ => rfl)) (fun ρ w h => by simp [execOp, go_sem, h]) (fun _ => rfl)
  · exact q_loadRatAt (off := 4) hp (free_of rfl) trivial (List.mem_iff_getElem?.2 ⟨1, rfl⟩) (.inl rfl) (Nat.le_of_ble_eq_true rfl) (sq_in 9 rfl rfl (by simp) rfl (fun v w h => h)) (fun us w hl h => ld_ivl1 hl h)
  · exact q_buildRats1 hp (List.mem_iff_getElem?.2 ⟨1, rfl⟩) rfl rfl rfl rfl rfl (sq_in 10 rfl rfl (by simp) rfl (fun v w h => h)) (fun _ _ => trivial) (old_ne rfl) (newks_ne rfl)
  · exact q_callPSl (F := (Fq.pair b.num (b.den : Int)).P) hp (free_of rfl) trivial enq_Q_hull (List.mem_iff_getElem?.2 ⟨1, rfl⟩) rfl (sq_in 8 rfl rfl (by simp) rfl (fun v w h => h)) (own_ptr rfl rfl (by simp) rfl) (fun v bx w h hbx => exHull (a := b) (r := [d]) h hbx rfl (Nat.le_of_ble_eq_true rfl) (rb_le hb.out (by omega)) (allR (rb_le hd.out (by omega)) nilR))
  · exact q_field0 hp (free_of rfl) trivial (sq_in 12 rfl rfl (by simp) rfl (fun v w h => h)) (fun v w h => h)
  · exact q_allocRat hp (List.mem_iff_getElem?.2 ⟨2, rfl⟩) rfl rfl rfl rfl (Nat.ne_of_beq_eq_false rfl) (fun _ _ => trivial) (old_ne rfl) (newk_ne rfl) (fun w => Pair.zero w)
  · exact q_allocRat hp (List.mem_iff_getElem?.2 ⟨3, rfl⟩) rfl rfl rfl rfl (Nat.ne_of_beq_eq_false rfl) (fun _ _ => trivial) (old_ne rfl) (newk_ne rfl) (fun w => Pair.zero w)
  · exact q_storeNewRat hp (List.mem_iff_getElem?.2 ⟨2, rfl⟩) rfl rfl rfl (own_ptr rfl rfl (by simp) rfl) (sq_in 6 rfl rfl (by simp) rfl (fun v w h => ratV_pair h)) (fun _ _ => trivial) (old_ne rfl) (newi_ne rfl)
  · exact q_storeNewRat hp (List.mem_iff_getElem?.2 ⟨3, rfl⟩) rfl rfl rfl (own_ptr rfl rfl (by simp) rfl) (sq_in 13 rfl rfl (by simp) rfl (fun v w h => ratV_pair h)) (fun _ _ => trivial) (old_ne rfl) (newi_ne rfl)
  intro L vs w8 nb hL hC hn E8
  have e0 : vs 0 = .pointer (some ⟨b1, 0, none⟩) := hC 0 (by simp)
  have e2 : vs 2 = .pointer (some ⟨b2, 0, none⟩) := hC 2 (by simp)
  have e7 : vs 7 = .pointer (some ⟨b1, 4, none⟩) := hC 7 (by simp)
  have e9 : vs 9 = .pointer (some ⟨b2, 4, none⟩) := hC 9 (by simp)
  have e4 : vs 4 = .slice (some ⟨nb 4, 0, none⟩) 1 1 := hn _ (List.mem_iff_getElem?.2 ⟨0, rfl⟩)
  have e11 : vs 11 = .slice (some ⟨nb 11, 0, none⟩) 1 1 := hn _ (List.mem_iff_getElem?.2 ⟨1, rfl⟩)
  have e14 : vs 14 = .pointer (some ⟨nb 14, 0, none⟩) := hn _ (List.mem_iff_getElem?.2 ⟨2, rfl⟩)
  have e15 : vs 15 = .pointer (some ⟨nb 15, 0, none⟩) := hn _ (List.mem_iff_getElem?.2 ⟨3, rfl⟩)
  have E : Fr w [(nb 4, 4, Fq.rats [(c.num, (c.den : Int))]), (nb 11, 4, Fq.rats [(d.num, (d.den : Int))]), (nb 14, 4, Fq.pair (greatQ a [c]).num ((greatQ a [c]).den : Int)), (nb 15, 4, Fq.pair (leastQ b [d]).num ((leastQ b [d]).den : Int)), (b3, 8, Fq.ivl 0 0 0 0), (b2, 8, Fq.ivl c.num (c.den : Int) d.num (d.den : Int)), (b1, 8, Fq.ivl a.num (a.den : Int) b.num (b.den : Int))] w8 := E8
  rw [lay_all hL]
  simp only [putAll, dstOf, List.length_cons, List.length_nil, Nat.zero_add, Nat.reduceAdd, List.getElem?_toArray, List.getElem?_cons_zero, List.getElem?_cons_succ, Option.bind_some, Act.put, List.setIfInBounds_toArray, List.set_cons_succ, List.set_cons_zero]
  rw [e0, e2, e7, e9, e4, e11, e14, e15]
  generalize nb 4 = b8_4 at E ⊢
  generalize nb 11 = b8_11 at E ⊢
  generalize nb 14 = b8_14 at E ⊢
  generalize nb 15 = b8_15 at E ⊢
  generalize vs 1 = u8_1
  generalize vs 3 = u8_3
  generalize vs 5 = u8_5
  generalize vs 6 = u8_6
  generalize vs 8 = u8_8
  generalize vs 10 = u8_10
  generalize vs 12 = u8_12
  generalize vs 13 = u8_13
  clear e0 e2 e7 e9 e4 e11 e14 e15 hC hn E8 hL vs L nb
  go_upto_region 2 with (fail)
  refine region_fr (C := [Fq.pair (greatQ a [c]).num ((greatQ a [c]).den : Int), Fq.pair (leastQ b [d]).num ((leastQ b [d]).den : Int), Fq.is (.int .i64 (cmpQ (greatQ a [c]) (leastQ b [d]))), Fq.is (.bool true)]) (ks := [none, none, none, none, none, none, none]) (new := []) E rfl (by kernel_rfl) rfl rfl (fun hp => ⟨?_, ?_, ?_, ?_, trivial⟩) ?_
  · exact q_loadRat hp (free_of rfl) trivial (List.mem_iff_getElem?.2 ⟨2, rfl⟩) (.inl rfl) rfl (sq_out rfl rfl (fun _ _ => rfl)) (fun us w hl h => h)
  · exact q_loadRat hp (free_of rfl) trivial (List.mem_iff_getElem?.2 ⟨3, rfl⟩) (.inl rfl) rfl (sq_out rfl rfl (fun _ _ => rfl)) (fun us w hl h => h)
  · exact q_call2 (F := (Fq.pair (greatQ a [c]).num ((greatQ a [c]).den : Int)).P) (G := (Fq.pair (leastQ b [d]).num ((leastQ b [d]).den : Int)).P) hp (free_of rfl) trivial (enq_Q_Cmp) (sq_in 0 rfl rfl (by simp) rfl (fun v w h => h)) (sq_in 1 rfl rfl (by simp) rfl (fun v w h => h)) (fun v v' w h h' => exCmpQ h h' (rb_le B5.out (by omega)) (rb_le B6.out (by omega)))
  · exact q_one (F := fun v _ => v = .int .i64 (cmpQ (greatQ a [c]) (leastQ b [d]))) hp (free_of rfl) trivial (sq_in 2 rfl rfl (by simp) rfl (fun v w h => h)) (fun ρ w hc h => ⟨.bool true, by simp [execOp, go_sem, h, hc, T1.out], rfl⟩)
  intro L vs w9 nb hL hC hn E9
  have e2 : vs 2 = .int .i64 (cmpQ (greatQ a [c]) (leastQ b [d])) := hC 2 (by simp)
  have e3 : vs 3 = .bool true := hC 3 (by simp)
  have E : Fr w [(b8_4, 4, Fq.rats [(c.num, (c.den : Int))]), (b8_11, 4, Fq.rats [(d.num, (d.den : Int))]), (b8_14, 4, Fq.pair (greatQ a [c]).num ((greatQ a [c]).den : Int)), (b8_15, 4, Fq.pair (leastQ b [d]).num ((leastQ b [d]).den : Int)), (b3, 8, Fq.ivl 0 0 0 0), (b2, 8, Fq.ivl c.num (c.den : Int) d.num (d.den : Int)), (b1, 8, Fq.ivl a.num (a.den : Int) b.num (b.den : Int))] w9 := E9
  rw [lay_all hL]
  simp only [putAll, dstOf, List.length_cons, List.length_nil, Nat.zero_add, Nat.reduceAdd, List.getElem?_toArray, List.getElem?_cons_zero, List.getElem?_cons_succ, Option.bind_some, Act.put, List.setIfInBounds_toArray, List.set_cons_succ, List.set_cons_zero]
  rw [e2, e3]
  generalize vs 0 = u9_0
  generalize vs 1 = u9_1
  clear e2 e3 hC hn E9 hL vs L nb
  clear T1
  go_upto_region 3 with (fail)
  refine region_fr (C := [Fq.ivl 0 0 0 0, Fq.any, Fq.is (.bool false)]) (ks := [none, none, none, none, some (1, Fq.ivl 0 0 0 0), none, none]) (new := []) E rfl (by kernel_rfl) rfl rfl (fun hp => ⟨?_, ?_, ?_, trivial⟩) ?_
  · exact q_zeroIvl hp (free_of rfl) trivial (fun v w h => h)
  · exact q_storeOldIvl hp (List.mem_iff_getElem?.2 ⟨4, rfl⟩) rfl rfl (sq_out rfl rfl (fun _ _ => rfl)) (sq_in 0 rfl rfl (by simp) rfl (fun v w h => h.parts)) (fun _ _ => trivial) (newik_ne rfl)
  · exact q_assign hp (free_of rfl) trivial (sq_const (fun _ => rfl))
  intro L vs w10 nb hL hC hn E10
  have e2 : vs 2 = .bool false := hC 2 (by simp)
  have E : Fr w [(b8_4, 4, Fq.rats [(c.num, (c.den : Int))]), (b8_11, 4, Fq.rats [(d.num, (d.den : Int))]), (b8_14, 4, Fq.pair (greatQ a [c]).num ((greatQ a [c]).den : Int)), (b8_15, 4, Fq.pair (leastQ b [d]).num ((leastQ b [d]).den : Int)), (b3, 8, Fq.ivl 0 0 0 0), (b2, 8, Fq.ivl c.num (c.den : Int) d.num (d.den : Int)), (b1, 8, Fq.ivl a.num (a.den : Int) b.num (b.den : Int))] w10 := E10
  rw [lay_all hL]
  simp only [putAll, dstOf, List.length_cons, List.length_nil, Nat.zero_add, Nat.reduceAdd, List.getElem?_toArray, List.getElem?_cons_zero, List.getElem?_cons_succ, Option.bind_some, Act.put, List.setIfInBounds_toArray, List.set_cons_succ, List.set_cons_zero]
  rw [e2]
  generalize vs 0 = u10_0
  clear e2 hC hn E10 hL vs L nb
  obtain ⟨p0, p1, p2, p3, p4, p5, p6, p7, c0, c1, c2, c3, c4, c5, c6, c7, hP⟩ := box_ivl (E.box 4 rfl)
  clear B4 B5 B6 B7 ha hb hc hd
  go_wp2
  refine bodyPost_ret (v := .tuple #[.agg #[p0, p1, p2, p3, p4, p5, p6, p7], .bool false]) ?_ rfl ⟨_, rfl, E.below, ⟨_, _, rfl, hP, rfl⟩⟩
  simp [results, Tryz.results40, go_sem, c0, c1, c2, c3, c4, c5, c6, c7]

set_option maxRecDepth 100000 in
set_option maxHeartbeats 4000000 in
theorem exInside {w : World} {v v' : Value} {a b c d : Rat} (h : Ivl w v a.num a.den b.num b.den) (h' : Ivl w v' c.num c.den d.num d.den) (ha : Rb a 100) (hb : Rb b 100) (hc : Rb c 100) (hd : Rb d 100) :
    Calls Tryz.prog 41 #[v, v'] w fun e w' => ∃ v', e = .returned v' ∧ Below w.heap.size w w' ∧ v' = .bool ((decide (c ≤ a) && decide (a ≤ d)) && (decide (c ≤ b) && decide (b ≤ d))) := by
  replace ha := hidd ha
  replace hb := hidd hb
  replace hc := hidd hc
  replace hd := hidd hd
  obtain ⟨n0_0, ao0_0, k0_0, c0_0, n0_1, ao0_1, k0_1, c0_1, n0_2, ao0_2, k0_2, c0_2, n0_3, ao0_3, k0_3, c0_3, rfl, _⟩ := h.parts
  obtain ⟨n1_0, ao1_0, k1_0, c1_0, n1_1, ao1_1, k1_1, c1_1, n1_2, ao1_2, k1_2, c1_2, n1_3, ao1_3, k1_3, c1_3, rfl, _⟩ := h'.parts
  obtain ⟨w1, b1, hw1, hb1, hs1, E⟩ := fr_start w (F := Fq.ivl a.num (a.den : Int) b.num (b.den : Int)) (us := [.bool n0_0, .slice ao0_0 k0_0 c0_0, .bool n0_1, .slice ao0_1 k0_1 c0_1, .bool n0_2, .slice ao0_2 k0_2 c0_2, .bool n0_3, .slice ao0_3 k0_3 c0_3]) 47 rfl (by simp) (tame_ivl _ _ _ _ _ _ _ _ _ _ _ _ _ _ _ _) h
  obtain ⟨w2, b2, hw2, hb2, hs2, E⟩ := fr_more E hs1 (F := Fq.ivl c.num (c.den : Int) d.num (d.den : Int)) (us := [.bool n1_0, .slice ao1_0 k1_0 c1_0, .bool n1_1, .slice ao1_1 k1_1 c1_1, .bool n1_2, .slice ao1_2 k1_2 c1_2, .bool n1_3, .slice ao1_3 k1_3 c1_3]) 47 rfl (by simp) (tame_ivl _ _ _ _ _ _ _ _ _ _ _ _ _ _ _ _) (h'.mono E.below)
  go_enter Tryz.func41, Tryz.ntmps41
  go_upto_region 1 with (fail)
  rw [← hw1]
  rw [← hw2]
  rw [← hb2]
  rw [← hb1]
  clear hw1 hw2 hb1 hb2 hs2 hs1
  by_cases h1 : (decide (c ≤ a) && decide (a ≤ d)) = true
  · have e1 := hidd h1
    by_cases h2 : (decide (c ≤ b) && decide (b ≤ d)) = true
    · have e2 := hidd h2
      clear h1 h2
      refine region_fr (C := [Fq.ivl c.num (c.den : Int) d.num (d.den : Int), Fq.is (.pointer (some ⟨b1, 0, none⟩)), Fq.pair a.num (a.den : Int), Fq.is (.bool true), Fq.is (.bool true), Fq.ivl c.num (c.den : Int) d.num (d.den : Int), Fq.is (.pointer (some ⟨b1, 4, none⟩)), Fq.pair b.num (b.den : Int), Fq.is (.bool true), Fq.is (.bool true), Fq.is (.bool true)]) (ks := [none, none]) (new := []) E rfl (by kernel_rfl) rfl rfl (fun hp => ⟨?_, ?_, ?_, ?_, ?_, ?_, ?_, ?_, ?_, ?_, ?_, trivial⟩) ?_
      · exact q_loadIvl hp (free_of rfl) trivial (List.mem_iff_getElem?.2 ⟨0, rfl⟩) (.inl rfl) rfl (sq_out rfl rfl (fun _ _ => rfl)) (fun us w hl h => h)
      · exact q_addr (b := b1) (off := 0) (off' := 0) hp (free_of rfl) trivial (sq_out rfl rfl (fun _ _ => rfl)) (fun ρ w h => by simp [execOp, go_sem, h]) (fun _ => rfl)
      · exact q_loadRatAt (off := 0) hp (free_of rfl) trivial (List.mem_iff_getElem?.2 ⟨1, rfl⟩) (.inl rfl) (Nat.le_of_ble_eq_true rfl) (sq_in 1 rfl rfl (by simp) rfl (fun v w h => h)) (fun us w hl h => ld_ivl0 hl h)
      · exact q_call2 (F := (Fq.ivl c.num (c.den : Int) d.num (d.den : Int)).P) (G := (Fq.pair a.num (a.den : Int)).P) hp (free_of rfl) trivial (enq_Q_Has) (sq_in 0 rfl rfl (by simp) rfl (fun v w h => h)) (sq_in 2 rfl rfl (by simp) rfl (fun v w h => h)) (fun v v' w h h' => exQHasB h h' (rb_le hc.out (by omega)) (rb_le hd.out (by omega)) (rb_le ha.out (by omega)) e1.out)
      · exact q_move hp (free_of rfl) trivial (sq_in 3 rfl rfl (by simp) rfl (fun v w h => h))
      · exact q_loadIvl hp (free_of rfl) (gq_some rfl rfl (by simp) rfl (fun v w h => h)) (List.mem_iff_getElem?.2 ⟨0, rfl⟩) (.inl rfl) rfl (sq_out rfl rfl (fun _ _ => rfl)) (fun us w hl h => h)
      · exact q_addr (b := b1) (off := 0) (off' := 4) hp (free_of rfl) (gq_some rfl rfl (by simp) rfl (fun v w h => h)) (sq_out rfl rfl (fun _ _ => rfl)) (fun ρ w h => by simp [execOp, go_sem, h]) (fun _ => rfl)
      · exact q_loadRatAt (off := 4) hp (free_of rfl) (gq_some rfl rfl (by simp) rfl (fun v w h => h)) (List.mem_iff_getElem?.2 ⟨1, rfl⟩) (.inl rfl) (Nat.le_of_ble_eq_true rfl) (sq_in 6 rfl rfl (by simp) rfl (fun v w h => h)) (fun us w hl h => ld_ivl1 hl h)
      · exact q_call2 (F := (Fq.ivl c.num (c.den : Int) d.num (d.den : Int)).P) (G := (Fq.pair b.num (b.den : Int)).P) hp (free_of rfl) (gq_some rfl rfl (by simp) rfl (fun v w h => h)) (enq_Q_Has) (sq_in 5 rfl rfl (by simp) rfl (fun v w h => h)) (sq_in 7 rfl rfl (by simp) rfl (fun v w h => h)) (fun v v' w h h' => exQHasB h h' (rb_le hc.out (by omega)) (rb_le hd.out (by omega)) (rb_le hb.out (by omega)) e2.out)
      · exact q_two (F := fun v _ => v = .bool true) (G := fun v _ => v = .bool true) hp (free_of rfl) trivial (sq_in 4 rfl rfl (by simp) rfl (fun v w h => h)) (sq_in 8 rfl rfl (by simp) rfl (fun v w h => h)) (fun ρ w hc h h' => ⟨_, by simp [execOp, go_sem, h, h'], rfl⟩)
      · exact q_assign hp (free_of rfl) trivial (sq_in 9 rfl rfl (by simp) rfl (fun v w h => h))
      intro L vs w3 nb hL hC hn E3
      have e1 : vs 1 = .pointer (some ⟨b1, 0, none⟩) := hC 1 (by simp)
      have e3 : vs 3 = .bool true := hC 3 (by simp)
      have e4 : vs 4 = .bool true := hC 4 (by simp)
      have e6 : vs 6 = .pointer (some ⟨b1, 4, none⟩) := hC 6 (by simp)
      have e8 : vs 8 = .bool true := hC 8 (by simp)
      have e9 : vs 9 = .bool true := hC 9 (by simp)
      have e10 : vs 10 = .bool true := hC 10 (by simp)
      have E : Fr w [(b2, 8, Fq.ivl c.num (c.den : Int) d.num (d.den : Int)), (b1, 8, Fq.ivl a.num (a.den : Int) b.num (b.den : Int))] w3 := E3
      rw [lay_all hL]
      simp only [putAll, dstOf, List.length_cons, List.length_nil, Nat.zero_add, Nat.reduceAdd, List.getElem?_toArray, List.getElem?_cons_zero, List.getElem?_cons_succ, Option.bind_some, Act.put, List.setIfInBounds_toArray, List.set_cons_succ, List.set_cons_zero]
      rw [e1, e3, e4, e6, e8, e9, e10]
      generalize vs 0 = u3_0
      generalize vs 2 = u3_2
      generalize vs 5 = u3_5
      generalize vs 7 = u3_7
      clear e1 e3 e4 e6 e8 e9 e10 hC hn E3 hL vs L nb
      clear ha hb hc hd
      go_wp2
      refine bodyPost_ret (v := .bool true) ?_ rfl (by first | exact ⟨_, rfl, E.below, by rw [e1.out, e2.out]; rfl⟩ | exact ⟨_, rfl, E.below⟩ | exact ⟨rfl, E.below⟩)
      simp [results, Tryz.results41, go_sem]
    · have e2 := hidd (Bool.eq_false_iff.2 h2)
      clear h1 h2
      refine region_fr (C := [Fq.ivl c.num (c.den : Int) d.num (d.den : Int), Fq.is (.pointer (some ⟨b1, 0, none⟩)), Fq.pair a.num (a.den : Int), Fq.is (.bool true), Fq.is (.bool true), Fq.ivl c.num (c.den : Int) d.num (d.den : Int), Fq.is (.pointer (some ⟨b1, 4, none⟩)), Fq.pair b.num (b.den : Int), Fq.is (.bool false), Fq.is (.bool false), Fq.is (.bool false)]) (ks := [none, none]) (new := []) E rfl (by kernel_rfl) rfl rfl (fun hp => ⟨?_, ?_, ?_, ?_, ?_, ?_, ?_, ?_, ?_, ?_, ?_, trivial⟩) ?_
      · exact q_loadIvl hp (free_of rfl) trivial (List.mem_iff_getElem?.2 ⟨0, rfl⟩) (.inl rfl) rfl (sq_out rfl rfl (fun _ _ => rfl)) (fun us w hl h => h)
      · exact q_addr (b := b1) (off := 0) (off' := 0) hp (free_of rfl) trivial (sq_out rfl rfl (fun _ _ => rfl)) (fun ρ w h => by simp [execOp, go_sem, h]) (fun _ => rfl)
      · exact q_loadRatAt (off := 0) hp (free_of rfl) trivial (List.mem_iff_getElem?.2 ⟨1, rfl⟩) (.inl rfl) (Nat.le_of_ble_eq_true rfl) (sq_in 1 rfl rfl (by simp) rfl (fun v w h => h)) (fun us w hl h => ld_ivl0 hl h)
      · exact q_call2 (F := (Fq.ivl c.num (c.den : Int) d.num (d.den : Int)).P) (G := (Fq.pair a.num (a.den : Int)).P) hp (free_of rfl) trivial (enq_Q_Has) (sq_in 0 rfl rfl (by simp) rfl (fun v w h => h)) (sq_in 2 rfl rfl (by simp) rfl (fun v w h => h)) (fun v v' w h h' => exQHasB h h' (rb_le hc.out (by omega)) (rb_le hd.out (by omega)) (rb_le ha.out (by omega)) e1.out)
      · exact q_move hp (free_of rfl) trivial (sq_in 3 rfl rfl (by simp) rfl (fun v w h => h))
      · exact q_loadIvl hp (free_of rfl) (gq_some rfl rfl (by simp) rfl (fun v w h => h)) (List.mem_iff_getElem?.2 ⟨0, rfl⟩) (.inl rfl) rfl (sq_out rfl rfl (fun _ _ => rfl)) (fun us w hl h => h)
      · exact q_addr (b := b1) (off := 0) (off' := 4) hp (free_of rfl) (gq_some rfl rfl (by simp) rfl (fun v w h => h)) (sq_out rfl rfl (fun _ _ => rfl)) (fun ρ w h => by simp [execOp, go_sem, h]) (fun _ => rfl)
      · exact q_loadRatAt (off := 4) hp (free_of rfl) (gq_some rfl rfl (by simp) rfl (fun v w h => h)) (List.mem_iff_getElem?.2 ⟨1, rfl⟩) (.inl rfl) (Nat.le_of_ble_eq_true rfl) (sq_in 6 rfl rfl (by simp) rfl (fun v w h => h)) (fun us w hl h => ld_ivl1 hl h)
      · exact q_call2 (F := (Fq.ivl c.num (c.den : Int) d.num (d.den : Int)).P) (G := (Fq.pair b.num (b.den : Int)).P) hp (free_of rfl) (gq_some rfl rfl (by simp) rfl (fun v w h => h)) (enq_Q_Has) (sq_in 5 rfl rfl (by simp) rfl (fun v w h => h)) (sq_in 7 rfl rfl (by simp) rfl (fun v w h => h)) (fun v v' w h h' => exQHasB h h' (rb_le hc.out (by omega)) (rb_le hd.out (by omega)) (rb_le hb.out (by omega)) e2.out)
      · exact q_two (F := fun v _ => v = .bool true) (G := fun v _ => v = .bool false) hp (free_of rfl) trivial (sq_in 4 rfl rfl (by simp) rfl (fun v w h => h)) (sq_in 8 rfl rfl (by simp) rfl (fun v w h => h)) (fun ρ w hc h h' => ⟨_, by simp [execOp, go_sem, h, h'], rfl⟩)
      · exact q_assign hp (free_of rfl) trivial (sq_in 9 rfl rfl (by simp) rfl (fun v w h => h))
      intro L vs w4 nb hL hC hn E4
      have e1 : vs 1 = .pointer (some ⟨b1, 0, none⟩) := hC 1 (by simp)
      have e3 : vs 3 = .bool true := hC 3 (by simp)
      have e4 : vs 4 = .bool true := hC 4 (by simp)
      have e6 : vs 6 = .pointer (some ⟨b1, 4, none⟩) := hC 6 (by simp)
      have e8 : vs 8 = .bool false := hC 8 (by simp)
      have e9 : vs 9 = .bool false := hC 9 (by simp)
      have e10 : vs 10 = .bool false := hC 10 (by simp)
      have E : Fr w [(b2, 8, Fq.ivl c.num (c.den : Int) d.num (d.den : Int)), (b1, 8, Fq.ivl a.num (a.den : Int) b.num (b.den : Int))] w4 := E4
      rw [lay_all hL]
      simp only [putAll, dstOf, List.length_cons, List.length_nil, Nat.zero_add, Nat.reduceAdd, List.getElem?_toArray, List.getElem?_cons_zero, List.getElem?_cons_succ, Option.bind_some, Act.put, List.setIfInBounds_toArray, List.set_cons_succ, List.set_cons_zero]
      rw [e1, e3, e4, e6, e8, e9, e10]
      generalize vs 0 = u4_0
      generalize vs 2 = u4_2
      generalize vs 5 = u4_5
      generalize vs 7 = u4_7
      clear e1 e3 e4 e6 e8 e9 e10 hC hn E4 hL vs L nb
      clear ha hb hc hd
      go_wp2
      refine bodyPost_ret (v := .bool false) ?_ rfl (by first | exact ⟨_, rfl, E.below, by rw [e1.out, e2.out]; rfl⟩ | exact ⟨_, rfl, E.below⟩ | exact ⟨rfl, E.below⟩)
      simp [results, Tryz.results41, go_sem]
  · have e1 := hidd (Bool.eq_false_iff.2 h1)
    clear h1
    refine region_fr (C := [Fq.ivl c.num (c.den : Int) d.num (d.den : Int), Fq.is (.pointer (some ⟨b1, 0, none⟩)), Fq.pair a.num (a.den : Int), Fq.is (.bool false), Fq.is (.bool false), Fq.is (undef), Fq.is (undef), Fq.is (undef), Fq.is (undef), Fq.is (.bool false), Fq.is (.bool false)]) (ks := [none, none]) (new := []) E rfl (by kernel_rfl) rfl rfl (fun hp => ⟨?_, ?_, ?_, ?_, ?_, ?_, ?_, ?_, ?_, ?_, ?_, trivial⟩) ?_
    · exact q_loadIvl hp (free_of rfl) trivial (List.mem_iff_getElem?.2 ⟨0, rfl⟩) (.inl rfl) rfl (sq_out rfl rfl (fun _ _ => rfl)) (fun us w hl h => h)
    · exact q_addr (b := b1) (off := 0) (off' := 0) hp (free_of rfl) trivial (sq_out rfl rfl (fun _ _ => rfl)) (fun ρ w h => by simp [execOp, go_sem, h]) (fun _ => rfl)
    · exact q_loadRatAt (off := 0) hp (free_of rfl) trivial (List.mem_iff_getElem?.2 ⟨1, rfl⟩) (.inl rfl) (Nat.le_of_ble_eq_true rfl) (sq_in 1 rfl rfl (by simp) rfl (fun v w h => h)) (fun us w hl h => ld_ivl0 hl h)
    · exact q_call2 (F := (Fq.ivl c.num (c.den : Int) d.num (d.den : Int)).P) (G := (Fq.pair a.num (a.den : Int)).P) hp (free_of rfl) trivial (enq_Q_Has) (sq_in 0 rfl rfl (by simp) rfl (fun v w h => h)) (sq_in 2 rfl rfl (by simp) rfl (fun v w h => h)) (fun v v' w h h' => exQHasB h h' (rb_le hc.out (by omega)) (rb_le hd.out (by omega)) (rb_le ha.out (by omega)) e1.out)
    · exact q_move hp (free_of rfl) trivial (sq_in 3 rfl rfl (by simp) rfl (fun v w h => h))
    · exact q_skip hp (free_of rfl) rfl (gq_some rfl rfl (by simp) rfl (fun v w h => h)) (fun _ => rfl)
    · exact q_skip hp (free_of rfl) rfl (gq_some rfl rfl (by simp) rfl (fun v w h => h)) (fun _ => rfl)
    · exact q_skip hp (free_of rfl) rfl (gq_some rfl rfl (by simp) rfl (fun v w h => h)) (fun _ => rfl)
    · exact q_skip hp (free_of rfl) rfl (gq_some rfl rfl (by simp) rfl (fun v w h => h)) (fun _ => rfl)
    · exact q_two (F := fun v _ => v = .bool false) (G := fun v _ => v = .bool false) hp (free_of rfl) trivial (sq_in 4 rfl rfl (by simp) rfl (fun v w h => h)) (sq_const (fun _ => rfl)) (fun ρ w hc h h' => ⟨_, by simp [execOp, go_sem, h, h'], rfl⟩)
    · exact q_assign hp (free_of rfl) trivial (sq_in 9 rfl rfl (by simp) rfl (fun v w h => h))
    intro L vs w5 nb hL hC hn E5
    have e1 : vs 1 = .pointer (some ⟨b1, 0, none⟩) := hC 1 (by simp)
    have e3 : vs 3 = .bool false := hC 3 (by simp)
    have e4 : vs 4 = .bool false := hC 4 (by simp)
    have e5 : vs 5 = undef := hC 5 (by simp)
    have e6 : vs 6 = undef := hC 6 (by simp)
    have e7 : vs 7 = undef := hC 7 (by simp)
    have e8 : vs 8 = undef := hC 8 (by simp)
    have e9 : vs 9 = .bool false := hC 9 (by simp)
    have e10 : vs 10 = .bool false := hC 10 (by simp)
    have E : Fr w [(b2, 8, Fq.ivl c.num (c.den : Int) d.num (d.den : Int)), (b1, 8, Fq.ivl a.num (a.den : Int) b.num (b.den : Int))] w5 := E5
    rw [lay_all hL]
    simp only [putAll, dstOf, List.length_cons, List.length_nil, Nat.zero_add, Nat.reduceAdd, List.getElem?_toArray, List.getElem?_cons_zero, List.getElem?_cons_succ, Option.bind_some, Act.put, List.setIfInBounds_toArray, List.set_cons_succ, List.set_cons_zero]
    rw [e1, e3, e4, e5, e6, e7, e8, e9, e10]
    generalize vs 0 = u5_0
    generalize vs 2 = u5_2
    clear e1 e3 e4 e5 e6 e7 e8 e9 e10 hC hn E5 hL vs L nb
    clear ha hb hc hd
    go_wp2
    refine bodyPost_ret (v := .bool false) ?_ rfl (by first | exact ⟨_, rfl, E.below, by rw [e1.out]; rfl⟩ | exact ⟨_, rfl, E.below⟩ | exact ⟨rfl, E.below⟩)
    simp [results, Tryz.results41, go_sem]

end Go.Proofs.YtoimphnhmpmipaaGreat

/- Walk of the law on intervals. -/
namespace Go.Proofs.YtoimphnhmpmipaaGreat
open Go Go.RowKit

theorem span_le (x y : Rat) : leastQ x [y] ≤ greatQ x [y] := Rat.le_trans (least_le [y] x).1 (le_great [y] x).1
end Go.Proofs.YtoimphnhmpmipaaGreat
