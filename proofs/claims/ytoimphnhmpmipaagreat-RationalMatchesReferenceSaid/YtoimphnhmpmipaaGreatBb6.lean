/- Va, Vb. -/
import Derived.Test.YtoimphnhmpmipaaGreatBb5
/- Walks: the reference's arithmetic of fractions. -/
namespace Go.Proofs.YtoimphnhmpmipaaGreat
open Go Go.RowKit

theorem exRCmpN {w : World} {v v' : Value} {z z' : Int} (h : Num w v z) (h' : Num w v' z') : Calls Tryz.prog 44 #[v, v'] w fun e w' => ∃ v', e = .returned v' ∧ Below w.heap.size w w' ∧ v' = .int .i64 (cmpI z z') :=
  (RCmpV h h').mono fun _ _ hh => ⟨_, hh.1, hh.2, rfl⟩

set_option maxRecDepth 100000 in
set_option maxHeartbeats 4000000 in
theorem exSAddQ {w : World} {v v' : Value} {a b : Rat} (h : Pair w v a.num a.den) (h' : Pair w v' b.num b.den) (ha : Rb a 300) (hb : Rb b 300) :
    Calls Tryz.prog 15 #[v, v'] w fun e w' => ∃ v', e = .returned v' ∧ Below w.heap.size w w' ∧ Pair w' v' (a + b).num ((a + b).den : Int) := by
  replace ha := hidd ha
  replace hb := hidd hb
  obtain ⟨n0, ao0, k0, c0, n0', ao0', k0', c0', rfl, _⟩ := ratV_pair h
  obtain ⟨n1, ao1, k1, c1, n1', ao1', k1', c1', rfl, _⟩ := ratV_pair h'
  obtain ⟨w1, b1, hw1, hb1, hs1, E⟩ := fr_start w (F := Fq.pair a.num (a.den : Int)) (us := [.bool n0, .slice ao0 k0 c0, .bool n0', .slice ao0' k0' c0']) 31 rfl (by simp) (tame_rat _ _ _ _ _ _ _ _) h
  obtain ⟨w2, b2, hw2, hb2, hs2, E⟩ := fr_more E hs1 (F := Fq.pair b.num (b.den : Int)) (us := [.bool n1, .slice ao1 k1 c1, .bool n1', .slice ao1' k1' c1']) 31 rfl (by simp) (tame_rat _ _ _ _ _ _ _ _) (h'.mono E.below)
  obtain ⟨w3, b3, hw3, hb3, hs3, E⟩ := fr_more E hs2 (F := Fq.pair 0 0) (us := [.bool false, .slice none 0 0, .bool false, .slice none 0 0]) 31 rfl (by simp) (tame_rat _ _ _ _ _ _ _ _) (Pair.zero _)
  go_enter Tryz.func15, Tryz.ntmps15
  go_upto_region 1 with (fail)
  rw [← hw1]
  rw [← hw2]
  rw [← hw3]
  rw [← hb3]
  rw [← hb2]
  rw [← hb1]
  clear hw1 hw2 hw3 hb1 hb2 hb3 hs3 hs1 hs2
  have B4 : Hid (ab ((a.num * (b.den : Int))) < pw 600) := ab_mulM ha.out.1 hb.out.2 (by omega)
  have B5 : Hid (ab ((b.num * (a.den : Int))) < pw 600) := ab_mulM hb.out.1 ha.out.2 (by omega)
  have B6 : Hid (ab (((a.num * (b.den : Int)) + (b.num * (a.den : Int)))) < pw 601) := ab_addB B4.out B5.out (by omega) (by omega)
  have B7 : Hid (ab (((a.den : Int) * (b.den : Int))) < pw 600) := ab_mulM ha.out.2 hb.out.2 (by omega)
  have B8 : Hid (Rb (Rat.divInt ((a.num * (b.den : Int)) + (b.num * (a.den : Int))) ((a.den : Int) * (b.den : Int))) 601) := rb_divInt (den_mul_ne a b) (Int.lt_of_lt_of_le B6.out (pw_le (by omega))) (Int.lt_of_lt_of_le B7.out (pw_le (by omega)))
  refine region_fr (C := [Fq.is (.pointer (some ⟨b1, 0, none⟩)), Fq.num a.num, Fq.is (.pointer (some ⟨b2, 2, none⟩)), Fq.num (b.den : Int), Fq.num (a.num * (b.den : Int)), Fq.is (.pointer (some ⟨b2, 0, none⟩)), Fq.num b.num, Fq.is (.pointer (some ⟨b1, 2, none⟩)), Fq.num (a.den : Int), Fq.num (b.num * (a.den : Int)), Fq.num ((a.num * (b.den : Int)) + (b.num * (a.den : Int))), Fq.is (.pointer (some ⟨b1, 2, none⟩)), Fq.num (a.den : Int), Fq.is (.pointer (some ⟨b2, 2, none⟩)), Fq.num (b.den : Int), Fq.num ((a.den : Int) * (b.den : Int)), Fq.pair (Rat.divInt ((a.num * (b.den : Int)) + (b.num * (a.den : Int))) ((a.den : Int) * (b.den : Int))).num ((Rat.divInt ((a.num * (b.den : Int)) + (b.num * (a.den : Int))) ((a.den : Int) * (b.den : Int))).den : Int), Fq.any]) (ks := [some (17, Fq.pair (Rat.divInt ((a.num * (b.den : Int)) + (b.num * (a.den : Int))) ((a.den : Int) * (b.den : Int))).num ((Rat.divInt ((a.num * (b.den : Int)) + (b.num * (a.den : Int))) ((a.den : Int) * (b.den : Int))).den : Int)), none, none]) (new := []) E rfl (by kernel_rfl) rfl rfl (fun hp => ⟨?_, ?_, ?_, ?_, ?_, ?_, ?_, ?_, ?_, ?_, ?_, ?_, ?_, ?_, ?_, ?_, ?_, ?_, trivial⟩) ?_
  · exact q_addr (b := b1) (off := 0) (off' := 0) hp (free_of rfl) trivial (sq_out rfl rfl (fun _ _ => rfl)) (fun ρ w h => by simp [execOp, go_sem, h]) (fun _ => rfl)
  · exact q_loadInt (off := 0) hp (free_of rfl) trivial (List.mem_iff_getElem?.2 ⟨2, rfl⟩) (.inl rfl) (Nat.le_of_ble_eq_true rfl) (sq_in 0 rfl rfl (by simp) rfl (fun v w h => h)) (fun us w hl h => ld_pn hl h)
  · exact q_addr (b := b2) (off := 0) (off' := 2) hp (free_of rfl) trivial (sq_out rfl rfl (fun _ _ => rfl)) (fun ρ w h => by simp [execOp, go_sem, h]) (fun _ => rfl)
  · exact q_loadInt (off := 2) hp (free_of rfl) trivial (List.mem_iff_getElem?.2 ⟨1, rfl⟩) (.inl rfl) (Nat.le_of_ble_eq_true rfl) (sq_in 2 rfl rfl (by simp) rfl (fun v w h => h)) (fun us w hl h => ld_pd hl h)
  · exact q_call2 (F := (Fq.num a.num).P) (G := (Fq.num (b.den : Int)).P) hp (free_of rfl) trivial (enq_R_Mul) (sq_in 1 rfl rfl (by simp) rfl (fun v w h => h)) (sq_in 3 rfl rfl (by simp) rfl (fun v w h => h)) (fun v v' w h h' => exK (RMulV h h') B4.out (by omega))
  · exact q_addr (b := b2) (off := 0) (off' := 0) hp (free_of rfl) trivial (sq_out rfl rfl (fun _ _ => rfl)) (fun ρ w h => by simp [execOp, go_sem, h]) (fun _ => rfl)
  · exact q_loadInt (off := 0) hp (free_of rfl) trivial (List.mem_iff_getElem?.2 ⟨1, rfl⟩) (.inl rfl) (Nat.le_of_ble_eq_true rfl) (sq_in 5 rfl rfl (by simp) rfl (fun v w h => h)) (fun us w hl h => ld_pn hl h)
  · exact q_addr (b := b1) (off := 0) (off' := 2) hp (free_of rfl) trivial (sq_out rfl rfl (fun _ _ => rfl)) (fun ρ w h => by simp [execOp, go_sem, h]) (fun _ => rfl)
  · exact q_loadInt (off := 2) hp (free_of rfl) trivial (List.mem_iff_getElem?.2 ⟨2, rfl⟩) (.inl rfl) (Nat.le_of_ble_eq_true rfl) (sq_in 7 rfl rfl (by simp) rfl (fun v w h => h)) (fun us w hl h => ld_pd hl h)
  · exact q_call2 (F := (Fq.num b.num).P) (G := (Fq.num (a.den : Int)).P) hp (free_of rfl) trivial (enq_R_Mul) (sq_in 6 rfl rfl (by simp) rfl (fun v w h => h)) (sq_in 8 rfl rfl (by simp) rfl (fun v w h => h)) (fun v v' w h h' => exK (RMulV h h') B5.out (by omega))
  · exact q_call2 (F := (Fq.num (a.num * (b.den : Int))).P) (G := (Fq.num (b.num * (a.den : Int))).P) hp (free_of rfl) trivial (enq_R_Add) (sq_in 4 rfl rfl (by simp) rfl (fun v w h => h)) (sq_in 9 rfl rfl (by simp) rfl (fun v w h => h)) (fun v v' w h h' => exK (RAddV h h') B6.out (by omega))
  · exact q_addr (b := b1) (off := 0) (off' := 2) hp (free_of rfl) trivial (sq_out rfl rfl (fun _ _ => rfl)) (fun ρ w h => by simp [execOp, go_sem, h]) (fun _ => rfl)
  · exact q_loadInt (off := 2) hp (free_of rfl) trivial (List.mem_iff_getElem?.2 ⟨2, rfl⟩) (.inl rfl) (Nat.le_of_ble_eq_true rfl) (sq_in 11 rfl rfl (by simp) rfl (fun v w h => h)) (fun us w hl h => ld_pd hl h)
  · exact q_addr (b := b2) (off := 0) (off' := 2) hp (free_of rfl) trivial (sq_out rfl rfl (fun _ _ => rfl)) (fun ρ w h => by simp [execOp, go_sem, h]) (fun _ => rfl)
  · exact q_loadInt (off := 2) hp (free_of rfl) trivial (List.mem_iff_getElem?.2 ⟨1, rfl⟩) (.inl rfl) (Nat.le_of_ble_eq_true rfl) (sq_in 13 rfl rfl (by simp) rfl (fun v w h => h)) (fun us w hl h => ld_pd hl h)
  · exact q_call2 (F := (Fq.num (a.den : Int)).P) (G := (Fq.num (b.den : Int)).P) hp (free_of rfl) trivial (enq_R_Mul) (sq_in 12 rfl rfl (by simp) rfl (fun v w h => h)) (sq_in 14 rfl rfl (by simp) rfl (fun v w h => h)) (fun v v' w h h' => exK (RMulV h h') B7.out (by omega))
  · exact q_call2 (F := (Fq.num ((a.num * (b.den : Int)) + (b.num * (a.den : Int)))).P) (G := (Fq.num ((a.den : Int) * (b.den : Int))).P) hp (free_of rfl) trivial (enq_S_over) (sq_in 10 rfl rfl (by simp) rfl (fun v w h => h)) (sq_in 15 rfl rfl (by simp) rfl (fun v w h => h)) (fun v v' w h h' => exSOver h h' (den_mul_ne a b) (Int.lt_of_lt_of_le B6.out (pw_le (by omega))) (Int.lt_of_lt_of_le B7.out (pw_le (by omega))))
  · exact q_storeOldRat hp (List.mem_iff_getElem?.2 ⟨0, rfl⟩) rfl rfl (sq_out rfl rfl (fun _ _ => rfl)) (sq_in 16 rfl rfl (by simp) rfl (fun v w h => ratV_pair h)) (fun _ _ => trivial) (newik_ne rfl)
  intro L vs w9 nb hL hC hn E9
  have e0 : vs 0 = .pointer (some ⟨b1, 0, none⟩) := hC 0 (by simp)
  have e2 : vs 2 = .pointer (some ⟨b2, 2, none⟩) := hC 2 (by simp)
  have e5 : vs 5 = .pointer (some ⟨b2, 0, none⟩) := hC 5 (by simp)
  have e7 : vs 7 = .pointer (some ⟨b1, 2, none⟩) := hC 7 (by simp)
  have e11 : vs 11 = .pointer (some ⟨b1, 2, none⟩) := hC 11 (by simp)
  have e13 : vs 13 = .pointer (some ⟨b2, 2, none⟩) := hC 13 (by simp)
  have E : Fr w [(b3, 4, Fq.pair (Rat.divInt ((a.num * (b.den : Int)) + (b.num * (a.den : Int))) ((a.den : Int) * (b.den : Int))).num ((Rat.divInt ((a.num * (b.den : Int)) + (b.num * (a.den : Int))) ((a.den : Int) * (b.den : Int))).den : Int)), (b2, 4, Fq.pair b.num (b.den : Int)), (b1, 4, Fq.pair a.num (a.den : Int))] w9 := E9
  rw [lay_all hL]
  simp only [putAll, dstOf, List.length_cons, List.length_nil, Nat.zero_add, Nat.reduceAdd, List.getElem?_toArray, List.getElem?_cons_zero, List.getElem?_cons_succ, Option.bind_some, Act.put, List.setIfInBounds_toArray, List.set_cons_succ, List.set_cons_zero]
  rw [e0, e2, e5, e7, e11, e13]
  generalize vs 1 = u9_1
  generalize vs 3 = u9_3
  generalize vs 4 = u9_4
  generalize vs 6 = u9_6
  generalize vs 8 = u9_8
  generalize vs 9 = u9_9
  generalize vs 10 = u9_10
  generalize vs 12 = u9_12
  generalize vs 14 = u9_14
  generalize vs 15 = u9_15
  generalize vs 16 = u9_16
  clear e0 e2 e5 e7 e11 e13 hC hn E9 hL vs L nb
  obtain ⟨p0, p1, p2, p3, c0, c1, c2, c3, hP⟩ := box_pair (E.box 0 rfl)
  clear B4 B5 B6 B7 B8 ha hb
  go_wp2
  refine bodyPost_ret (v := .agg #[p0, p1, p2, p3]) ?_ rfl ⟨_, rfl, E.below, by rw [add_div a b]; exact hP⟩
  simp [results, Tryz.results15, go_sem, c0, c1, c2, c3]

set_option maxRecDepth 100000 in
set_option maxHeartbeats 4000000 in
theorem exSMulQ {w : World} {v v' : Value} {a b : Rat} (h : Pair w v a.num a.den) (h' : Pair w v' b.num b.den) (ha : Rb a 300) (hb : Rb b 300) :
    Calls Tryz.prog 19 #[v, v'] w fun e w' => ∃ v', e = .returned v' ∧ Below w.heap.size w w' ∧ Pair w' v' (a * b).num ((a * b).den : Int) := by
  replace ha := hidd ha
  replace hb := hidd hb
  obtain ⟨n0, ao0, k0, c0, n0', ao0', k0', c0', rfl, _⟩ := ratV_pair h
  obtain ⟨n1, ao1, k1, c1, n1', ao1', k1', c1', rfl, _⟩ := ratV_pair h'
  obtain ⟨w1, b1, hw1, hb1, hs1, E⟩ := fr_start w (F := Fq.pair a.num (a.den : Int)) (us := [.bool n0, .slice ao0 k0 c0, .bool n0', .slice ao0' k0' c0']) 31 rfl (by simp) (tame_rat _ _ _ _ _ _ _ _) h
  obtain ⟨w2, b2, hw2, hb2, hs2, E⟩ := fr_more E hs1 (F := Fq.pair b.num (b.den : Int)) (us := [.bool n1, .slice ao1 k1 c1, .bool n1', .slice ao1' k1' c1']) 31 rfl (by simp) (tame_rat _ _ _ _ _ _ _ _) (h'.mono E.below)
  obtain ⟨w3, b3, hw3, hb3, hs3, E⟩ := fr_more E hs2 (F := Fq.pair 0 0) (us := [.bool false, .slice none 0 0, .bool false, .slice none 0 0]) 31 rfl (by simp) (tame_rat _ _ _ _ _ _ _ _) (Pair.zero _)
  go_enter Tryz.func19, Tryz.ntmps19
  go_upto_region 1 with (fail)
  rw [← hw1]
  rw [← hw2]
  rw [← hw3]
  rw [← hb3]
  rw [← hb2]
  rw [← hb1]
  clear hw1 hw2 hw3 hb1 hb2 hb3 hs3 hs1 hs2
  have B4 : Hid (ab ((a.num * b.num)) < pw 600) := ab_mulM ha.out.1 hb.out.1 (by omega)
  have B5 : Hid (ab (((a.den : Int) * (b.den : Int))) < pw 600) := ab_mulM ha.out.2 hb.out.2 (by omega)
  have B6 : Hid (Rb (Rat.divInt (a.num * b.num) ((a.den : Int) * (b.den : Int))) 600) := rb_divInt (den_mul_ne a b) (Int.lt_of_lt_of_le B4.out (pw_le (by omega))) (Int.lt_of_lt_of_le B5.out (pw_le (by omega)))
  refine region_fr (C := [Fq.is (.pointer (some ⟨b1, 0, none⟩)), Fq.num a.num, Fq.is (.pointer (some ⟨b2, 0, none⟩)), Fq.num b.num, Fq.num (a.num * b.num), Fq.is (.pointer (some ⟨b1, 2, none⟩)), Fq.num (a.den : Int), Fq.is (.pointer (some ⟨b2, 2, none⟩)), Fq.num (b.den : Int), Fq.num ((a.den : Int) * (b.den : Int)), Fq.pair (Rat.divInt (a.num * b.num) ((a.den : Int) * (b.den : Int))).num ((Rat.divInt (a.num * b.num) ((a.den : Int) * (b.den : Int))).den : Int), Fq.any]) (ks := [some (11, Fq.pair (Rat.divInt (a.num * b.num) ((a.den : Int) * (b.den : Int))).num ((Rat.divInt (a.num * b.num) ((a.den : Int) * (b.den : Int))).den : Int)), none, none]) (new := []) E rfl (by kernel_rfl) rfl rfl (fun hp => ⟨?_, ?_, ?_, ?_, ?_, ?_, ?_, ?_, ?_, ?_, ?_, ?_, trivial⟩) ?_
  · exact q_addr (b := b1) (off := 0) (off' := 0) hp (free_of rfl) trivial (sq_out rfl rfl (fun _ _ => rfl)) (fun ρ w h => by simp [execOp, go_sem, h]) (fun _ => rfl)
  · exact q_loadInt (off := 0) hp (free_of rfl) trivial (List.mem_iff_getElem?.2 ⟨2, rfl⟩) (.inl rfl) (Nat.le_of_ble_eq_true rfl) (sq_in 0 rfl rfl (by simp) rfl (fun v w h => h)) (fun us w hl h => ld_pn hl h)
  · exact q_addr (b := b2) (off := 0) (off' := 0) hp (free_of rfl) trivial (sq_out rfl rfl (fun _ _ => rfl)) (fun ρ w h => by simp [execOp, go_sem, h]) (fun _ => rfl)
  · exact q_loadInt (off := 0) hp (free_of rfl) trivial (List.mem_iff_getElem?.2 ⟨1, rfl⟩) (.inl rfl) (Nat.le_of_ble_eq_true rfl) (sq_in 2 rfl rfl (by simp) rfl (fun v w h => h)) (fun us w hl h => ld_pn hl h)
  · exact q_call2 (F := (Fq.num a.num).P) (G := (Fq.num b.num).P) hp (free_of rfl) trivial (enq_R_Mul) (sq_in 1 rfl rfl (by simp) rfl (fun v w h => h)) (sq_in 3 rfl rfl (by simp) rfl (fun v w h => h)) (fun v v' w h h' => exK (RMulV h h') B4.out (by omega))
  · exact q_addr (b := b1) (off := 0) (off' := 2) hp (free_of rfl) trivial (sq_out rfl rfl (fun _ _ => rfl)) (fun ρ w h => by simp [execOp, go_sem, h]) (fun _ => rfl)
  · exact q_loadInt (off := 2) hp (free_of rfl) trivial (List.mem_iff_getElem?.2 ⟨2, rfl⟩) (.inl rfl) (Nat.le_of_ble_eq_true rfl) (sq_in 5 rfl rfl (by simp) rfl (fun v w h => h)) (fun us w hl h => ld_pd hl h)
  · exact q_addr (b := b2) (off := 0) (off' := 2) hp (free_of rfl) trivial (sq_out rfl rfl (fun _ _ => rfl)) (fun ρ w h => by simp [execOp, go_sem, h]) (fun _ => rfl)
  · exact q_loadInt (off := 2) hp (free_of rfl) trivial (List.mem_iff_getElem?.2 ⟨1, rfl⟩) (.inl rfl) (Nat.le_of_ble_eq_true rfl) (sq_in 7 rfl rfl (by simp) rfl (fun v w h => h)) (fun us w hl h => ld_pd hl h)
  · exact q_call2 (F := (Fq.num (a.den : Int)).P) (G := (Fq.num (b.den : Int)).P) hp (free_of rfl) trivial (enq_R_Mul) (sq_in 6 rfl rfl (by simp) rfl (fun v w h => h)) (sq_in 8 rfl rfl (by simp) rfl (fun v w h => h)) (fun v v' w h h' => exK (RMulV h h') B5.out (by omega))
  · exact q_call2 (F := (Fq.num (a.num * b.num)).P) (G := (Fq.num ((a.den : Int) * (b.den : Int))).P) hp (free_of rfl) trivial (enq_S_over) (sq_in 4 rfl rfl (by simp) rfl (fun v w h => h)) (sq_in 9 rfl rfl (by simp) rfl (fun v w h => h)) (fun v v' w h h' => exSOver h h' (den_mul_ne a b) (Int.lt_of_lt_of_le B4.out (pw_le (by omega))) (Int.lt_of_lt_of_le B5.out (pw_le (by omega))))
  · exact q_storeOldRat hp (List.mem_iff_getElem?.2 ⟨0, rfl⟩) rfl rfl (sq_out rfl rfl (fun _ _ => rfl)) (sq_in 10 rfl rfl (by simp) rfl (fun v w h => ratV_pair h)) (fun _ _ => trivial) (newik_ne rfl)
  intro L vs w7 nb hL hC hn E7
  have e0 : vs 0 = .pointer (some ⟨b1, 0, none⟩) := hC 0 (by simp)
  have e2 : vs 2 = .pointer (some ⟨b2, 0, none⟩) := hC 2 (by simp)
  have e5 : vs 5 = .pointer (some ⟨b1, 2, none⟩) := hC 5 (by simp)
  have e7 : vs 7 = .pointer (some ⟨b2, 2, none⟩) := hC 7 (by simp)
  have E : Fr w [(b3, 4, Fq.pair (Rat.divInt (a.num * b.num) ((a.den : Int) * (b.den : Int))).num ((Rat.divInt (a.num * b.num) ((a.den : Int) * (b.den : Int))).den : Int)), (b2, 4, Fq.pair b.num (b.den : Int)), (b1, 4, Fq.pair a.num (a.den : Int))] w7 := E7
  rw [lay_all hL]
  simp only [putAll, dstOf, List.length_cons, List.length_nil, Nat.zero_add, Nat.reduceAdd, List.getElem?_toArray, List.getElem?_cons_zero, List.getElem?_cons_succ, Option.bind_some, Act.put, List.setIfInBounds_toArray, List.set_cons_succ, List.set_cons_zero]
  rw [e0, e2, e5, e7]
  generalize vs 1 = u7_1
  generalize vs 3 = u7_3
  generalize vs 4 = u7_4
  generalize vs 6 = u7_6
  generalize vs 8 = u7_8
  generalize vs 9 = u7_9
  generalize vs 10 = u7_10
  clear e0 e2 e5 e7 hC hn E7 hL vs L nb
  obtain ⟨p0, p1, p2, p3, c0, c1, c2, c3, hP⟩ := box_pair (E.box 0 rfl)
  clear B4 B5 B6 ha hb
  go_wp2
  refine bodyPost_ret (v := .agg #[p0, p1, p2, p3]) ?_ rfl ⟨_, rfl, E.below, by rw [mul_div a b]; exact hP⟩
  simp [results, Tryz.results19, go_sem, c0, c1, c2, c3]

set_option maxRecDepth 100000 in
set_option maxHeartbeats 4000000 in
theorem exSNegQ {w : World} {v : Value} {a : Rat} (h : Pair w v a.num a.den) (ha : Rb a 300) :
    Calls Tryz.prog 51 #[v] w fun e w' => ∃ v', e = .returned v' ∧ Below w.heap.size w w' ∧ Pair w' v' (-a).num ((-a).den : Int) := by
  replace ha := hidd ha
  obtain ⟨n0, ao0, k0, c0, n0', ao0', k0', c0', rfl, _⟩ := ratV_pair h
  obtain ⟨w1, b1, hw1, hb1, hs1, E⟩ := fr_start w (F := Fq.pair a.num (a.den : Int)) (us := [.bool n0, .slice ao0 k0 c0, .bool n0', .slice ao0' k0' c0']) 31 rfl (by simp) (tame_rat _ _ _ _ _ _ _ _) h
  obtain ⟨w2, b2, hw2, hb2, hs2, E⟩ := fr_more E hs1 (F := Fq.pair 0 0) (us := [.bool false, .slice none 0 0, .bool false, .slice none 0 0]) 31 rfl (by simp) (tame_rat _ _ _ _ _ _ _ _) (Pair.zero _)
  go_enter Tryz.func51, Tryz.ntmps51
  go_upto_region 1 with (fail)
  rw [← hw1]
  rw [← hw2]
  rw [← hb2]
  rw [← hb1]
  clear hw1 hw2 hb1 hb2 hs2 hs1
  have B3 : Hid (ab ((-a.num)) < pw 300) := ab_negB ha.out.1
  refine region_fr (C := [Fq.is (.pointer (some ⟨b1, 0, none⟩)), Fq.num a.num, Fq.num (-a.num), Fq.is (.pointer (some ⟨b1, 2, none⟩)), Fq.num (a.den : Int), Fq.pair (-a.num) (a.den : Int), Fq.any]) (ks := [some (6, Fq.pair (-a.num) (a.den : Int)), none]) (new := []) E rfl (by kernel_rfl) rfl rfl (fun hp => ⟨?_, ?_, ?_, ?_, ?_, ?_, ?_, trivial⟩) ?_
  · exact q_addr (b := b1) (off := 0) (off' := 0) hp (free_of rfl) trivial (sq_out rfl rfl (fun _ _ => rfl)) (fun ρ w h => by simp [execOp, go_sem, h]) (fun _ => rfl)
  · exact q_loadInt (off := 0) hp (free_of rfl) trivial (List.mem_iff_getElem?.2 ⟨1, rfl⟩) (.inl rfl) (Nat.le_of_ble_eq_true rfl) (sq_in 0 rfl rfl (by simp) rfl (fun v w h => h)) (fun us w hl h => ld_pn hl h)
  · exact q_call1 (F := (Fq.num a.num).P) hp (free_of rfl) trivial (enq_R_Neg) (sq_in 1 rfl rfl (by simp) rfl (fun v w h => h)) (fun v w h => exK (RNegV h) B3.out (by omega))
  · exact q_addr (b := b1) (off := 0) (off' := 2) hp (free_of rfl) trivial (sq_out rfl rfl (fun _ _ => rfl)) (fun ρ w h => by simp [execOp, go_sem, h]) (fun _ => rfl)
  · exact q_loadInt (off := 2) hp (free_of rfl) trivial (List.mem_iff_getElem?.2 ⟨1, rfl⟩) (.inl rfl) (Nat.le_of_ble_eq_true rfl) (sq_in 3 rfl rfl (by simp) rfl (fun v w h => h)) (fun us w hl h => ld_pd hl h)
  · exact q_buildRat (n := (-a.num)) (d0 := (a.den : Int)) hp (free_of rfl) trivial (sq_in 2 rfl rfl (by simp) rfl (fun v w h => h)) (sq_in 4 rfl rfl (by simp) rfl (fun v w h => h)) (fun v w h => h)
  · exact q_storeOldRat hp (List.mem_iff_getElem?.2 ⟨0, rfl⟩) rfl rfl (sq_out rfl rfl (fun _ _ => rfl)) (sq_in 5 rfl rfl (by simp) rfl (fun v w h => ratV_pair h)) (fun _ _ => trivial) (newik_ne rfl)
  intro L vs w4 nb hL hC hn E4
  have e0 : vs 0 = .pointer (some ⟨b1, 0, none⟩) := hC 0 (by simp)
  have e3 : vs 3 = .pointer (some ⟨b1, 2, none⟩) := hC 3 (by simp)
  have E : Fr w [(b2, 4, Fq.pair (-a.num) (a.den : Int)), (b1, 4, Fq.pair a.num (a.den : Int))] w4 := E4
  rw [lay_all hL]
  simp only [putAll, dstOf, List.length_cons, List.length_nil, Nat.zero_add, Nat.reduceAdd, List.getElem?_toArray, List.getElem?_cons_zero, List.getElem?_cons_succ, Option.bind_some, Act.put, List.setIfInBounds_toArray, List.set_cons_succ, List.set_cons_zero]
  rw [e0, e3]
  generalize vs 1 = u4_1
  generalize vs 2 = u4_2
  generalize vs 4 = u4_4
  generalize vs 5 = u4_5
  clear e0 e3 hC hn E4 hL vs L nb
  obtain ⟨p0, p1, p2, p3, c0, c1, c2, c3, hP⟩ := box_pair (E.box 0 rfl)
  clear B3 ha
  go_wp2
  refine bodyPost_ret (v := .agg #[p0, p1, p2, p3]) ?_ rfl ⟨_, rfl, E.below, by rw [Rat.neg_num, Rat.neg_den]; exact hP⟩
  simp [results, Tryz.results51, go_sem, c0, c1, c2, c3]

set_option maxRecDepth 100000 in
set_option maxHeartbeats 4000000 in
theorem exSSubQ {w : World} {v v' : Value} {a b : Rat} (h : Pair w v a.num a.den) (h' : Pair w v' b.num b.den) (ha : Rb a 300) (hb : Rb b 300) :
    Calls Tryz.prog 17 #[v, v'] w fun e w' => ∃ v', e = .returned v' ∧ Below w.heap.size w w' ∧ Pair w' v' (a - b).num ((a - b).den : Int) := by
  replace ha := hidd ha
  replace hb := hidd hb
  obtain ⟨n0, ao0, k0, c0, n0', ao0', k0', c0', rfl, _⟩ := ratV_pair h
  obtain ⟨n1, ao1, k1, c1, n1', ao1', k1', c1', rfl, _⟩ := ratV_pair h'
  obtain ⟨w1, b1, hw1, hb1, hs1, E⟩ := fr_start w (F := Fq.pair a.num (a.den : Int)) (us := [.bool n0, .slice ao0 k0 c0, .bool n0', .slice ao0' k0' c0']) 31 rfl (by simp) (tame_rat _ _ _ _ _ _ _ _) h
  obtain ⟨w2, b2, hw2, hb2, hs2, E⟩ := fr_more E hs1 (F := Fq.pair b.num (b.den : Int)) (us := [.bool n1, .slice ao1 k1 c1, .bool n1', .slice ao1' k1' c1']) 31 rfl (by simp) (tame_rat _ _ _ _ _ _ _ _) (h'.mono E.below)
  obtain ⟨w3, b3, hw3, hb3, hs3, E⟩ := fr_more E hs2 (F := Fq.pair 0 0) (us := [.bool false, .slice none 0 0, .bool false, .slice none 0 0]) 31 rfl (by simp) (tame_rat _ _ _ _ _ _ _ _) (Pair.zero _)
  go_enter Tryz.func17, Tryz.ntmps17
  go_upto_region 1 with (fail)
  rw [← hw1]
  rw [← hw2]
  rw [← hw3]
  rw [← hb3]
  rw [← hb2]
  rw [← hb1]
  clear hw1 hw2 hw3 hb1 hb2 hb3 hs3 hs1 hs2
  have B4 : Hid (Rb (-b) 300) := rb_neg hb.out
  have B5 : Hid (Rb (a + (-b)) 601) := rb_le (rb_add ha.out B4.out) (by omega)
  refine region_fr (C := [Fq.pair a.num (a.den : Int), Fq.pair b.num (b.den : Int), Fq.pair (-b).num ((-b).den : Int), Fq.pair (a + (-b)).num ((a + (-b)).den : Int), Fq.any]) (ks := [some (4, Fq.pair (a + (-b)).num ((a + (-b)).den : Int)), none, none]) (new := []) E rfl (by kernel_rfl) rfl rfl (fun hp => ⟨?_, ?_, ?_, ?_, ?_, trivial⟩) ?_
  · exact q_loadRat hp (free_of rfl) trivial (List.mem_iff_getElem?.2 ⟨2, rfl⟩) (.inl rfl) rfl (sq_out rfl rfl (fun _ _ => rfl)) (fun us w hl h => h)
  · exact q_loadRat hp (free_of rfl) trivial (List.mem_iff_getElem?.2 ⟨1, rfl⟩) (.inl rfl) rfl (sq_out rfl rfl (fun _ _ => rfl)) (fun us w hl h => h)
  · exact q_call1 (F := (Fq.pair b.num (b.den : Int)).P) hp (free_of rfl) trivial (enq_S_Neg) (sq_in 1 rfl rfl (by simp) rfl (fun v w h => h)) (fun v w h => exSNegQ h (rb_le hb.out (by omega)))
  · exact q_call2 (F := (Fq.pair a.num (a.den : Int)).P) (G := (Fq.pair (-b).num ((-b).den : Int)).P) hp (free_of rfl) trivial (enq_S_Add) (sq_in 0 rfl rfl (by simp) rfl (fun v w h => h)) (sq_in 2 rfl rfl (by simp) rfl (fun v w h => h)) (fun v v' w h h' => exSAddQ h h' (rb_le ha.out (by omega)) (rb_le B4.out (by omega)))
  · exact q_storeOldRat hp (List.mem_iff_getElem?.2 ⟨0, rfl⟩) rfl rfl (sq_out rfl rfl (fun _ _ => rfl)) (sq_in 3 rfl rfl (by simp) rfl (fun v w h => ratV_pair h)) (fun _ _ => trivial) (newik_ne rfl)
  intro L vs w6 nb hL hC hn E6
  have E : Fr w [(b3, 4, Fq.pair (a + (-b)).num ((a + (-b)).den : Int)), (b2, 4, Fq.pair b.num (b.den : Int)), (b1, 4, Fq.pair a.num (a.den : Int))] w6 := E6
  rw [lay_all hL]
  simp only [putAll, dstOf, List.length_cons, List.length_nil, Nat.zero_add, Nat.reduceAdd, List.getElem?_toArray, List.getElem?_cons_zero, List.getElem?_cons_succ, Option.bind_some, Act.put, List.setIfInBounds_toArray, List.set_cons_succ, List.set_cons_zero]
  generalize vs 0 = u6_0
  generalize vs 1 = u6_1
  generalize vs 2 = u6_2
  generalize vs 3 = u6_3
  clear  hC hn E6 hL vs L nb
  obtain ⟨p0, p1, p2, p3, c0, c1, c2, c3, hP⟩ := box_pair (E.box 0 rfl)
  clear B4 B5 ha hb
  go_wp2
  refine bodyPost_ret (v := .agg #[p0, p1, p2, p3]) ?_ rfl ⟨_, rfl, E.below, by rw [Rat.sub_eq_add_neg]; exact hP⟩
  simp [results, Tryz.results17, go_sem, c0, c1, c2, c3]

set_option maxRecDepth 100000 in
set_option maxHeartbeats 4000000 in
theorem exSDivP {w : World} {v v' : Value} {a b : Rat} (h : Pair w v a.num a.den) (h' : Pair w v' b.num b.den) (ha : Rb a 300) (hb : Rb b 300) (h0 : b ≠ 0) :
    Calls Tryz.prog 10 #[v, v'] w fun e w' => ∃ v', e = .returned v' ∧ Below w.heap.size w w' ∧ (Fq.tup2 (Fq.pair (a / b).num ((a / b).den : Int)) (Fq.is (.int .i64 0))).P v' w' := by
  replace ha := hidd ha
  replace hb := hidd hb
  obtain ⟨n0, ao0, k0, c0, n0', ao0', k0', c0', rfl, _⟩ := ratV_pair h
  obtain ⟨n1, ao1, k1, c1, n1', ao1', k1', c1', rfl, _⟩ := ratV_pair h'
  obtain ⟨w1, b1, hw1, hb1, hs1, E⟩ := fr_start w (F := Fq.pair a.num (a.den : Int)) (us := [.bool n0, .slice ao0 k0 c0, .bool n0', .slice ao0' k0' c0']) 31 rfl (by simp) (tame_rat _ _ _ _ _ _ _ _) h
  obtain ⟨w2, b2, hw2, hb2, hs2, E⟩ := fr_more E hs1 (F := Fq.pair b.num (b.den : Int)) (us := [.bool n1, .slice ao1 k1 c1, .bool n1', .slice ao1' k1' c1']) 31 rfl (by simp) (tame_rat _ _ _ _ _ _ _ _) (h'.mono E.below)
  obtain ⟨w3, b3, hw3, hb3, hs3, E⟩ := fr_more E hs2 (F := Fq.pair 0 0) (us := [.bool false, .slice none 0 0, .bool false, .slice none 0 0]) 31 rfl (by simp) (tame_rat _ _ _ _ _ _ _ _) (Pair.zero _)
  go_enter Tryz.func10, Tryz.ntmps10
  go_upto_region 1 with (fail)
  rw [← hw1]
  rw [← hw2]
  rw [← hw3]
  rw [← hb3]
  rw [← hb2]
  rw [← hb1]
  clear hw1 hw2 hw3 hb1 hb2 hb3 hs3 hs1 hs2
  have hz : Hid ((a.den : Int) * b.num ≠ 0) := Int.mul_ne_zero (den_ne a) (num_ne h0)
  have B4 : Hid (ab ((a.num * (b.den : Int))) < pw 600) := ab_mulM ha.out.1 hb.out.2 (by omega)
  have B5 : Hid (ab (((a.den : Int) * b.num)) < pw 600) := ab_mulM ha.out.2 hb.out.1 (by omega)
  have B6 : Hid (Rb (Rat.divInt (a.num * (b.den : Int)) ((a.den : Int) * b.num)) 600) := rb_divInt hz.out (Int.lt_of_lt_of_le B4.out (pw_le (by omega))) (Int.lt_of_lt_of_le B5.out (pw_le (by omega)))
  refine region_fr (C := [Fq.is (.pointer (some ⟨b1, 0, none⟩)), Fq.num a.num, Fq.is (.pointer (some ⟨b2, 2, none⟩)), Fq.num (b.den : Int), Fq.num (a.num * (b.den : Int)), Fq.is (.pointer (some ⟨b1, 2, none⟩)), Fq.num (a.den : Int), Fq.is (.pointer (some ⟨b2, 0, none⟩)), Fq.num b.num, Fq.num ((a.den : Int) * b.num), Fq.tup2 (Fq.pair (Rat.divInt (a.num * (b.den : Int)) ((a.den : Int) * b.num)).num ((Rat.divInt (a.num * (b.den : Int)) ((a.den : Int) * b.num)).den : Int)) (Fq.is (.int .i64 0)), Fq.pair (Rat.divInt (a.num * (b.den : Int)) ((a.den : Int) * b.num)).num ((Rat.divInt (a.num * (b.den : Int)) ((a.den : Int) * b.num)).den : Int), Fq.is (.int .i64 0), Fq.any, Fq.is (.int .i64 0)]) (ks := [some (13, Fq.pair (Rat.divInt (a.num * (b.den : Int)) ((a.den : Int) * b.num)).num ((Rat.divInt (a.num * (b.den : Int)) ((a.den : Int) * b.num)).den : Int)), none, none]) (new := []) E rfl (by kernel_rfl) rfl rfl (fun hp => ⟨?_, ?_, ?_, ?_, ?_, ?_, ?_, ?_, ?_, ?_, ?_, ?_, ?_, ?_, ?_, trivial⟩) ?_
  · exact q_addr (b := b1) (off := 0) (off' := 0) hp (free_of rfl) trivial (sq_out rfl rfl (fun _ _ => rfl)) (fun ρ w h => by simp [execOp, go_sem, h]) (fun _ => rfl)
  · exact q_loadInt (off := 0) hp (free_of rfl) trivial (List.mem_iff_getElem?.2 ⟨2, rfl⟩) (.inl rfl) (Nat.le_of_ble_eq_true rfl) (sq_in 0 rfl rfl (by simp) rfl (fun v w h => h)) (fun us w hl h => ld_pn hl h)
  · exact q_addr (b := b2) (off := 0) (off' := 2) hp (free_of rfl) trivial (sq_out rfl rfl (fun _ _ => rfl)) (fun ρ w h => by simp [execOp, go_sem, h]) (fun _ => rfl)
  · exact q_loadInt (off := 2) hp (free_of rfl) trivial (List.mem_iff_getElem?.2 ⟨1, rfl⟩) (.inl rfl) (Nat.le_of_ble_eq_true rfl) (sq_in 2 rfl rfl (by simp) rfl (fun v w h => h)) (fun us w hl h => ld_pd hl h)
  · exact q_call2 (F := (Fq.num a.num).P) (G := (Fq.num (b.den : Int)).P) hp (free_of rfl) trivial (enq_R_Mul) (sq_in 1 rfl rfl (by simp) rfl (fun v w h => h)) (sq_in 3 rfl rfl (by simp) rfl (fun v w h => h)) (fun v v' w h h' => exK (RMulV h h') B4.out (by omega))
  · exact q_addr (b := b1) (off := 0) (off' := 2) hp (free_of rfl) trivial (sq_out rfl rfl (fun _ _ => rfl)) (fun ρ w h => by simp [execOp, go_sem, h]) (fun _ => rfl)
  · exact q_loadInt (off := 2) hp (free_of rfl) trivial (List.mem_iff_getElem?.2 ⟨2, rfl⟩) (.inl rfl) (Nat.le_of_ble_eq_true rfl) (sq_in 5 rfl rfl (by simp) rfl (fun v w h => h)) (fun us w hl h => ld_pd hl h)
  · exact q_addr (b := b2) (off := 0) (off' := 0) hp (free_of rfl) trivial (sq_out rfl rfl (fun _ _ => rfl)) (fun ρ w h => by simp [execOp, go_sem, h]) (fun _ => rfl)
  · exact q_loadInt (off := 0) hp (free_of rfl) trivial (List.mem_iff_getElem?.2 ⟨1, rfl⟩) (.inl rfl) (Nat.le_of_ble_eq_true rfl) (sq_in 7 rfl rfl (by simp) rfl (fun v w h => h)) (fun us w hl h => ld_pn hl h)
  · exact q_call2 (F := (Fq.num (a.den : Int)).P) (G := (Fq.num b.num).P) hp (free_of rfl) trivial (enq_R_Mul) (sq_in 6 rfl rfl (by simp) rfl (fun v w h => h)) (sq_in 8 rfl rfl (by simp) rfl (fun v w h => h)) (fun v v' w h h' => exK (RMulV h h') B5.out (by omega))
  · exact q_call2 (F := (Fq.num (a.num * (b.den : Int))).P) (G := (Fq.num ((a.den : Int) * b.num)).P) hp (free_of rfl) trivial (enq_S_New) (sq_in 4 rfl rfl (by simp) rfl (fun v w h => h)) (sq_in 9 rfl rfl (by simp) rfl (fun v w h => h)) (fun v v' w h h' => exSNewP h h' hz.out (Int.lt_of_lt_of_le B4.out (pw_le (by omega))) (Int.lt_of_lt_of_le B5.out (pw_le (by omega))))
  · exact q_extract2 hp (free_of rfl) trivial (sq_in 10 rfl rfl (by simp) rfl (fun v w h => h)) (fun v1 v2 w h1 h2 => ⟨_, rfl, h1⟩)
  · exact q_extract2 hp (free_of rfl) trivial (sq_in 10 rfl rfl (by simp) rfl (fun v w h => h)) (fun v1 v2 w h1 h2 => ⟨_, rfl, h2⟩)
  · exact q_storeOldRat hp (List.mem_iff_getElem?.2 ⟨0, rfl⟩) rfl rfl (sq_out rfl rfl (fun _ _ => rfl)) (sq_in 11 rfl rfl (by simp) rfl (fun v w h => ratV_pair h)) (fun _ _ => trivial) (newik_ne rfl)
  · exact q_assign hp (free_of rfl) trivial (sq_in 12 rfl rfl (by simp) rfl (fun v w h => h))
  intro L vs w7 nb hL hC hn E7
  have e0 : vs 0 = .pointer (some ⟨b1, 0, none⟩) := hC 0 (by simp)
  have e2 : vs 2 = .pointer (some ⟨b2, 2, none⟩) := hC 2 (by simp)
  have e5 : vs 5 = .pointer (some ⟨b1, 2, none⟩) := hC 5 (by simp)
  have e7 : vs 7 = .pointer (some ⟨b2, 0, none⟩) := hC 7 (by simp)
  have e12 : vs 12 = .int .i64 0 := hC 12 (by simp)
  have e14 : vs 14 = .int .i64 0 := hC 14 (by simp)
  have E : Fr w [(b3, 4, Fq.pair (Rat.divInt (a.num * (b.den : Int)) ((a.den : Int) * b.num)).num ((Rat.divInt (a.num * (b.den : Int)) ((a.den : Int) * b.num)).den : Int)), (b2, 4, Fq.pair b.num (b.den : Int)), (b1, 4, Fq.pair a.num (a.den : Int))] w7 := E7
  rw [lay_all hL]
  simp only [putAll, dstOf, List.length_cons, List.length_nil, Nat.zero_add, Nat.reduceAdd, List.getElem?_toArray, List.getElem?_cons_zero, List.getElem?_cons_succ, Option.bind_some, Act.put, List.setIfInBounds_toArray, List.set_cons_succ, List.set_cons_zero]
  rw [e0, e2, e5, e7, e12, e14]
  generalize vs 1 = u7_1
  generalize vs 3 = u7_3
  generalize vs 4 = u7_4
  generalize vs 6 = u7_6
  generalize vs 8 = u7_8
  generalize vs 9 = u7_9
  generalize vs 10 = u7_10
  generalize vs 11 = u7_11
  clear e0 e2 e5 e7 e12 e14 hC hn E7 hL vs L nb
  clear hz h0
  obtain ⟨p0, p1, p2, p3, c0, c1, c2, c3, hP⟩ := box_pair (E.box 0 rfl)
  clear B4 B5 B6 ha hb
  go_wp2
  refine bodyPost_ret (v := .tuple #[.agg #[p0, p1, p2, p3], .int .i64 0]) ?_ rfl ⟨_, rfl, E.below, by rw [quo_div a b]; exact ⟨_, _, rfl, hP, rfl⟩⟩
  simp [results, Tryz.results10, go_sem, c0, c1, c2, c3]

set_option maxRecDepth 100000 in
set_option maxHeartbeats 4000000 in
theorem exSDivZ {w : World} {v v' : Value} {a b : Rat} (h : Pair w v a.num a.den) (h' : Pair w v' b.num b.den) (ha : Rb a 300) (hb : Rb b 300) (h0 : b = 0) :
    Calls Tryz.prog 10 #[v, v'] w fun e w' => ∃ v', e = .returned v' ∧ Below w.heap.size w w' ∧ (Fq.tup2 (Fq.pair 0 0) (Fq.is (.int .i64 4))).P v' w' := by
  replace ha := hidd ha
  replace hb := hidd hb
  obtain ⟨n0, ao0, k0, c0, n0', ao0', k0', c0', rfl, _⟩ := ratV_pair h
  obtain ⟨n1, ao1, k1, c1, n1', ao1', k1', c1', rfl, _⟩ := ratV_pair h'
  obtain ⟨w1, b1, hw1, hb1, hs1, E⟩ := fr_start w (F := Fq.pair a.num (a.den : Int)) (us := [.bool n0, .slice ao0 k0 c0, .bool n0', .slice ao0' k0' c0']) 31 rfl (by simp) (tame_rat _ _ _ _ _ _ _ _) h
  obtain ⟨w2, b2, hw2, hb2, hs2, E⟩ := fr_more E hs1 (F := Fq.pair b.num (b.den : Int)) (us := [.bool n1, .slice ao1 k1 c1, .bool n1', .slice ao1' k1' c1']) 31 rfl (by simp) (tame_rat _ _ _ _ _ _ _ _) (h'.mono E.below)
  obtain ⟨w3, b3, hw3, hb3, hs3, E⟩ := fr_more E hs2 (F := Fq.pair 0 0) (us := [.bool false, .slice none 0 0, .bool false, .slice none 0 0]) 31 rfl (by simp) (tame_rat _ _ _ _ _ _ _ _) (Pair.zero _)
  go_enter Tryz.func10, Tryz.ntmps10
  go_upto_region 1 with (fail)
  rw [← hw1]
  rw [← hw2]
  rw [← hw3]
  rw [← hb3]
  rw [← hb2]
  rw [← hb1]
  clear hw1 hw2 hw3 hb1 hb2 hb3 hs3 hs1 hs2
  have hz : Hid ((a.den : Int) * b.num = 0) := by show _ = _; rw [h0]; exact Int.mul_zero _
  have B4 : Hid (ab ((a.num * (b.den : Int))) < pw 600) := ab_mulM ha.out.1 hb.out.2 (by omega)
  have B5 : Hid (ab (((a.den : Int) * b.num)) < pw 600) := ab_mulM ha.out.2 hb.out.1 (by omega)
  refine region_fr (C := [Fq.is (.pointer (some ⟨b1, 0, none⟩)), Fq.num a.num, Fq.is (.pointer (some ⟨b2, 2, none⟩)), Fq.num (b.den : Int), Fq.num (a.num * (b.den : Int)), Fq.is (.pointer (some ⟨b1, 2, none⟩)), Fq.num (a.den : Int), Fq.is (.pointer (some ⟨b2, 0, none⟩)), Fq.num b.num, Fq.num ((a.den : Int) * b.num), Fq.tup2 (Fq.pair 0 0) (Fq.is (.int .i64 4)), Fq.pair 0 0, Fq.is (.int .i64 4), Fq.any, Fq.is (.int .i64 4)]) (ks := [some (13, Fq.pair 0 0), none, none]) (new := []) E rfl (by kernel_rfl) rfl rfl (fun hp => ⟨?_, ?_, ?_, ?_, ?_, ?_, ?_, ?_, ?_, ?_, ?_, ?_, ?_, ?_, ?_, trivial⟩) ?_
  · exact q_addr (b := b1) (off := 0) (off' := 0) hp (free_of rfl) trivial (sq_out rfl rfl (fun _ _ => rfl)) (fun ρ w h => by simp [execOp, go_sem, h]) (fun _ => rfl)
  · exact q_loadInt (off := 0) hp (free_of rfl) trivial (List.mem_iff_getElem?.2 ⟨2, rfl⟩) (.inl rfl) (Nat.le_of_ble_eq_true rfl) (sq_in 0 rfl rfl (by simp) rfl (fun v w h => h)) (fun us w hl h => ld_pn hl h)
  · exact q_addr (b := b2) (off := 0) (off' := 2) hp (free_of rfl) trivial (sq_out rfl rfl (fun _ _ => rfl)) (fun ρ w h => by simp [execOp, go_sem, h]) (fun _ => rfl)
  · exact q_loadInt (off := 2) hp (free_of rfl) trivial (List.mem_iff_getElem?.2 ⟨1, rfl⟩) (.inl rfl) (Nat.le_of_ble_eq_true rfl) (sq_in 2 rfl rfl (by simp) rfl (fun v w h => h)) (fun us w hl h => ld_pd hl h)
  · exact q_call2 (F := (Fq.num a.num).P) (G := (Fq.num (b.den : Int)).P) hp (free_of rfl) trivial (enq_R_Mul) (sq_in 1 rfl rfl (by simp) rfl (fun v w h => h)) (sq_in 3 rfl rfl (by simp) rfl (fun v w h => h)) (fun v v' w h h' => exK (RMulV h h') B4.out (by omega))
  · exact q_addr (b := b1) (off := 0) (off' := 2) hp (free_of rfl) trivial (sq_out rfl rfl (fun _ _ => rfl)) (fun ρ w h => by simp [execOp, go_sem, h]) (fun _ => rfl)
  · exact q_loadInt (off := 2) hp (free_of rfl) trivial (List.mem_iff_getElem?.2 ⟨2, rfl⟩) (.inl rfl) (Nat.le_of_ble_eq_true rfl) (sq_in 5 rfl rfl (by simp) rfl (fun v w h => h)) (fun us w hl h => ld_pd hl h)
  · exact q_addr (b := b2) (off := 0) (off' := 0) hp (free_of rfl) trivial (sq_out rfl rfl (fun _ _ => rfl)) (fun ρ w h => by simp [execOp, go_sem, h]) (fun _ => rfl)
  · exact q_loadInt (off := 0) hp (free_of rfl) trivial (List.mem_iff_getElem?.2 ⟨1, rfl⟩) (.inl rfl) (Nat.le_of_ble_eq_true rfl) (sq_in 7 rfl rfl (by simp) rfl (fun v w h => h)) (fun us w hl h => ld_pn hl h)
  · exact q_call2 (F := (Fq.num (a.den : Int)).P) (G := (Fq.num b.num).P) hp (free_of rfl) trivial (enq_R_Mul) (sq_in 6 rfl rfl (by simp) rfl (fun v w h => h)) (sq_in 8 rfl rfl (by simp) rfl (fun v w h => h)) (fun v v' w h h' => exK (RMulV h h') B5.out (by omega))
  · exact q_call2 (F := (Fq.num (a.num * (b.den : Int))).P) (G := (Fq.num ((a.den : Int) * b.num)).P) hp (free_of rfl) trivial (enq_S_New) (sq_in 4 rfl rfl (by simp) rfl (fun v w h => h)) (sq_in 9 rfl rfl (by simp) rfl (fun v w h => h)) (fun v v' w h h' => exSNewZ h h' hz.out (Int.lt_of_lt_of_le B4.out (pw_le (by omega))) (Int.lt_of_lt_of_le B5.out (pw_le (by omega))))
  · exact q_extract2 hp (free_of rfl) trivial (sq_in 10 rfl rfl (by simp) rfl (fun v w h => h)) (fun v1 v2 w h1 h2 => ⟨_, rfl, h1⟩)
  · exact q_extract2 hp (free_of rfl) trivial (sq_in 10 rfl rfl (by simp) rfl (fun v w h => h)) (fun v1 v2 w h1 h2 => ⟨_, rfl, h2⟩)
  · exact q_storeOldRat hp (List.mem_iff_getElem?.2 ⟨0, rfl⟩) rfl rfl (sq_out rfl rfl (fun _ _ => rfl)) (sq_in 11 rfl rfl (by simp) rfl (fun v w h => ratV_pair h)) (fun _ _ => trivial) (newik_ne rfl)
  · exact q_assign hp (free_of rfl) trivial (sq_in 12 rfl rfl (by simp) rfl (fun v w h => h))
  intro L vs w6 nb hL hC hn E6
  have e0 : vs 0 = .pointer (some ⟨b1, 0, none⟩) := hC 0 (by simp)
  have e2 : vs 2 = .pointer (some ⟨b2, 2, none⟩) := hC 2 (by simp)
  have e5 : vs 5 = .pointer (some ⟨b1, 2, none⟩) := hC 5 (by simp)
  have e7 : vs 7 = .pointer (some ⟨b2, 0, none⟩) := hC 7 (by simp)
  have e12 : vs 12 = .int .i64 4 := hC 12 (by simp)
  have e14 : vs 14 = .int .i64 4 := hC 14 (by simp)
  have E : Fr w [(b3, 4, Fq.pair 0 0), (b2, 4, Fq.pair b.num (b.den : Int)), (b1, 4, Fq.pair a.num (a.den : Int))] w6 := E6
  rw [lay_all hL]
  simp only [putAll, dstOf, List.length_cons, List.length_nil, Nat.zero_add, Nat.reduceAdd, List.getElem?_toArray, List.getElem?_cons_zero, List.getElem?_cons_succ, Option.bind_some, Act.put, List.setIfInBounds_toArray, List.set_cons_succ, List.set_cons_zero]
  rw [e0, e2, e5, e7, e12, e14]
  generalize vs 1 = u6_1
  generalize vs 3 = u6_3
  generalize vs 4 = u6_4
  generalize vs 6 = u6_6
  generalize vs 8 = u6_8
  generalize vs 9 = u6_9
  generalize vs 10 = u6_10
  generalize vs 11 = u6_11
  clear e0 e2 e5 e7 e12 e14 hC hn E6 hL vs L nb
  clear hz h0
  obtain ⟨p0, p1, p2, p3, c0, c1, c2, c3, hP⟩ := box_pair (E.box 0 rfl)
  clear B4 B5 ha hb
  go_wp2
  refine bodyPost_ret (v := .tuple #[.agg #[p0, p1, p2, p3], .int .i64 4]) ?_ rfl ⟨_, rfl, E.below, ⟨_, _, rfl, hP, rfl⟩⟩
  simp [results, Tryz.results10, go_sem, c0, c1, c2, c3]

set_option maxRecDepth 100000 in
set_option maxHeartbeats 4000000 in
theorem exSCmpQ {w : World} {v v' : Value} {a b : Rat} (h : Pair w v a.num a.den) (h' : Pair w v' b.num b.den) (ha : Rb a 300) (hb : Rb b 300) :
    Calls Tryz.prog 21 #[v, v'] w fun e w' => ∃ v', e = .returned v' ∧ Below w.heap.size w w' ∧ v' = .int .i64 (cmpQ a b) := by
  replace ha := hidd ha
  replace hb := hidd hb
  obtain ⟨n0, ao0, k0, c0, n0', ao0', k0', c0', rfl, _⟩ := ratV_pair h
  obtain ⟨n1, ao1, k1, c1, n1', ao1', k1', c1', rfl, _⟩ := ratV_pair h'
  obtain ⟨w1, b1, hw1, hb1, hs1, E⟩ := fr_start w (F := Fq.pair a.num (a.den : Int)) (us := [.bool n0, .slice ao0 k0 c0, .bool n0', .slice ao0' k0' c0']) 31 rfl (by simp) (tame_rat _ _ _ _ _ _ _ _) h
  obtain ⟨w2, b2, hw2, hb2, hs2, E⟩ := fr_more E hs1 (F := Fq.pair b.num (b.den : Int)) (us := [.bool n1, .slice ao1 k1 c1, .bool n1', .slice ao1' k1' c1']) 31 rfl (by simp) (tame_rat _ _ _ _ _ _ _ _) (h'.mono E.below)
  go_enter Tryz.func21, Tryz.ntmps21
  go_upto_region 1 with (fail)
  rw [← hw1]
  rw [← hw2]
  rw [← hb2]
  rw [← hb1]
  clear hw1 hw2 hb1 hb2 hs2 hs1
  have B3 : Hid (ab ((a.num * (b.den : Int))) < pw 600) := ab_mulM ha.out.1 hb.out.2 (by omega)
  have B4 : Hid (ab ((b.num * (a.den : Int))) < pw 600) := ab_mulM hb.out.1 ha.out.2 (by omega)
  refine region_fr (C := [Fq.is (.pointer (some ⟨b1, 0, none⟩)), Fq.num a.num, Fq.is (.pointer (some ⟨b2, 2, none⟩)), Fq.num (b.den : Int), Fq.num (a.num * (b.den : Int)), Fq.is (.pointer (some ⟨b2, 0, none⟩)), Fq.num b.num, Fq.is (.pointer (some ⟨b1, 2, none⟩)), Fq.num (a.den : Int), Fq.num (b.num * (a.den : Int)), Fq.is (.int .i64 (cmpI (a.num * (b.den : Int)) (b.num * (a.den : Int)))), Fq.is (.int .i64 (cmpI (a.num * (b.den : Int)) (b.num * (a.den : Int))))]) (ks := [none, none]) (new := []) E rfl (by kernel_rfl) rfl rfl (fun hp => ⟨?_, ?_, ?_, ?_, ?_, ?_, ?_, ?_, ?_, ?_, ?_, ?_, trivial⟩) ?_
  · exact q_addr (b := b1) (off := 0) (off' := 0) hp (free_of rfl) trivial (sq_out rfl rfl (fun _ _ => rfl)) (fun ρ w h => by simp [execOp, go_sem, h]) (fun _ => rfl)
  · exact q_loadInt (off := 0) hp (free_of rfl) trivial (List.mem_iff_getElem?.2 ⟨1, rfl⟩) (.inl rfl) (Nat.le_of_ble_eq_true rfl) (sq_in 0 rfl rfl (by simp) rfl (fun v w h => h)) (fun us w hl h => ld_pn hl h)
  · exact q_addr (b := b2) (off := 0) (off' := 2) hp (free_of rfl) trivial (sq_out rfl rfl (fun _ _ => rfl)) (fun ρ w h => by simp [execOp, go_sem, h]) (fun _ => rfl)
  · exact q_loadInt (off := 2) hp (free_of rfl) trivial (List.mem_iff_getElem?.2 ⟨0, rfl⟩) (.inl rfl) (Nat.le_of_ble_eq_true rfl) (sq_in 2 rfl rfl (by simp) rfl (fun v w h => h)) (fun us w hl h => ld_pd hl h)
  · exact q_call2 (F := (Fq.num a.num).P) (G := (Fq.num (b.den : Int)).P) hp (free_of rfl) trivial (enq_R_Mul) (sq_in 1 rfl rfl (by simp) rfl (fun v w h => h)) (sq_in 3 rfl rfl (by simp) rfl (fun v w h => h)) (fun v v' w h h' => exK (RMulV h h') B3.out (by omega))
  · exact q_addr (b := b2) (off := 0) (off' := 0) hp (free_of rfl) trivial (sq_out rfl rfl (fun _ _ => rfl)) (fun ρ w h => by simp [execOp, go_sem, h]) (fun _ => rfl)
  · exact q_loadInt (off := 0) hp (free_of rfl) trivial (List.mem_iff_getElem?.2 ⟨0, rfl⟩) (.inl rfl) (Nat.le_of_ble_eq_true rfl) (sq_in 5 rfl rfl (by simp) rfl (fun v w h => h)) (fun us w hl h => ld_pn hl h)
  · exact q_addr (b := b1) (off := 0) (off' := 2) hp (free_of rfl) trivial (sq_out rfl rfl (fun _ _ => rfl)) (fun ρ w h => by simp [execOp, go_sem, h]) (fun _ => rfl)
  · exact q_loadInt (off := 2) hp (free_of rfl) trivial (List.mem_iff_getElem?.2 ⟨1, rfl⟩) (.inl rfl) (Nat.le_of_ble_eq_true rfl) (sq_in 7 rfl rfl (by simp) rfl (fun v w h => h)) (fun us w hl h => ld_pd hl h)
  · exact q_call2 (F := (Fq.num b.num).P) (G := (Fq.num (a.den : Int)).P) hp (free_of rfl) trivial (enq_R_Mul) (sq_in 6 rfl rfl (by simp) rfl (fun v w h => h)) (sq_in 8 rfl rfl (by simp) rfl (fun v w h => h)) (fun v v' w h h' => exK (RMulV h h') B4.out (by omega))
  · exact q_call2 (F := (Fq.num (a.num * (b.den : Int))).P) (G := (Fq.num (b.num * (a.den : Int))).P) hp (free_of rfl) trivial (enq_R_Cmp) (sq_in 4 rfl rfl (by simp) rfl (fun v w h => h)) (sq_in 9 rfl rfl (by simp) rfl (fun v w h => h)) (fun v v' w h h' => exRCmpN h h')
  · exact q_assign hp (free_of rfl) trivial (sq_in 10 rfl rfl (by simp) rfl (fun v w h => h))
  intro L vs w5 nb hL hC hn E5
  have e0 : vs 0 = .pointer (some ⟨b1, 0, none⟩) := hC 0 (by simp)
  have e2 : vs 2 = .pointer (some ⟨b2, 2, none⟩) := hC 2 (by simp)
  have e5 : vs 5 = .pointer (some ⟨b2, 0, none⟩) := hC 5 (by simp)
  have e7 : vs 7 = .pointer (some ⟨b1, 2, none⟩) := hC 7 (by simp)
  have e10 : vs 10 = .int .i64 (cmpI (a.num * (b.den : Int)) (b.num * (a.den : Int))) := hC 10 (by simp)
  have e11 : vs 11 = .int .i64 (cmpI (a.num * (b.den : Int)) (b.num * (a.den : Int))) := hC 11 (by simp)
  have E : Fr w [(b2, 4, Fq.pair b.num (b.den : Int)), (b1, 4, Fq.pair a.num (a.den : Int))] w5 := E5
  rw [lay_all hL]
  simp only [putAll, dstOf, List.length_cons, List.length_nil, Nat.zero_add, Nat.reduceAdd, List.getElem?_toArray, List.getElem?_cons_zero, List.getElem?_cons_succ, Option.bind_some, Act.put, List.setIfInBounds_toArray, List.set_cons_succ, List.set_cons_zero]
  rw [e0, e2, e5, e7, e10, e11]
  generalize vs 1 = u5_1
  generalize vs 3 = u5_3
  generalize vs 4 = u5_4
  generalize vs 6 = u5_6
  generalize vs 8 = u5_8
  generalize vs 9 = u5_9
  clear e0 e2 e5 e7 e10 e11 hC hn E5 hL vs L nb
  clear B3 B4 ha hb
  go_wp2
  refine bodyPost_ret (v := .int .i64 (cmpI (a.num * (b.den : Int)) (b.num * (a.den : Int)))) ?_ rfl (by first | exact ⟨_, rfl, E.below, rfl⟩ | exact ⟨_, rfl, E.below⟩ | exact ⟨rfl, E.below⟩)
  simp [results, Tryz.results21, go_sem]

set_option maxRecDepth 100000 in
set_option maxHeartbeats 4000000 in
theorem exSSignQ {w : World} {v : Value} {a : Rat} (h : Pair w v a.num a.den) (ha : Rb a 300) :
    Calls Tryz.prog 23 #[v] w fun e w' => ∃ v', e = .returned v' ∧ Below w.heap.size w w' ∧ v' = .int .i64 (cmpI a.num 0) := by
  replace ha := hidd ha
  obtain ⟨n0, ao0, k0, c0, n0', ao0', k0', c0', rfl, _⟩ := ratV_pair h
  obtain ⟨w1, b1, hw1, hb1, hs1, E⟩ := fr_start w (F := Fq.pair a.num (a.den : Int)) (us := [.bool n0, .slice ao0 k0 c0, .bool n0', .slice ao0' k0' c0']) 31 rfl (by simp) (tame_rat _ _ _ _ _ _ _ _) h
  go_enter Tryz.func23, Tryz.ntmps23
  go_upto_region 1 with (fail)
  rw [← hw1]
  rw [← hb1]
  clear hw1 hb1 hs1
  refine region_fr (C := [Fq.is (.pointer (some ⟨b1, 0, none⟩)), Fq.num a.num, Fq.is (.int .i64 (cmpI a.num 0)), Fq.is (.int .i64 (cmpI a.num 0))]) (ks := [none]) (new := []) E rfl (by kernel_rfl) rfl rfl (fun hp => ⟨?_, ?_, ?_, ?_, trivial⟩) ?_
  · exact q_addr (b := b1) (off := 0) (off' := 0) hp (free_of rfl) trivial (sq_out rfl rfl (fun _ _ => rfl)) (fun ρ w h => by simp [execOp, go_sem, h]) (fun _ => rfl)
  · exact q_loadInt (off := 0) hp (free_of rfl) trivial (List.mem_iff_getElem?.2 ⟨0, rfl⟩) (.inl rfl) (Nat.le_of_ble_eq_true rfl) (sq_in 0 rfl rfl (by simp) rfl (fun v w h => h)) (fun us w hl h => ld_pn hl h)
  · exact q_call1 (F := (Fq.num a.num).P) hp (free_of rfl) trivial (enq_R_Sign) (sq_in 1 rfl rfl (by simp) rfl (fun v w h => h)) (fun v w h => exRSign h)
  · exact q_assign hp (free_of rfl) trivial (sq_in 2 rfl rfl (by simp) rfl (fun v w h => h))
  intro L vs w2 nb hL hC hn E2
  have e0 : vs 0 = .pointer (some ⟨b1, 0, none⟩) := hC 0 (by simp)
  have e2 : vs 2 = .int .i64 (cmpI a.num 0) := hC 2 (by simp)
  have e3 : vs 3 = .int .i64 (cmpI a.num 0) := hC 3 (by simp)
  have E : Fr w [(b1, 4, Fq.pair a.num (a.den : Int))] w2 := E2
  rw [lay_all hL]
  simp only [putAll, dstOf, List.length_cons, List.length_nil, Nat.zero_add, Nat.reduceAdd, List.getElem?_toArray, List.getElem?_cons_zero, List.getElem?_cons_succ, Option.bind_some, Act.put, List.setIfInBounds_toArray, List.set_cons_succ, List.set_cons_zero]
  rw [e0, e2, e3]
  generalize vs 1 = u2_1
  clear e0 e2 e3 hC hn E2 hL vs L nb
  clear ha
  go_wp2
  refine bodyPost_ret (v := .int .i64 (cmpI a.num 0)) ?_ rfl (by first | exact ⟨_, rfl, E.below, rfl⟩ | exact ⟨_, rfl, E.below⟩ | exact ⟨rfl, E.below⟩)
  simp [results, Tryz.results23, go_sem]

set_option maxRecDepth 100000 in
set_option maxHeartbeats 4000000 in
theorem exSFloorQ {w : World} {v : Value} {a : Rat} (h : Pair w v a.num a.den) (ha : Rb a 300) :
    Calls Tryz.prog 26 #[v] w fun e w' => ∃ v', e = .returned v' ∧ Below w.heap.size w w' ∧ Num w' v' a.floor := by
  replace ha := hidd ha
  obtain ⟨n0, ao0, k0, c0, n0', ao0', k0', c0', rfl, _⟩ := ratV_pair h
  obtain ⟨w1, b1, hw1, hb1, hs1, E⟩ := fr_start w (F := Fq.pair a.num (a.den : Int)) (us := [.bool n0, .slice ao0 k0 c0, .bool n0', .slice ao0' k0' c0']) 31 rfl (by simp) (tame_rat _ _ _ _ _ _ _ _) h
  obtain ⟨w2, b2, hw2, hb2, hs2, E⟩ := fr_more E hs1 (F := Fq.num 0) (us := [.bool false, .slice none 0 0]) 29 rfl (by simp) (tame_int _ _ _ _) (Num.zero _)
  go_enter Tryz.func26, Tryz.ntmps26
  go_upto_region 1 with (fail)
  rw [← hw1]
  rw [← hw2]
  rw [← hb2]
  rw [← hb1]
  clear hw1 hw2 hb1 hb2 hs2 hs1
  have B3 : Hid (ab ((a.num / (a.den : Int))) < pw 301) := ab_divB ha.out.1 (by omega)
  refine region_fr (C := [Fq.is (.pointer (some ⟨b1, 0, none⟩)), Fq.num a.num, Fq.is (.pointer (some ⟨b1, 2, none⟩)), Fq.num (a.den : Int), Fq.num (a.num / (a.den : Int)), Fq.any]) (ks := [some (5, Fq.num (a.num / (a.den : Int))), none]) (new := []) E rfl (by kernel_rfl) rfl rfl (fun hp => ⟨?_, ?_, ?_, ?_, ?_, ?_, trivial⟩) ?_
  · exact q_addr (b := b1) (off := 0) (off' := 0) hp (free_of rfl) trivial (sq_out rfl rfl (fun _ _ => rfl)) (fun ρ w h => by simp [execOp, go_sem, h]) (fun _ => rfl)
  · exact q_loadInt (off := 0) hp (free_of rfl) trivial (List.mem_iff_getElem?.2 ⟨1, rfl⟩) (.inl rfl) (Nat.le_of_ble_eq_true rfl) (sq_in 0 rfl rfl (by simp) rfl (fun v w h => h)) (fun us w hl h => ld_pn hl h)
  · exact q_addr (b := b1) (off := 0) (off' := 2) hp (free_of rfl) trivial (sq_out rfl rfl (fun _ _ => rfl)) (fun ρ w h => by simp [execOp, go_sem, h]) (fun _ => rfl)
  · exact q_loadInt (off := 2) hp (free_of rfl) trivial (List.mem_iff_getElem?.2 ⟨1, rfl⟩) (.inl rfl) (Nat.le_of_ble_eq_true rfl) (sq_in 2 rfl rfl (by simp) rfl (fun v w h => h)) (fun us w hl h => ld_pd hl h)
  · exact q_call2 (F := (Fq.num a.num).P) (G := (Fq.num (a.den : Int)).P) hp (free_of rfl) trivial (enq_R_Div) (sq_in 1 rfl rfl (by simp) rfl (fun v w h => h)) (sq_in 3 rfl rfl (by simp) rfl (fun v w h => h)) (fun v v' w h h' => exRDiv h h' (den_ne a) (Int.lt_of_lt_of_le ha.out.1 (pw_le (by omega))) (Int.lt_of_lt_of_le ha.out.2 (pw_le (by omega))))
  · exact q_storeOldInt hp (List.mem_iff_getElem?.2 ⟨0, rfl⟩) rfl rfl (sq_out rfl rfl (fun _ _ => rfl)) (sq_in 4 rfl rfl (by simp) rfl (fun v w h => intV_num h)) (fun _ _ => trivial) (newik_ne rfl)
  intro L vs w4 nb hL hC hn E4
  have e0 : vs 0 = .pointer (some ⟨b1, 0, none⟩) := hC 0 (by simp)
  have e2 : vs 2 = .pointer (some ⟨b1, 2, none⟩) := hC 2 (by simp)
  have E : Fr w [(b2, 2, Fq.num (a.num / (a.den : Int))), (b1, 4, Fq.pair a.num (a.den : Int))] w4 := E4
  rw [lay_all hL]
  simp only [putAll, dstOf, List.length_cons, List.length_nil, Nat.zero_add, Nat.reduceAdd, List.getElem?_toArray, List.getElem?_cons_zero, List.getElem?_cons_succ, Option.bind_some, Act.put, List.setIfInBounds_toArray, List.set_cons_succ, List.set_cons_zero]
  rw [e0, e2]
  generalize vs 1 = u4_1
  generalize vs 3 = u4_3
  generalize vs 4 = u4_4
  clear e0 e2 hC hn E4 hL vs L nb
  clear B3 ha
  obtain ⟨p0, p1, c0, c1, hP⟩ := box_num (E.box 0 rfl)
  go_wp2
  refine bodyPost_ret (v := .agg #[p0, p1]) ?_ rfl ⟨_, rfl, E.below, by rw [Rat.floor_def]; exact hP⟩
  simp [results, Tryz.results26, go_sem, c0, c1]

end Go.Proofs.YtoimphnhmpmipaaGreat

/- Walk of the law that fractions match the reference. -/
namespace Go.Proofs.YtoimphnhmpmipaaGreat
open Go Go.RowKit

set_option maxRecDepth 100000 in
set_option maxHeartbeats 4000000 in
theorem RationalMatchesReference_any (w : World) (n1 : Bool) (a1 : Option Addr) (k1 c1 : Nat) (xs1 : List Int) (m1 : Bool) (r1 : Option Addr) (l1 q1 : Nat) (ys1 : List Int) (h1 : Sl w a1 k1 c1 xs1) (g1 : Sl w r1 l1 q1 ys1) (hk1 : k1 ≤ 9223372036854775807) (hl1 : l1 ≤ 9223372036854775807) (n2 : Bool) (a2 : Option Addr) (k2 c2 : Nat) (xs2 : List Int) (m2 : Bool) (r2 : Option Addr) (l2 q2 : Nat) (ys2 : List Int) (h2 : Sl w a2 k2 c2 xs2) (g2 : Sl w r2 l2 q2 ys2) (hk2 : k2 ≤ 9223372036854775807) (hl2 : l2 ≤ 9223372036854775807) :
    Calls Tryz.prog 3 #[.agg #[.bool n1, .slice a1 k1 c1, .bool m1, .slice r1 l1 q1], .agg #[.bool n2, .slice a2 k2 c2, .bool m2, .slice r2 l2 q2]] w fun e w' => e = .returned (.bool true) ∧ Below w.heap.size w w' := by
  obtain ⟨a, ha⟩ : ∃ a, a = madeQ n1 xs1 ys1 m1 6 := ⟨_, rfl⟩
  have Ba : Hid (Rb a 6) := by rw [ha]; exact made_rb h1.digs g1.digs (by omega)
  have Ha := hidd ha
  have K1 := hidd hk1
  have L1 := hidd hl1
  clear ha hk1 hl1
  obtain ⟨b, hb⟩ : ∃ b, b = madeQ n2 xs2 ys2 m2 6 := ⟨_, rfl⟩
  have Bb : Hid (Rb b 6) := by rw [hb]; exact made_rb h2.digs g2.digs (by omega)
  have Hb := hidd hb
  have K2 := hidd hk2
  have L2 := hidd hl2
  clear hb hk2 hl2
  obtain ⟨w1, b1, hw1, hb1, hs1, E⟩ := fr_start w (F := Fq.raw2 n1 a1 k1 c1 xs1 m1 r1 l1 q1 ys1) (us := [.bool n1, .slice a1 k1 c1, .bool m1, .slice r1 l1 q1]) 26 rfl (by simp) (tame_rat _ _ _ _ _ _ _ _) (show (Fq.raw2 n1 a1 k1 c1 xs1 m1 r1 l1 q1 ys1).P _ w from ⟨rfl, h1, g1⟩)
  obtain ⟨w2, b2, hw2, hb2, hs2, E⟩ := fr_more E hs1 (F := Fq.raw2 n2 a2 k2 c2 xs2 m2 r2 l2 q2 ys2) (us := [.bool n2, .slice a2 k2 c2, .bool m2, .slice r2 l2 q2]) 26 rfl (by simp) (tame_rat _ _ _ _ _ _ _ _) ((Fq.raw2 n2 a2 k2 c2 xs2 m2 r2 l2 q2 ys2).mono (show (Fq.raw2 n2 a2 k2 c2 xs2 m2 r2 l2 q2 ys2).P _ w from ⟨rfl, h2, g2⟩) E.below)
  go_enter Tryz.func3, Tryz.ntmps3
  go_upto_region 1 with (fail)
  rw [← hw1]
  rw [← hw2]
  rw [← hb2]
  rw [← hb1]
  clear hw1 hw2 hb1 hb2 hs2 hs1
  refine region_fr (C := [Fq.is (.bool true), Fq.is (.bool true)]) (ks := [none, none]) (new := []) E rfl (by kernel_rfl) rfl rfl (fun hp => ⟨?_, ?_, trivial⟩) ?_
  · exact q_call0 hp (free_of rfl) trivial (enq_K_examples) (fun w => exExamples w)
  · exact q_assign hp (free_of rfl) trivial (sq_in 0 rfl rfl (by simp) rfl (fun v w h => h))
  intro L vs w3 nb hL hC hn E3
  have e0 : vs 0 = .bool true := hC 0 (by simp)
  have e1 : vs 1 = .bool true := hC 1 (by simp)
  have E : Fr w [(b2, 4, Fq.raw2 n2 a2 k2 c2 xs2 m2 r2 l2 q2 ys2), (b1, 4, Fq.raw2 n1 a1 k1 c1 xs1 m1 r1 l1 q1 ys1)] w3 := E3
  rw [lay_all hL]
  simp only [putAll, dstOf, List.length_cons, List.length_nil, Nat.zero_add, Nat.reduceAdd, List.getElem?_toArray, List.getElem?_cons_zero, List.getElem?_cons_succ, Option.bind_some, Act.put, List.setIfInBounds_toArray, List.set_cons_succ, List.set_cons_zero]
  rw [e0, e1]
  clear e0 e1 hC hn E3 hL vs L nb
  go_upto_region 2 with (fail)
  refine region_fr (C := [Fq.is (.bool true), Fq.is (.bool false)]) (ks := [none, none]) (new := []) E rfl (by kernel_rfl) rfl rfl (fun hp => ⟨?_, ?_, trivial⟩) ?_
  · exact q_move hp (free_of rfl) trivial (sq_out rfl rfl (fun _ _ => rfl))
  · exact q_one (F := fun v _ => v = .bool true) hp (free_of rfl) trivial (sq_in 0 rfl rfl (by simp) rfl (fun v w h => h)) (fun ρ w _ h => ⟨.bool false, by simp [execOp, go_sem, h], rfl⟩)
  intro L vs w4 nb hL hC hn E4
  have e0 : vs 0 = .bool true := hC 0 (by simp)
  have e1 : vs 1 = .bool false := hC 1 (by simp)
  have E : Fr w [(b2, 4, Fq.raw2 n2 a2 k2 c2 xs2 m2 r2 l2 q2 ys2), (b1, 4, Fq.raw2 n1 a1 k1 c1 xs1 m1 r1 l1 q1 ys1)] w4 := E4
  rw [lay_all hL]
  simp only [putAll, dstOf, List.length_cons, List.length_nil, Nat.zero_add, Nat.reduceAdd, List.getElem?_toArray, List.getElem?_cons_zero, List.getElem?_cons_succ, Option.bind_some, Act.put, List.setIfInBounds_toArray, List.set_cons_succ, List.set_cons_zero]
  rw [e0, e1]
  clear e0 e1 hC hn E4 hL vs L nb
  go_upto_region 4 with (fail)
  refine region_fr (C := [Fq.raw2 n1 a1 k1 c1 xs1 m1 r1 l1 q1 ys1, Fq.pair a.num (a.den : Int), Fq.raw2 n2 a2 k2 c2 xs2 m2 r2 l2 q2 ys2, Fq.pair b.num (b.den : Int), Fq.any, Fq.any, Fq.any, Fq.any]) (ks := [none, none]) (new := [⟨4, 6, 4, Fq.pair 0 0, Fq.pair a.num (a.den : Int), none⟩, ⟨5, 7, 4, Fq.pair 0 0, Fq.pair b.num (b.den : Int), none⟩]) E rfl (by kernel_rfl) rfl rfl (fun hp => ⟨?_, ?_, ?_, ?_, ?_, ?_, ?_, ?_, trivial⟩) ?_
  · exact q_loadRaw2 hp (free_of rfl) trivial (List.mem_iff_getElem?.2 ⟨1, rfl⟩) (.inl rfl) rfl (sq_out rfl rfl (fun _ _ => rfl)) (fun us w hl h => h)
  · exact q_call2 (F := (Fq.raw2 n1 a1 k1 c1 xs1 m1 r1 l1 q1 ys1).P) (G := (Fq.is (.int .i64 6)).P) hp (free_of rfl) trivial (enq_S_Made) (sq_in 0 rfl rfl (by simp) rfl (fun v w h => h)) (sq_const (fun _ => rfl)) (fun v v' w h h' => (by obtain ⟨rfl, s1, s2⟩ := h; subst h'; rw [Ha.out]; exact exSMade (j := 6) s1 s2 K1.out L1.out (by omega)))
  · exact q_loadRaw2 hp (free_of rfl) trivial (List.mem_iff_getElem?.2 ⟨0, rfl⟩) (.inl rfl) rfl (sq_out rfl rfl (fun _ _ => rfl)) (fun us w hl h => h)
  · exact q_call2 (F := (Fq.raw2 n2 a2 k2 c2 xs2 m2 r2 l2 q2 ys2).P) (G := (Fq.is (.int .i64 6)).P) hp (free_of rfl) trivial (enq_S_Made) (sq_in 2 rfl rfl (by simp) rfl (fun v w h => h)) (sq_const (fun _ => rfl)) (fun v v' w h h' => (by obtain ⟨rfl, s1, s2⟩ := h; subst h'; rw [Hb.out]; exact exSMade (j := 6) s1 s2 K2.out L2.out (by omega)))
  · exact q_allocRat hp (List.mem_iff_getElem?.2 ⟨0, rfl⟩) rfl rfl rfl rfl (Nat.ne_of_beq_eq_false rfl) (fun _ _ => trivial) (old_ne rfl) (newk_ne rfl) (fun w => Pair.zero w)
  · exact q_allocRat hp (List.mem_iff_getElem?.2 ⟨1, rfl⟩) rfl rfl rfl rfl (Nat.ne_of_beq_eq_false rfl) (fun _ _ => trivial) (old_ne rfl) (newk_ne rfl) (fun w => Pair.zero w)
  · exact q_storeNewRat hp (List.mem_iff_getElem?.2 ⟨0, rfl⟩) rfl rfl rfl (own_ptr rfl rfl (by simp) rfl) (sq_in 1 rfl rfl (by simp) rfl (fun v w h => ratV_pair h)) (fun _ _ => trivial) (old_ne rfl) (newi_ne rfl)
  · exact q_storeNewRat hp (List.mem_iff_getElem?.2 ⟨1, rfl⟩) rfl rfl rfl (own_ptr rfl rfl (by simp) rfl) (sq_in 3 rfl rfl (by simp) rfl (fun v w h => ratV_pair h)) (fun _ _ => trivial) (old_ne rfl) (newi_ne rfl)
  intro L vs w5 nb hL hC hn E5
  have e4 : vs 4 = .pointer (some ⟨nb 4, 0, none⟩) := hn _ (List.mem_iff_getElem?.2 ⟨0, rfl⟩)
  have e5 : vs 5 = .pointer (some ⟨nb 5, 0, none⟩) := hn _ (List.mem_iff_getElem?.2 ⟨1, rfl⟩)
  have E : Fr w [(nb 4, 4, Fq.pair a.num (a.den : Int)), (nb 5, 4, Fq.pair b.num (b.den : Int)), (b2, 4, Fq.raw2 n2 a2 k2 c2 xs2 m2 r2 l2 q2 ys2), (b1, 4, Fq.raw2 n1 a1 k1 c1 xs1 m1 r1 l1 q1 ys1)] w5 := E5
  rw [lay_all hL]
  simp only [putAll, dstOf, List.length_cons, List.length_nil, Nat.zero_add, Nat.reduceAdd, List.getElem?_toArray, List.getElem?_cons_zero, List.getElem?_cons_succ, Option.bind_some, Act.put, List.setIfInBounds_toArray, List.set_cons_succ, List.set_cons_zero]
  rw [e4, e5]
  generalize nb 4 = b5_4 at E ⊢
  generalize nb 5 = b5_5 at E ⊢
  generalize vs 0 = u5_0
  generalize vs 1 = u5_1
  generalize vs 2 = u5_2
  generalize vs 3 = u5_3
  clear e4 e5 hC hn E5 hL vs L nb
  by_cases hb0 : b = 0
  · have hbn : b.num = 0 := Rat.num_eq_zero.2 hb0
    go_upto_region 5 with (fail)
    refine region_fr (C := [Fq.pair a.num (a.den : Int), Fq.pair b.num (b.den : Int), Fq.tup2 (Fq.pair 0 0) (Fq.is (.int .i64 4)), Fq.tup2 (Fq.pair 0 0) (Fq.is (.int .i64 4)), Fq.pair 0 0, Fq.is (.int .i64 4), Fq.any, Fq.any, Fq.is (.int .i64 4)]) (ks := [none, none, none, none]) (new := [⟨6, 7, 4, Fq.pair 0 0, Fq.pair 0 0, none⟩]) E rfl (by kernel_rfl) rfl rfl (fun hp => ⟨?_, ?_, ?_, ?_, ?_, ?_, ?_, ?_, ?_, trivial⟩) ?_
    · exact q_loadRat hp (free_of rfl) trivial (List.mem_iff_getElem?.2 ⟨0, rfl⟩) (.inl rfl) rfl (sq_out rfl rfl (fun _ _ => rfl)) (fun us w hl h => h)
    · exact q_loadRat hp (free_of rfl) trivial (List.mem_iff_getElem?.2 ⟨1, rfl⟩) (.inl rfl) rfl (sq_out rfl rfl (fun _ _ => rfl)) (fun us w hl h => h)
    · exact q_call2 (F := (Fq.pair a.num (a.den : Int)).P) (G := (Fq.pair b.num (b.den : Int)).P) hp (free_of rfl) trivial (enq_Q_Div) (sq_in 0 rfl rfl (by simp) rfl (fun v w h => h)) (sq_in 1 rfl rfl (by simp) rfl (fun v w h => h)) (fun v v' w h h' => exDivZ h h' hb0 (rb_le Ba.out (by omega)) (rb_le Bb.out (by omega)))
    · exact q_move hp (free_of rfl) trivial (sq_in 2 rfl rfl (by simp) rfl (fun v w h => h))
    · exact q_extract2 hp (free_of rfl) trivial (sq_in 3 rfl rfl (by simp) rfl (fun v w h => h)) (fun v1 v2 w h1 h2 => ⟨_, rfl, h1⟩)
    · exact q_extract2 hp (free_of rfl) trivial (sq_in 3 rfl rfl (by simp) rfl (fun v w h => h)) (fun v1 v2 w h1 h2 => ⟨_, rfl, h2⟩)
    · exact q_allocRat hp (List.mem_iff_getElem?.2 ⟨0, rfl⟩) rfl rfl rfl rfl (Nat.ne_of_beq_eq_false rfl) (fun _ _ => trivial) (old_ne rfl) (newk_ne rfl) (fun w => Pair.zero w)
    · exact q_storeNewRat hp (List.mem_iff_getElem?.2 ⟨0, rfl⟩) rfl rfl rfl (own_ptr rfl rfl (by simp) rfl) (sq_in 4 rfl rfl (by simp) rfl (fun v w h => ratV_pair h)) (fun _ _ => trivial) (old_ne rfl) (newi_ne rfl)
    · exact q_assign hp (free_of rfl) trivial (sq_in 5 rfl rfl (by simp) rfl (fun v w h => h))
    intro L vs w6 nb hL hC hn E6
    have e5 : vs 5 = .int .i64 4 := hC 5 (by simp)
    have e8 : vs 8 = .int .i64 4 := hC 8 (by simp)
    have e6 : vs 6 = .pointer (some ⟨nb 6, 0, none⟩) := hn _ (List.mem_iff_getElem?.2 ⟨0, rfl⟩)
    have E : Fr w [(nb 6, 4, Fq.pair 0 0), (b5_4, 4, Fq.pair a.num (a.den : Int)), (b5_5, 4, Fq.pair b.num (b.den : Int)), (b2, 4, Fq.raw2 n2 a2 k2 c2 xs2 m2 r2 l2 q2 ys2), (b1, 4, Fq.raw2 n1 a1 k1 c1 xs1 m1 r1 l1 q1 ys1)] w6 := E6
    rw [lay_all hL]
    simp only [putAll, dstOf, List.length_cons, List.length_nil, Nat.zero_add, Nat.reduceAdd, List.getElem?_toArray, List.getElem?_cons_zero, List.getElem?_cons_succ, Option.bind_some, Act.put, List.setIfInBounds_toArray, List.set_cons_succ, List.set_cons_zero]
    rw [e5, e8, e6]
    generalize nb 6 = b6_6 at E ⊢
    generalize vs 0 = u6_0
    generalize vs 1 = u6_1
    generalize vs 2 = u6_2
    generalize vs 3 = u6_3
    generalize vs 4 = u6_4
    clear e5 e8 e6 hC hn E6 hL vs L nb
    go_upto_region 6 with (fail)
    refine region_fr (C := [Fq.pair a.num (a.den : Int), Fq.pair b.num (b.den : Int), Fq.tup2 (Fq.pair 0 0) (Fq.is (.int .i64 4)), Fq.tup2 (Fq.pair 0 0) (Fq.is (.int .i64 4)), Fq.pair 0 0, Fq.is (.int .i64 4), Fq.any, Fq.any, Fq.is (.int .i64 4)]) (ks := [none, none, none, none, none]) (new := [⟨6, 7, 4, Fq.pair 0 0, Fq.pair 0 0, none⟩]) E rfl (by kernel_rfl) rfl rfl (fun hp => ⟨?_, ?_, ?_, ?_, ?_, ?_, ?_, ?_, ?_, trivial⟩) ?_
    · exact q_loadRat hp (free_of rfl) trivial (List.mem_iff_getElem?.2 ⟨1, rfl⟩) (.inl rfl) rfl (sq_out rfl rfl (fun _ _ => rfl)) (fun us w hl h => h)
    · exact q_loadRat hp (free_of rfl) trivial (List.mem_iff_getElem?.2 ⟨2, rfl⟩) (.inl rfl) rfl (sq_out rfl rfl (fun _ _ => rfl)) (fun us w hl h => h)
    · exact q_call2 (F := (Fq.pair a.num (a.den : Int)).P) (G := (Fq.pair b.num (b.den : Int)).P) hp (free_of rfl) trivial (enq_S_Div) (sq_in 0 rfl rfl (by simp) rfl (fun v w h => h)) (sq_in 1 rfl rfl (by simp) rfl (fun v w h => h)) (fun v v' w h h' => exSDivZ h h' (rb_le Ba.out (by omega)) (rb_le Bb.out (by omega)) hb0)
    · exact q_move hp (free_of rfl) trivial (sq_in 2 rfl rfl (by simp) rfl (fun v w h => h))
    · exact q_extract2 hp (free_of rfl) trivial (sq_in 3 rfl rfl (by simp) rfl (fun v w h => h)) (fun v1 v2 w h1 h2 => ⟨_, rfl, h1⟩)
    · exact q_extract2 hp (free_of rfl) trivial (sq_in 3 rfl rfl (by simp) rfl (fun v w h => h)) (fun v1 v2 w h1 h2 => ⟨_, rfl, h2⟩)
    · exact q_allocRat hp (List.mem_iff_getElem?.2 ⟨0, rfl⟩) rfl rfl rfl rfl (Nat.ne_of_beq_eq_false rfl) (fun _ _ => trivial) (old_ne rfl) (newk_ne rfl) (fun w => Pair.zero w)
    · exact q_storeNewRat hp (List.mem_iff_getElem?.2 ⟨0, rfl⟩) rfl rfl rfl (own_ptr rfl rfl (by simp) rfl) (sq_in 4 rfl rfl (by simp) rfl (fun v w h => ratV_pair h)) (fun _ _ => trivial) (old_ne rfl) (newi_ne rfl)
    · exact q_assign hp (free_of rfl) trivial (sq_in 5 rfl rfl (by simp) rfl (fun v w h => h))
    intro L vs w7 nb hL hC hn E7
    have e5 : vs 5 = .int .i64 4 := hC 5 (by simp)
    have e8 : vs 8 = .int .i64 4 := hC 8 (by simp)
    have e6 : vs 6 = .pointer (some ⟨nb 6, 0, none⟩) := hn _ (List.mem_iff_getElem?.2 ⟨0, rfl⟩)
    have E : Fr w [(nb 6, 4, Fq.pair 0 0), (b6_6, 4, Fq.pair 0 0), (b5_4, 4, Fq.pair a.num (a.den : Int)), (b5_5, 4, Fq.pair b.num (b.den : Int)), (b2, 4, Fq.raw2 n2 a2 k2 c2 xs2 m2 r2 l2 q2 ys2), (b1, 4, Fq.raw2 n1 a1 k1 c1 xs1 m1 r1 l1 q1 ys1)] w7 := E7
    rw [lay_all hL]
    simp only [putAll, dstOf, List.length_cons, List.length_nil, Nat.zero_add, Nat.reduceAdd, List.getElem?_toArray, List.getElem?_cons_zero, List.getElem?_cons_succ, Option.bind_some, Act.put, List.setIfInBounds_toArray, List.set_cons_succ, List.set_cons_zero]
    rw [e5, e8, e6]
    generalize nb 6 = b7_6 at E ⊢
    generalize vs 0 = u7_0
    generalize vs 1 = u7_1
    generalize vs 2 = u7_2
    generalize vs 3 = u7_3
    generalize vs 4 = u7_4
    clear e5 e8 e6 hC hn E7 hL vs L nb
    go_upto_region 7 with (fail)
    refine region_fr (C := [Fq.is (.pointer (some ⟨b5_4, 0, none⟩)), Fq.num a.num, Fq.is (.pointer (some ⟨b5_5, 0, none⟩)), Fq.num b.num, Fq.tup2 (Fq.pair 0 0) (Fq.is (.int .i64 4)), Fq.tup2 (Fq.pair 0 0) (Fq.is (.int .i64 4)), Fq.pair 0 0, Fq.is (.int .i64 4), Fq.any, Fq.any, Fq.is (.int .i64 4)]) (ks := [none, none, none, none, none, none]) (new := [⟨8, 9, 4, Fq.pair 0 0, Fq.pair 0 0, none⟩]) E rfl (by kernel_rfl) rfl rfl (fun hp => ⟨?_, ?_, ?_, ?_, ?_, ?_, ?_, ?_, ?_, ?_, ?_, trivial⟩) ?_
    · exact q_addr (b := b5_4) (off := 0) (off' := 0) hp (free_of rfl) trivial (sq_out rfl rfl (fun _ _ => rfl)) (fun ρ w h => by simp [execOp, go_sem, h]) (fun _ => rfl)
    · exact q_loadInt (off := 0) hp (free_of rfl) trivial (List.mem_iff_getElem?.2 ⟨2, rfl⟩) (.inl rfl) (Nat.le_of_ble_eq_true rfl) (sq_in 0 rfl rfl (by simp) rfl (fun v w h => h)) (fun us w hl h => ld_pn hl h)
    · exact q_addr (b := b5_5) (off := 0) (off' := 0) hp (free_of rfl) trivial (sq_out rfl rfl (fun _ _ => rfl)) (fun ρ w h => by simp [execOp, go_sem, h]) (fun _ => rfl)
    · exact q_loadInt (off := 0) hp (free_of rfl) trivial (List.mem_iff_getElem?.2 ⟨3, rfl⟩) (.inl rfl) (Nat.le_of_ble_eq_true rfl) (sq_in 2 rfl rfl (by simp) rfl (fun v w h => h)) (fun us w hl h => ld_pn hl h)
    · exact q_call2 (F := (Fq.num a.num).P) (G := (Fq.num b.num).P) hp (free_of rfl) trivial (enq_Q_New) (sq_in 1 rfl rfl (by simp) rfl (fun v w h => h)) (sq_in 3 rfl rfl (by simp) rfl (fun v w h => h)) (fun v v' w h h' => exNewZ h h' hbn (Int.lt_of_lt_of_le Ba.out.1 (pw_le (by omega))) (Int.lt_of_lt_of_le Bb.out.1 (pw_le (by omega))))
    · exact q_move hp (free_of rfl) trivial (sq_in 4 rfl rfl (by simp) rfl (fun v w h => h))
    · exact q_extract2 hp (free_of rfl) trivial (sq_in 5 rfl rfl (by simp) rfl (fun v w h => h)) (fun v1 v2 w h1 h2 => ⟨_, rfl, h1⟩)
    · exact q_extract2 hp (free_of rfl) trivial (sq_in 5 rfl rfl (by simp) rfl (fun v w h => h)) (fun v1 v2 w h1 h2 => ⟨_, rfl, h2⟩)
    · exact q_allocRat hp (List.mem_iff_getElem?.2 ⟨0, rfl⟩) rfl rfl rfl rfl (Nat.ne_of_beq_eq_false rfl) (fun _ _ => trivial) (old_ne rfl) (newk_ne rfl) (fun w => Pair.zero w)
    · exact q_storeNewRat hp (List.mem_iff_getElem?.2 ⟨0, rfl⟩) rfl rfl rfl (own_ptr rfl rfl (by simp) rfl) (sq_in 6 rfl rfl (by simp) rfl (fun v w h => ratV_pair h)) (fun _ _ => trivial) (old_ne rfl) (newi_ne rfl)
    · exact q_assign hp (free_of rfl) trivial (sq_in 7 rfl rfl (by simp) rfl (fun v w h => h))
    intro L vs w8 nb hL hC hn E8
    have e0 : vs 0 = .pointer (some ⟨b5_4, 0, none⟩) := hC 0 (by simp)
    have e2 : vs 2 = .pointer (some ⟨b5_5, 0, none⟩) := hC 2 (by simp)
    have e7 : vs 7 = .int .i64 4 := hC 7 (by simp)
    have e10 : vs 10 = .int .i64 4 := hC 10 (by simp)
    have e8 : vs 8 = .pointer (some ⟨nb 8, 0, none⟩) := hn _ (List.mem_iff_getElem?.2 ⟨0, rfl⟩)
    have E : Fr w [(nb 8, 4, Fq.pair 0 0), (b7_6, 4, Fq.pair 0 0), (b6_6, 4, Fq.pair 0 0), (b5_4, 4, Fq.pair a.num (a.den : Int)), (b5_5, 4, Fq.pair b.num (b.den : Int)), (b2, 4, Fq.raw2 n2 a2 k2 c2 xs2 m2 r2 l2 q2 ys2), (b1, 4, Fq.raw2 n1 a1 k1 c1 xs1 m1 r1 l1 q1 ys1)] w8 := E8
    rw [lay_all hL]
    simp only [putAll, dstOf, List.length_cons, List.length_nil, Nat.zero_add, Nat.reduceAdd, List.getElem?_toArray, List.getElem?_cons_zero, List.getElem?_cons_succ, Option.bind_some, Act.put, List.setIfInBounds_toArray, List.set_cons_succ, List.set_cons_zero]
    rw [e0, e2, e7, e10, e8]
    generalize nb 8 = b8_8 at E ⊢
    generalize vs 1 = u8_1
    generalize vs 3 = u8_3
    generalize vs 4 = u8_4
    generalize vs 5 = u8_5
    generalize vs 6 = u8_6
    clear e0 e2 e7 e10 e8 hC hn E8 hL vs L nb
    go_upto_region 8 with (fail)
    refine region_fr (C := [Fq.is (.pointer (some ⟨b5_4, 0, none⟩)), Fq.num a.num, Fq.is (.pointer (some ⟨b5_5, 0, none⟩)), Fq.num b.num, Fq.tup2 (Fq.pair 0 0) (Fq.is (.int .i64 4)), Fq.tup2 (Fq.pair 0 0) (Fq.is (.int .i64 4)), Fq.pair 0 0, Fq.is (.int .i64 4), Fq.any, Fq.any, Fq.is (.int .i64 4)]) (ks := [none, none, none, none, none, none, none]) (new := [⟨8, 9, 4, Fq.pair 0 0, Fq.pair 0 0, none⟩]) E rfl (by kernel_rfl) rfl rfl (fun hp => ⟨?_, ?_, ?_, ?_, ?_, ?_, ?_, ?_, ?_, ?_, ?_, trivial⟩) ?_
    · exact q_addr (b := b5_4) (off := 0) (off' := 0) hp (free_of rfl) trivial (sq_out rfl rfl (fun _ _ => rfl)) (fun ρ w h => by simp [execOp, go_sem, h]) (fun _ => rfl)
    · exact q_loadInt (off := 0) hp (free_of rfl) trivial (List.mem_iff_getElem?.2 ⟨3, rfl⟩) (.inl rfl) (Nat.le_of_ble_eq_true rfl) (sq_in 0 rfl rfl (by simp) rfl (fun v w h => h)) (fun us w hl h => ld_pn hl h)
    · exact q_addr (b := b5_5) (off := 0) (off' := 0) hp (free_of rfl) trivial (sq_out rfl rfl (fun _ _ => rfl)) (fun ρ w h => by simp [execOp, go_sem, h]) (fun _ => rfl)
    · exact q_loadInt (off := 0) hp (free_of rfl) trivial (List.mem_iff_getElem?.2 ⟨4, rfl⟩) (.inl rfl) (Nat.le_of_ble_eq_true rfl) (sq_in 2 rfl rfl (by simp) rfl (fun v w h => h)) (fun us w hl h => ld_pn hl h)
    · exact q_call2 (F := (Fq.num a.num).P) (G := (Fq.num b.num).P) hp (free_of rfl) trivial (enq_S_New) (sq_in 1 rfl rfl (by simp) rfl (fun v w h => h)) (sq_in 3 rfl rfl (by simp) rfl (fun v w h => h)) (fun v v' w h h' => exSNewZ h h' hbn (Int.lt_of_lt_of_le Ba.out.1 (pw_le (by omega))) (Int.lt_of_lt_of_le Bb.out.1 (pw_le (by omega))))
    · exact q_move hp (free_of rfl) trivial (sq_in 4 rfl rfl (by simp) rfl (fun v w h => h))
    · exact q_extract2 hp (free_of rfl) trivial (sq_in 5 rfl rfl (by simp) rfl (fun v w h => h)) (fun v1 v2 w h1 h2 => ⟨_, rfl, h1⟩)
    · exact q_extract2 hp (free_of rfl) trivial (sq_in 5 rfl rfl (by simp) rfl (fun v w h => h)) (fun v1 v2 w h1 h2 => ⟨_, rfl, h2⟩)
    · exact q_allocRat hp (List.mem_iff_getElem?.2 ⟨0, rfl⟩) rfl rfl rfl rfl (Nat.ne_of_beq_eq_false rfl) (fun _ _ => trivial) (old_ne rfl) (newk_ne rfl) (fun w => Pair.zero w)
    · exact q_storeNewRat hp (List.mem_iff_getElem?.2 ⟨0, rfl⟩) rfl rfl rfl (own_ptr rfl rfl (by simp) rfl) (sq_in 6 rfl rfl (by simp) rfl (fun v w h => ratV_pair h)) (fun _ _ => trivial) (old_ne rfl) (newi_ne rfl)
    · exact q_assign hp (free_of rfl) trivial (sq_in 7 rfl rfl (by simp) rfl (fun v w h => h))
    intro L vs w9 nb hL hC hn E9
    have e0 : vs 0 = .pointer (some ⟨b5_4, 0, none⟩) := hC 0 (by simp)
    have e2 : vs 2 = .pointer (some ⟨b5_5, 0, none⟩) := hC 2 (by simp)
    have e7 : vs 7 = .int .i64 4 := hC 7 (by simp)
    have e10 : vs 10 = .int .i64 4 := hC 10 (by simp)
    have e8 : vs 8 = .pointer (some ⟨nb 8, 0, none⟩) := hn _ (List.mem_iff_getElem?.2 ⟨0, rfl⟩)
    have E : Fr w [(nb 8, 4, Fq.pair 0 0), (b8_8, 4, Fq.pair 0 0), (b7_6, 4, Fq.pair 0 0), (b6_6, 4, Fq.pair 0 0), (b5_4, 4, Fq.pair a.num (a.den : Int)), (b5_5, 4, Fq.pair b.num (b.den : Int)), (b2, 4, Fq.raw2 n2 a2 k2 c2 xs2 m2 r2 l2 q2 ys2), (b1, 4, Fq.raw2 n1 a1 k1 c1 xs1 m1 r1 l1 q1 ys1)] w9 := E9
    rw [lay_all hL]
    simp only [putAll, dstOf, List.length_cons, List.length_nil, Nat.zero_add, Nat.reduceAdd, List.getElem?_toArray, List.getElem?_cons_zero, List.getElem?_cons_succ, Option.bind_some, Act.put, List.setIfInBounds_toArray, List.set_cons_succ, List.set_cons_zero]
    rw [e0, e2, e7, e10, e8]
    generalize nb 8 = b9_8 at E ⊢
    generalize vs 1 = u9_1
    generalize vs 3 = u9_3
    generalize vs 4 = u9_4
    generalize vs 5 = u9_5
    generalize vs 6 = u9_6
    clear e0 e2 e7 e10 e8 hC hn E9 hL vs L nb
    go_upto_region 9 with (fail)
    refine region_fr (C := [Fq.is (.int .i64 4), Fq.is (.int .i64 4), Fq.is (.bool false), Fq.is (.bool false), Fq.is (.int .i64 4), Fq.is (.int .i64 4), Fq.is (.bool false), Fq.is (.bool false), Fq.is (.bool false), Fq.pair 0 0, Fq.pair 0 0, Fq.is (.bool true), Fq.is (.bool false), Fq.is (.bool false), Fq.is (.bool false), Fq.pair 0 0, Fq.pair 0 0, Fq.is (.bool true), Fq.is (.bool false), Fq.is (.bool false)]) (ks := [none, none, none, none, none, none, none, none]) (new := []) E rfl (by kernel_rfl) rfl rfl (fun hp => ⟨?_, ?_, ?_, ?_, ?_, ?_, ?_, ?_, ?_, ?_, ?_, ?_, ?_, ?_, ?_, ?_, ?_, ?_, ?_, ?_, trivial⟩) ?_
    · exact q_move hp (free_of rfl) trivial (sq_out rfl rfl (fun _ _ => rfl))
    · exact q_move hp (free_of rfl) trivial (sq_out rfl rfl (fun _ _ => rfl))
    · exact q_two (F := fun v _ => v = .int .i64 4) (G := fun v _ => v = .int .i64 4) hp (free_of rfl) trivial (sq_in 0 rfl rfl (by simp) rfl (fun v w h => h)) (sq_in 1 rfl rfl (by simp) rfl (fun v w h => h)) (fun ρ w hc h h' => ⟨.bool false, by simp [execOp, go_sem, h, h'], rfl⟩)
    · exact q_move hp (free_of rfl) trivial (sq_in 2 rfl rfl (by simp) rfl (fun v w h => h))
    · exact q_move hp (free_of rfl) (gq_some rfl rfl (by simp) rfl (fun v w h => h)) (sq_out rfl rfl (fun _ _ => rfl))
    · exact q_move hp (free_of rfl) (gq_some rfl rfl (by simp) rfl (fun v w h => h)) (sq_out rfl rfl (fun _ _ => rfl))
    · exact q_two (F := fun v _ => v = .int .i64 4) (G := fun v _ => v = .int .i64 4) hp (free_of rfl) (gq_some rfl rfl (by simp) rfl (fun v w h => h)) (sq_in 4 rfl rfl (by simp) rfl (fun v w h => h)) (sq_in 5 rfl rfl (by simp) rfl (fun v w h => h)) (fun ρ w hc h h' => ⟨.bool false, by simp [execOp, go_sem, h, h'], rfl⟩)
    · exact q_two (F := fun v _ => v = .bool false) (G := fun v _ => v = .bool false) hp (free_of rfl) trivial (sq_in 3 rfl rfl (by simp) rfl (fun v w h => h)) (sq_in 6 rfl rfl (by simp) rfl (fun v w h => h)) (fun ρ w hc h h' => ⟨_, by simp [execOp, go_sem, h, h'], rfl⟩)
    · exact q_move hp (free_of rfl) trivial (sq_in 7 rfl rfl (by simp) rfl (fun v w h => h))
    · exact q_loadRat hp (free_of rfl) (gq_some rfl rfl (by simp) rfl (fun v w h => h)) (List.mem_iff_getElem?.2 ⟨3, rfl⟩) (.inl rfl) rfl (sq_out rfl rfl (fun _ _ => rfl)) (fun us w hl h => h)
    · exact q_loadRat hp (free_of rfl) (gq_some rfl rfl (by simp) rfl (fun v w h => h)) (List.mem_iff_getElem?.2 ⟨2, rfl⟩) (.inl rfl) rfl (sq_out rfl rfl (fun _ _ => rfl)) (fun us w hl h => h)
    · exact q_call2 (F := (Fq.pair 0 0).P) (G := (Fq.pair 0 0).P) hp (free_of rfl) (gq_some rfl rfl (by simp) rfl (fun v w h => h)) (enq_S_Same) (sq_in 9 rfl rfl (by simp) rfl (fun v w h => h)) (sq_in 10 rfl rfl (by simp) rfl (fun v w h => h)) (fun v v' w h h' => exSSameT h h' rfl rfl)
    · exact q_one (F := fun v _ => v = .bool true) hp (free_of rfl) (gq_some rfl rfl (by simp) rfl (fun v w h => h)) (sq_in 11 rfl rfl (by simp) rfl (fun v w h => h)) (fun ρ w _ h => ⟨.bool false, by simp [execOp, go_sem, h], rfl⟩)
    · exact q_two (F := fun v _ => v = .bool false) (G := fun v _ => v = .bool false) hp (free_of rfl) trivial (sq_in 8 rfl rfl (by simp) rfl (fun v w h => h)) (sq_in 12 rfl rfl (by simp) rfl (fun v w h => h)) (fun ρ w hc h h' => ⟨_, by simp [execOp, go_sem, h, h'], rfl⟩)
    · exact q_move hp (free_of rfl) trivial (sq_in 13 rfl rfl (by simp) rfl (fun v w h => h))
    · exact q_loadRat hp (free_of rfl) (gq_some rfl rfl (by simp) rfl (fun v w h => h)) (List.mem_iff_getElem?.2 ⟨1, rfl⟩) (.inl rfl) rfl (sq_out rfl rfl (fun _ _ => rfl)) (fun us w hl h => h)
    · exact q_loadRat hp (free_of rfl) (gq_some rfl rfl (by simp) rfl (fun v w h => h)) (List.mem_iff_getElem?.2 ⟨0, rfl⟩) (.inl rfl) rfl (sq_out rfl rfl (fun _ _ => rfl)) (fun us w hl h => h)
    · exact q_call2 (F := (Fq.pair 0 0).P) (G := (Fq.pair 0 0).P) hp (free_of rfl) (gq_some rfl rfl (by simp) rfl (fun v w h => h)) (enq_S_Same) (sq_in 15 rfl rfl (by simp) rfl (fun v w h => h)) (sq_in 16 rfl rfl (by simp) rfl (fun v w h => h)) (fun v v' w h h' => exSSameT h h' rfl rfl)
    · exact q_one (F := fun v _ => v = .bool true) hp (free_of rfl) (gq_some rfl rfl (by simp) rfl (fun v w h => h)) (sq_in 17 rfl rfl (by simp) rfl (fun v w h => h)) (fun ρ w _ h => ⟨.bool false, by simp [execOp, go_sem, h], rfl⟩)
    · exact q_two (F := fun v _ => v = .bool false) (G := fun v _ => v = .bool false) hp (free_of rfl) trivial (sq_in 14 rfl rfl (by simp) rfl (fun v w h => h)) (sq_in 18 rfl rfl (by simp) rfl (fun v w h => h)) (fun ρ w hc h h' => ⟨_, by simp [execOp, go_sem, h, h'], rfl⟩)
    intro L vs w10 nb hL hC hn E10
    have e0 : vs 0 = .int .i64 4 := hC 0 (by simp)
    have e1 : vs 1 = .int .i64 4 := hC 1 (by simp)
    have e2 : vs 2 = .bool false := hC 2 (by simp)
    have e3 : vs 3 = .bool false := hC 3 (by simp)
    have e4 : vs 4 = .int .i64 4 := hC 4 (by simp)
    have e5 : vs 5 = .int .i64 4 := hC 5 (by simp)
    have e6 : vs 6 = .bool false := hC 6 (by simp)
    have e7 : vs 7 = .bool false := hC 7 (by simp)
    have e8 : vs 8 = .bool false := hC 8 (by simp)
    have e11 : vs 11 = .bool true := hC 11 (by simp)
    have e12 : vs 12 = .bool false := hC 12 (by simp)
    have e13 : vs 13 = .bool false := hC 13 (by simp)
    have e14 : vs 14 = .bool false := hC 14 (by simp)
    have e17 : vs 17 = .bool true := hC 17 (by simp)
    have e18 : vs 18 = .bool false := hC 18 (by simp)
    have e19 : vs 19 = .bool false := hC 19 (by simp)
    have E : Fr w [(b9_8, 4, Fq.pair 0 0), (b8_8, 4, Fq.pair 0 0), (b7_6, 4, Fq.pair 0 0), (b6_6, 4, Fq.pair 0 0), (b5_4, 4, Fq.pair a.num (a.den : Int)), (b5_5, 4, Fq.pair b.num (b.den : Int)), (b2, 4, Fq.raw2 n2 a2 k2 c2 xs2 m2 r2 l2 q2 ys2), (b1, 4, Fq.raw2 n1 a1 k1 c1 xs1 m1 r1 l1 q1 ys1)] w10 := E10
    rw [lay_all hL]
    simp only [putAll, dstOf, List.length_cons, List.length_nil, Nat.zero_add, Nat.reduceAdd, List.getElem?_toArray, List.getElem?_cons_zero, List.getElem?_cons_succ, Option.bind_some, Act.put, List.setIfInBounds_toArray, List.set_cons_succ, List.set_cons_zero]
    rw [e0, e1, e2, e3, e4, e5, e6, e7, e8, e11, e12, e13, e14, e17, e18, e19]
    generalize vs 9 = u10_9
    generalize vs 10 = u10_10
    generalize vs 15 = u10_15
    generalize vs 16 = u10_16
    clear e0 e1 e2 e3 e4 e5 e6 e7 e8 e11 e12 e13 e14 e17 e18 e19 hC hn E10 hL vs L nb
    clear hb0 hbn
    go_upto_region 11 with (fail)
    have B11 : Hid (Rb (a + b) 13) := rb_le (rb_add Ba.out Bb.out) (by omega)
    have B12 : Hid (Rb (a - b) 13) := rb_le (rb_sub Ba.out Bb.out) (by omega)
    have B13 : Hid (Rb (a * b) 12) := rb_le (rb_mul Ba.out Bb.out) (by omega)
    refine region_fr (C := [Fq.pair a.num (a.den : Int), Fq.pair b.num (b.den : Int), Fq.pair (a + b).num ((a + b).den : Int), Fq.pair a.num (a.den : Int), Fq.pair b.num (b.den : Int), Fq.pair (a + b).num ((a + b).den : Int), Fq.is (.bool true), Fq.is (.bool false), Fq.is (.bool false), Fq.pair a.num (a.den : Int), Fq.pair b.num (b.den : Int), Fq.pair (a - b).num ((a - b).den : Int), Fq.pair a.num (a.den : Int), Fq.pair b.num (b.den : Int), Fq.pair (a - b).num ((a - b).den : Int), Fq.is (.bool true), Fq.is (.bool false), Fq.is (.bool false), Fq.is (.bool false), Fq.pair a.num (a.den : Int), Fq.pair b.num (b.den : Int), Fq.pair (a * b).num ((a * b).den : Int), Fq.pair a.num (a.den : Int), Fq.pair b.num (b.den : Int), Fq.pair (a * b).num ((a * b).den : Int), Fq.is (.bool true), Fq.is (.bool false), Fq.is (.bool false)]) (ks := [none, none, none, none, none, none, none, none]) (new := []) E rfl (by kernel_rfl) rfl rfl (fun hp => ⟨?_, ?_, ?_, ?_, ?_, ?_, ?_, ?_, ?_, ?_, ?_, ?_, ?_, ?_, ?_, ?_, ?_, ?_, ?_, ?_, ?_, ?_, ?_, ?_, ?_, ?_, ?_, ?_, trivial⟩) ?_
    · exact q_loadRat hp (free_of rfl) trivial (List.mem_iff_getElem?.2 ⟨4, rfl⟩) (.inl rfl) rfl (sq_out rfl rfl (fun _ _ => rfl)) (fun us w hl h => h)
    · exact q_loadRat hp (free_of rfl) trivial (List.mem_iff_getElem?.2 ⟨5, rfl⟩) (.inl rfl) rfl (sq_out rfl rfl (fun _ _ => rfl)) (fun us w hl h => h)
    · exact q_call2 (F := (Fq.pair a.num (a.den : Int)).P) (G := (Fq.pair b.num (b.den : Int)).P) hp (free_of rfl) trivial (enq_Q_Add) (sq_in 0 rfl rfl (by simp) rfl (fun v w h => h)) (sq_in 1 rfl rfl (by simp) rfl (fun v w h => h)) (fun v v' w h h' => exAddQ h h' (rb_le Ba.out (by omega)) (rb_le Bb.out (by omega)))
    · exact q_loadRat hp (free_of rfl) trivial (List.mem_iff_getElem?.2 ⟨4, rfl⟩) (.inl rfl) rfl (sq_out rfl rfl (fun _ _ => rfl)) (fun us w hl h => h)
    · exact q_loadRat hp (free_of rfl) trivial (List.mem_iff_getElem?.2 ⟨5, rfl⟩) (.inl rfl) rfl (sq_out rfl rfl (fun _ _ => rfl)) (fun us w hl h => h)
    · exact q_call2 (F := (Fq.pair a.num (a.den : Int)).P) (G := (Fq.pair b.num (b.den : Int)).P) hp (free_of rfl) trivial (enq_S_Add) (sq_in 3 rfl rfl (by simp) rfl (fun v w h => h)) (sq_in 4 rfl rfl (by simp) rfl (fun v w h => h)) (fun v v' w h h' => exSAddQ h h' (rb_le Ba.out (by omega)) (rb_le Bb.out (by omega)))
    · exact q_call2 (F := (Fq.pair (a + b).num ((a + b).den : Int)).P) (G := (Fq.pair (a + b).num ((a + b).den : Int)).P) hp (free_of rfl) trivial (enq_S_Same) (sq_in 2 rfl rfl (by simp) rfl (fun v w h => h)) (sq_in 5 rfl rfl (by simp) rfl (fun v w h => h)) (fun v v' w h h' => exSSameQ h h' rfl)
    · exact q_one (F := fun v _ => v = .bool true) hp (free_of rfl) trivial (sq_in 6 rfl rfl (by simp) rfl (fun v w h => h)) (fun ρ w _ h => ⟨.bool false, by simp [execOp, go_sem, h], rfl⟩)
    · exact q_move hp (free_of rfl) trivial (sq_in 7 rfl rfl (by simp) rfl (fun v w h => h))
    · exact q_loadRat hp (free_of rfl) (gq_some rfl rfl (by simp) rfl (fun v w h => h)) (List.mem_iff_getElem?.2 ⟨4, rfl⟩) (.inl rfl) rfl (sq_out rfl rfl (fun _ _ => rfl)) (fun us w hl h => h)
    · exact q_loadRat hp (free_of rfl) (gq_some rfl rfl (by simp) rfl (fun v w h => h)) (List.mem_iff_getElem?.2 ⟨5, rfl⟩) (.inl rfl) rfl (sq_out rfl rfl (fun _ _ => rfl)) (fun us w hl h => h)
    · exact q_call2 (F := (Fq.pair a.num (a.den : Int)).P) (G := (Fq.pair b.num (b.den : Int)).P) hp (free_of rfl) (gq_some rfl rfl (by simp) rfl (fun v w h => h)) (enq_Q_Sub) (sq_in 9 rfl rfl (by simp) rfl (fun v w h => h)) (sq_in 10 rfl rfl (by simp) rfl (fun v w h => h)) (fun v v' w h h' => exSubQ h h' (rb_le Ba.out (by omega)) (rb_le Bb.out (by omega)))
    · exact q_loadRat hp (free_of rfl) (gq_some rfl rfl (by simp) rfl (fun v w h => h)) (List.mem_iff_getElem?.2 ⟨4, rfl⟩) (.inl rfl) rfl (sq_out rfl rfl (fun _ _ => rfl)) (fun us w hl h => h)
    · exact q_loadRat hp (free_of rfl) (gq_some rfl rfl (by simp) rfl (fun v w h => h)) (List.mem_iff_getElem?.2 ⟨5, rfl⟩) (.inl rfl) rfl (sq_out rfl rfl (fun _ _ => rfl)) (fun us w hl h => h)
    · exact q_call2 (F := (Fq.pair a.num (a.den : Int)).P) (G := (Fq.pair b.num (b.den : Int)).P) hp (free_of rfl) (gq_some rfl rfl (by simp) rfl (fun v w h => h)) (enq_S_Sub) (sq_in 12 rfl rfl (by simp) rfl (fun v w h => h)) (sq_in 13 rfl rfl (by simp) rfl (fun v w h => h)) (fun v v' w h h' => exSSubQ h h' (rb_le Ba.out (by omega)) (rb_le Bb.out (by omega)))
    · exact q_call2 (F := (Fq.pair (a - b).num ((a - b).den : Int)).P) (G := (Fq.pair (a - b).num ((a - b).den : Int)).P) hp (free_of rfl) (gq_some rfl rfl (by simp) rfl (fun v w h => h)) (enq_S_Same) (sq_in 11 rfl rfl (by simp) rfl (fun v w h => h)) (sq_in 14 rfl rfl (by simp) rfl (fun v w h => h)) (fun v v' w h h' => exSSameQ h h' rfl)
    · exact q_one (F := fun v _ => v = .bool true) hp (free_of rfl) (gq_some rfl rfl (by simp) rfl (fun v w h => h)) (sq_in 15 rfl rfl (by simp) rfl (fun v w h => h)) (fun ρ w _ h => ⟨.bool false, by simp [execOp, go_sem, h], rfl⟩)
    · exact q_two (F := fun v _ => v = .bool false) (G := fun v _ => v = .bool false) hp (free_of rfl) trivial (sq_in 8 rfl rfl (by simp) rfl (fun v w h => h)) (sq_in 16 rfl rfl (by simp) rfl (fun v w h => h)) (fun ρ w hc h h' => ⟨_, by simp [execOp, go_sem, h, h'], rfl⟩)
    · exact q_move hp (free_of rfl) trivial (sq_in 17 rfl rfl (by simp) rfl (fun v w h => h))
    · exact q_loadRat hp (free_of rfl) (gq_some rfl rfl (by simp) rfl (fun v w h => h)) (List.mem_iff_getElem?.2 ⟨4, rfl⟩) (.inl rfl) rfl (sq_out rfl rfl (fun _ _ => rfl)) (fun us w hl h => h)
    · exact q_loadRat hp (free_of rfl) (gq_some rfl rfl (by simp) rfl (fun v w h => h)) (List.mem_iff_getElem?.2 ⟨5, rfl⟩) (.inl rfl) rfl (sq_out rfl rfl (fun _ _ => rfl)) (fun us w hl h => h)
    · exact q_call2 (F := (Fq.pair a.num (a.den : Int)).P) (G := (Fq.pair b.num (b.den : Int)).P) hp (free_of rfl) (gq_some rfl rfl (by simp) rfl (fun v w h => h)) (enq_Q_Mul) (sq_in 19 rfl rfl (by simp) rfl (fun v w h => h)) (sq_in 20 rfl rfl (by simp) rfl (fun v w h => h)) (fun v v' w h h' => exMulQ h h' (rb_le Ba.out (by omega)) (rb_le Bb.out (by omega)))
    · exact q_loadRat hp (free_of rfl) (gq_some rfl rfl (by simp) rfl (fun v w h => h)) (List.mem_iff_getElem?.2 ⟨4, rfl⟩) (.inl rfl) rfl (sq_out rfl rfl (fun _ _ => rfl)) (fun us w hl h => h)
    · exact q_loadRat hp (free_of rfl) (gq_some rfl rfl (by simp) rfl (fun v w h => h)) (List.mem_iff_getElem?.2 ⟨5, rfl⟩) (.inl rfl) rfl (sq_out rfl rfl (fun _ _ => rfl)) (fun us w hl h => h)
    · exact q_call2 (F := (Fq.pair a.num (a.den : Int)).P) (G := (Fq.pair b.num (b.den : Int)).P) hp (free_of rfl) (gq_some rfl rfl (by simp) rfl (fun v w h => h)) (enq_S_Mul) (sq_in 22 rfl rfl (by simp) rfl (fun v w h => h)) (sq_in 23 rfl rfl (by simp) rfl (fun v w h => h)) (fun v v' w h h' => exSMulQ h h' (rb_le Ba.out (by omega)) (rb_le Bb.out (by omega)))
    · exact q_call2 (F := (Fq.pair (a * b).num ((a * b).den : Int)).P) (G := (Fq.pair (a * b).num ((a * b).den : Int)).P) hp (free_of rfl) (gq_some rfl rfl (by simp) rfl (fun v w h => h)) (enq_S_Same) (sq_in 21 rfl rfl (by simp) rfl (fun v w h => h)) (sq_in 24 rfl rfl (by simp) rfl (fun v w h => h)) (fun v v' w h h' => exSSameQ h h' rfl)
    · exact q_one (F := fun v _ => v = .bool true) hp (free_of rfl) (gq_some rfl rfl (by simp) rfl (fun v w h => h)) (sq_in 25 rfl rfl (by simp) rfl (fun v w h => h)) (fun ρ w _ h => ⟨.bool false, by simp [execOp, go_sem, h], rfl⟩)
    · exact q_two (F := fun v _ => v = .bool false) (G := fun v _ => v = .bool false) hp (free_of rfl) trivial (sq_in 18 rfl rfl (by simp) rfl (fun v w h => h)) (sq_in 26 rfl rfl (by simp) rfl (fun v w h => h)) (fun ρ w hc h h' => ⟨_, by simp [execOp, go_sem, h, h'], rfl⟩)
    intro L vs w14 nb hL hC hn E14
    have e6 : vs 6 = .bool true := hC 6 (by simp)
    have e7 : vs 7 = .bool false := hC 7 (by simp)
    have e8 : vs 8 = .bool false := hC 8 (by simp)
    have e15 : vs 15 = .bool true := hC 15 (by simp)
    have e16 : vs 16 = .bool false := hC 16 (by simp)
    have e17 : vs 17 = .bool false := hC 17 (by simp)
    have e18 : vs 18 = .bool false := hC 18 (by simp)
    have e25 : vs 25 = .bool true := hC 25 (by simp)
    have e26 : vs 26 = .bool false := hC 26 (by simp)
    have e27 : vs 27 = .bool false := hC 27 (by simp)
    have E : Fr w [(b9_8, 4, Fq.pair 0 0), (b8_8, 4, Fq.pair 0 0), (b7_6, 4, Fq.pair 0 0), (b6_6, 4, Fq.pair 0 0), (b5_4, 4, Fq.pair a.num (a.den : Int)), (b5_5, 4, Fq.pair b.num (b.den : Int)), (b2, 4, Fq.raw2 n2 a2 k2 c2 xs2 m2 r2 l2 q2 ys2), (b1, 4, Fq.raw2 n1 a1 k1 c1 xs1 m1 r1 l1 q1 ys1)] w14 := E14
    rw [lay_all hL]
    simp only [putAll, dstOf, List.length_cons, List.length_nil, Nat.zero_add, Nat.reduceAdd, List.getElem?_toArray, List.getElem?_cons_zero, List.getElem?_cons_succ, Option.bind_some, Act.put, List.setIfInBounds_toArray, List.set_cons_succ, List.set_cons_zero]
    rw [e6, e7, e8, e15, e16, e17, e18, e25, e26, e27]
    generalize vs 0 = u14_0
    generalize vs 1 = u14_1
    generalize vs 2 = u14_2
    generalize vs 3 = u14_3
    generalize vs 4 = u14_4
    generalize vs 5 = u14_5
    generalize vs 9 = u14_9
    generalize vs 10 = u14_10
    generalize vs 11 = u14_11
    generalize vs 12 = u14_12
    generalize vs 13 = u14_13
    generalize vs 14 = u14_14
    generalize vs 19 = u14_19
    generalize vs 20 = u14_20
    generalize vs 21 = u14_21
    generalize vs 22 = u14_22
    generalize vs 23 = u14_23
    generalize vs 24 = u14_24
    clear e6 e7 e8 e15 e16 e17 e18 e25 e26 e27 hC hn E14 hL vs L nb
    go_upto_region 13 with (fail)
    have B15 : Hid (ab (a.floor) < pw 7) := Int.lt_of_lt_of_le (rb_floor Ba.out) (pw_le (by omega))
    refine region_fr (C := [Fq.pair a.num (a.den : Int), Fq.pair b.num (b.den : Int), Fq.is (.int .i64 (cmpQ a b)), Fq.pair a.num (a.den : Int), Fq.pair b.num (b.den : Int), Fq.is (.int .i64 (cmpQ a b)), Fq.is (.bool true), Fq.is (.bool true), Fq.pair a.num (a.den : Int), Fq.is (.int .i64 (cmpI a.num 0)), Fq.pair a.num (a.den : Int), Fq.is (.int .i64 (cmpI a.num 0)), Fq.is (.bool true), Fq.is (.bool true), Fq.is (.bool true), Fq.pair a.num (a.den : Int), Fq.num a.floor, Fq.pair a.num (a.den : Int), Fq.num a.floor, Fq.is (.bool true), Fq.is (.bool true), Fq.is (.bool true), Fq.is (.bool true), Fq.is (.bool true), Fq.is (.bool true)]) (ks := [none, none, none, none, none, none, none, none]) (new := []) E rfl (by kernel_rfl) rfl rfl (fun hp => ⟨?_, ?_, ?_, ?_, ?_, ?_, ?_, ?_, ?_, ?_, ?_, ?_, ?_, ?_, ?_, ?_, ?_, ?_, ?_, ?_, ?_, ?_, ?_, ?_, ?_, trivial⟩) ?_
    · exact q_loadRat hp (free_of rfl) trivial (List.mem_iff_getElem?.2 ⟨4, rfl⟩) (.inl rfl) rfl (sq_out rfl rfl (fun _ _ => rfl)) (fun us w hl h => h)
    · exact q_loadRat hp (free_of rfl) trivial (List.mem_iff_getElem?.2 ⟨5, rfl⟩) (.inl rfl) rfl (sq_out rfl rfl (fun _ _ => rfl)) (fun us w hl h => h)
    · exact q_call2 (F := (Fq.pair a.num (a.den : Int)).P) (G := (Fq.pair b.num (b.den : Int)).P) hp (free_of rfl) trivial (enq_Q_Cmp) (sq_in 0 rfl rfl (by simp) rfl (fun v w h => h)) (sq_in 1 rfl rfl (by simp) rfl (fun v w h => h)) (fun v v' w h h' => exCmpQ h h' (rb_le Ba.out (by omega)) (rb_le Bb.out (by omega)))
    · exact q_loadRat hp (free_of rfl) trivial (List.mem_iff_getElem?.2 ⟨4, rfl⟩) (.inl rfl) rfl (sq_out rfl rfl (fun _ _ => rfl)) (fun us w hl h => h)
    · exact q_loadRat hp (free_of rfl) trivial (List.mem_iff_getElem?.2 ⟨5, rfl⟩) (.inl rfl) rfl (sq_out rfl rfl (fun _ _ => rfl)) (fun us w hl h => h)
    · exact q_call2 (F := (Fq.pair a.num (a.den : Int)).P) (G := (Fq.pair b.num (b.den : Int)).P) hp (free_of rfl) trivial (enq_S_Cmp) (sq_in 3 rfl rfl (by simp) rfl (fun v w h => h)) (sq_in 4 rfl rfl (by simp) rfl (fun v w h => h)) (fun v v' w h h' => exSCmpQ h h' (rb_le Ba.out (by omega)) (rb_le Bb.out (by omega)))
    · exact q_two (F := fun v _ => v = .int .i64 (cmpQ a b)) (G := fun v _ => v = .int .i64 (cmpQ a b)) hp (free_of rfl) trivial (sq_in 2 rfl rfl (by simp) rfl (fun v w h => h)) (sq_in 5 rfl rfl (by simp) rfl (fun v w h => h)) (fun ρ w hc h h' => ⟨.bool true, by simp [execOp, go_sem, h, h'], rfl⟩)
    · exact q_move hp (free_of rfl) trivial (sq_in 6 rfl rfl (by simp) rfl (fun v w h => h))
    · exact q_loadRat hp (free_of rfl) (gq_some rfl rfl (by simp) rfl (fun v w h => h)) (List.mem_iff_getElem?.2 ⟨4, rfl⟩) (.inl rfl) rfl (sq_out rfl rfl (fun _ _ => rfl)) (fun us w hl h => h)
    · exact q_call1 (F := (Fq.pair a.num (a.den : Int)).P) hp (free_of rfl) (gq_some rfl rfl (by simp) rfl (fun v w h => h)) (enq_Q_Sign) (sq_in 8 rfl rfl (by simp) rfl (fun v w h => h)) (fun v w h => exSignQ h)
    · exact q_loadRat hp (free_of rfl) (gq_some rfl rfl (by simp) rfl (fun v w h => h)) (List.mem_iff_getElem?.2 ⟨4, rfl⟩) (.inl rfl) rfl (sq_out rfl rfl (fun _ _ => rfl)) (fun us w hl h => h)
    · exact q_call1 (F := (Fq.pair a.num (a.den : Int)).P) hp (free_of rfl) (gq_some rfl rfl (by simp) rfl (fun v w h => h)) (enq_S_Sign) (sq_in 10 rfl rfl (by simp) rfl (fun v w h => h)) (fun v w h => exSSignQ h (rb_le Ba.out (by omega)))
    · exact q_two (F := fun v _ => v = .int .i64 (cmpI a.num 0)) (G := fun v _ => v = .int .i64 (cmpI a.num 0)) hp (free_of rfl) (gq_some rfl rfl (by simp) rfl (fun v w h => h)) (sq_in 9 rfl rfl (by simp) rfl (fun v w h => h)) (sq_in 11 rfl rfl (by simp) rfl (fun v w h => h)) (fun ρ w hc h h' => ⟨.bool true, by simp [execOp, go_sem, h, h'], rfl⟩)
    · exact q_two (F := fun v _ => v = .bool true) (G := fun v _ => v = .bool true) hp (free_of rfl) trivial (sq_in 7 rfl rfl (by simp) rfl (fun v w h => h)) (sq_in 12 rfl rfl (by simp) rfl (fun v w h => h)) (fun ρ w hc h h' => ⟨_, by simp [execOp, go_sem, h, h'], rfl⟩)
    · exact q_move hp (free_of rfl) trivial (sq_in 13 rfl rfl (by simp) rfl (fun v w h => h))
    · exact q_loadRat hp (free_of rfl) (gq_some rfl rfl (by simp) rfl (fun v w h => h)) (List.mem_iff_getElem?.2 ⟨4, rfl⟩) (.inl rfl) rfl (sq_out rfl rfl (fun _ _ => rfl)) (fun us w hl h => h)
    · exact q_call1 (F := (Fq.pair a.num (a.den : Int)).P) hp (free_of rfl) (gq_some rfl rfl (by simp) rfl (fun v w h => h)) (enq_Q_Floor) (sq_in 15 rfl rfl (by simp) rfl (fun v w h => h)) (fun v w h => exFloorQ h (rb_le Ba.out (by omega)))
    · exact q_loadRat hp (free_of rfl) (gq_some rfl rfl (by simp) rfl (fun v w h => h)) (List.mem_iff_getElem?.2 ⟨4, rfl⟩) (.inl rfl) rfl (sq_out rfl rfl (fun _ _ => rfl)) (fun us w hl h => h)
    · exact q_call1 (F := (Fq.pair a.num (a.den : Int)).P) hp (free_of rfl) (gq_some rfl rfl (by simp) rfl (fun v w h => h)) (enq_S_Floor) (sq_in 17 rfl rfl (by simp) rfl (fun v w h => h)) (fun v w h => exSFloorQ h (rb_le Ba.out (by omega)))
    · exact q_call2 (F := (Fq.num a.floor).P) (G := (Fq.num a.floor).P) hp (free_of rfl) (gq_some rfl rfl (by simp) rfl (fun v w h => h)) (enq_R_Same) (sq_in 16 rfl rfl (by simp) rfl (fun v w h => h)) (sq_in 18 rfl rfl (by simp) rfl (fun v w h => h)) (fun v v' w h h' => exRSameB h h' (decide_eq_true rfl))
    · exact q_two (F := fun v _ => v = .bool true) (G := fun v _ => v = .bool true) hp (free_of rfl) trivial (sq_in 14 rfl rfl (by simp) rfl (fun v w h => h)) (sq_in 19 rfl rfl (by simp) rfl (fun v w h => h)) (fun ρ w hc h h' => ⟨_, by simp [execOp, go_sem, h, h'], rfl⟩)
    · exact q_move hp (free_of rfl) trivial (sq_in 20 rfl rfl (by simp) rfl (fun v w h => h))
    · exact q_move hp (free_of rfl) (gq_some rfl rfl (by simp) rfl (fun v w h => h)) (sq_out rfl rfl (fun _ _ => rfl))
    · exact q_two (F := fun v _ => v = .bool true) (G := fun v _ => v = .bool true) hp (free_of rfl) trivial (sq_in 21 rfl rfl (by simp) rfl (fun v w h => h)) (sq_in 22 rfl rfl (by simp) rfl (fun v w h => h)) (fun ρ w hc h h' => ⟨_, by simp [execOp, go_sem, h, h'], rfl⟩)
    · exact q_assign hp (free_of rfl) trivial (sq_in 23 rfl rfl (by simp) rfl (fun v w h => h))
    intro L vs w16 nb hL hC hn E16
    have e2 : vs 2 = .int .i64 (cmpQ a b) := hC 2 (by simp)
    have e5 : vs 5 = .int .i64 (cmpQ a b) := hC 5 (by simp)
    have e6 : vs 6 = .bool true := hC 6 (by simp)
    have e7 : vs 7 = .bool true := hC 7 (by simp)
    have e9 : vs 9 = .int .i64 (cmpI a.num 0) := hC 9 (by simp)
    have e11 : vs 11 = .int .i64 (cmpI a.num 0) := hC 11 (by simp)
    have e12 : vs 12 = .bool true := hC 12 (by simp)
    have e13 : vs 13 = .bool true := hC 13 (by simp)
    have e14 : vs 14 = .bool true := hC 14 (by simp)
    have e19 : vs 19 = .bool true := hC 19 (by simp)
    have e20 : vs 20 = .bool true := hC 20 (by simp)
    have e21 : vs 21 = .bool true := hC 21 (by simp)
    have e22 : vs 22 = .bool true := hC 22 (by simp)
    have e23 : vs 23 = .bool true := hC 23 (by simp)
    have e24 : vs 24 = .bool true := hC 24 (by simp)
    have E : Fr w [(b9_8, 4, Fq.pair 0 0), (b8_8, 4, Fq.pair 0 0), (b7_6, 4, Fq.pair 0 0), (b6_6, 4, Fq.pair 0 0), (b5_4, 4, Fq.pair a.num (a.den : Int)), (b5_5, 4, Fq.pair b.num (b.den : Int)), (b2, 4, Fq.raw2 n2 a2 k2 c2 xs2 m2 r2 l2 q2 ys2), (b1, 4, Fq.raw2 n1 a1 k1 c1 xs1 m1 r1 l1 q1 ys1)] w16 := E16
    rw [lay_all hL]
    simp only [putAll, dstOf, List.length_cons, List.length_nil, Nat.zero_add, Nat.reduceAdd, List.getElem?_toArray, List.getElem?_cons_zero, List.getElem?_cons_succ, Option.bind_some, Act.put, List.setIfInBounds_toArray, List.set_cons_succ, List.set_cons_zero]
    rw [e2, e5, e6, e7, e9, e11, e12, e13, e14, e19, e20, e21, e22, e23, e24]
    generalize vs 0 = u16_0
    generalize vs 1 = u16_1
    generalize vs 3 = u16_3
    generalize vs 4 = u16_4
    generalize vs 8 = u16_8
    generalize vs 10 = u16_10
    generalize vs 15 = u16_15
    generalize vs 16 = u16_16
    generalize vs 17 = u16_17
    generalize vs 18 = u16_18
    clear e2 e5 e6 e7 e9 e11 e12 e13 e14 e19 e20 e21 e22 e23 e24 hC hn E16 hL vs L nb
    clear B11 B12 B13 B15 Ba Bb
    go_wp2
    refine bodyPost_ret (v := .bool true) ?_ rfl ⟨rfl, E.below⟩
    simp [results, Tryz.results3, go_sem]
  · have hbn := num_ne hb0
    go_upto_region 5 with (fail)
    have B17 : Hid (Rb (a / b) 12) := rb_le (rb_div hb0 Ba.out Bb.out) (by omega)
    refine region_fr (C := [Fq.pair a.num (a.den : Int), Fq.pair b.num (b.den : Int), Fq.tup2 (Fq.pair (a / b).num ((a / b).den : Int)) (Fq.is (.int .i64 0)), Fq.tup2 (Fq.pair (a / b).num ((a / b).den : Int)) (Fq.is (.int .i64 0)), Fq.pair (a / b).num ((a / b).den : Int), Fq.is (.int .i64 0), Fq.any, Fq.any, Fq.is (.int .i64 0)]) (ks := [none, none, none, none]) (new := [⟨6, 7, 4, Fq.pair 0 0, Fq.pair (a / b).num ((a / b).den : Int), none⟩]) E rfl (by kernel_rfl) rfl rfl (fun hp => ⟨?_, ?_, ?_, ?_, ?_, ?_, ?_, ?_, ?_, trivial⟩) ?_
    · exact q_loadRat hp (free_of rfl) trivial (List.mem_iff_getElem?.2 ⟨0, rfl⟩) (.inl rfl) rfl (sq_out rfl rfl (fun _ _ => rfl)) (fun us w hl h => h)
    · exact q_loadRat hp (free_of rfl) trivial (List.mem_iff_getElem?.2 ⟨1, rfl⟩) (.inl rfl) rfl (sq_out rfl rfl (fun _ _ => rfl)) (fun us w hl h => h)
    · exact q_call2 (F := (Fq.pair a.num (a.den : Int)).P) (G := (Fq.pair b.num (b.den : Int)).P) hp (free_of rfl) trivial (enq_Q_Div) (sq_in 0 rfl rfl (by simp) rfl (fun v w h => h)) (sq_in 1 rfl rfl (by simp) rfl (fun v w h => h)) (fun v v' w h h' => exDivP h h' hb0 (rb_le Ba.out (by omega)) (rb_le Bb.out (by omega)))
    · exact q_move hp (free_of rfl) trivial (sq_in 2 rfl rfl (by simp) rfl (fun v w h => h))
    · exact q_extract2 hp (free_of rfl) trivial (sq_in 3 rfl rfl (by simp) rfl (fun v w h => h)) (fun v1 v2 w h1 h2 => ⟨_, rfl, h1⟩)
    · exact q_extract2 hp (free_of rfl) trivial (sq_in 3 rfl rfl (by simp) rfl (fun v w h => h)) (fun v1 v2 w h1 h2 => ⟨_, rfl, h2⟩)
    · exact q_allocRat hp (List.mem_iff_getElem?.2 ⟨0, rfl⟩) rfl rfl rfl rfl (Nat.ne_of_beq_eq_false rfl) (fun _ _ => trivial) (old_ne rfl) (newk_ne rfl) (fun w => Pair.zero w)
    · exact q_storeNewRat hp (List.mem_iff_getElem?.2 ⟨0, rfl⟩) rfl rfl rfl (own_ptr rfl rfl (by simp) rfl) (sq_in 4 rfl rfl (by simp) rfl (fun v w h => ratV_pair h)) (fun _ _ => trivial) (old_ne rfl) (newi_ne rfl)
    · exact q_assign hp (free_of rfl) trivial (sq_in 5 rfl rfl (by simp) rfl (fun v w h => h))
    intro L vs w18 nb hL hC hn E18
    have e5 : vs 5 = .int .i64 0 := hC 5 (by simp)
    have e8 : vs 8 = .int .i64 0 := hC 8 (by simp)
    have e6 : vs 6 = .pointer (some ⟨nb 6, 0, none⟩) := hn _ (List.mem_iff_getElem?.2 ⟨0, rfl⟩)
    have E : Fr w [(nb 6, 4, Fq.pair (a / b).num ((a / b).den : Int)), (b5_4, 4, Fq.pair a.num (a.den : Int)), (b5_5, 4, Fq.pair b.num (b.den : Int)), (b2, 4, Fq.raw2 n2 a2 k2 c2 xs2 m2 r2 l2 q2 ys2), (b1, 4, Fq.raw2 n1 a1 k1 c1 xs1 m1 r1 l1 q1 ys1)] w18 := E18
    rw [lay_all hL]
    simp only [putAll, dstOf, List.length_cons, List.length_nil, Nat.zero_add, Nat.reduceAdd, List.getElem?_toArray, List.getElem?_cons_zero, List.getElem?_cons_succ, Option.bind_some, Act.put, List.setIfInBounds_toArray, List.set_cons_succ, List.set_cons_zero]
    rw [e5, e8, e6]
    generalize nb 6 = b18_6 at E ⊢
    generalize vs 0 = u18_0
    generalize vs 1 = u18_1
    generalize vs 2 = u18_2
    generalize vs 3 = u18_3
    generalize vs 4 = u18_4
    clear e5 e8 e6 hC hn E18 hL vs L nb
    go_upto_region 6 with (fail)
    refine region_fr (C := [Fq.pair a.num (a.den : Int), Fq.pair b.num (b.den : Int), Fq.tup2 (Fq.pair (a / b).num ((a / b).den : Int)) (Fq.is (.int .i64 0)), Fq.tup2 (Fq.pair (a / b).num ((a / b).den : Int)) (Fq.is (.int .i64 0)), Fq.pair (a / b).num ((a / b).den : Int), Fq.is (.int .i64 0), Fq.any, Fq.any, Fq.is (.int .i64 0)]) (ks := [none, none, none, none, none]) (new := [⟨6, 7, 4, Fq.pair 0 0, Fq.pair (a / b).num ((a / b).den : Int), none⟩]) E rfl (by kernel_rfl) rfl rfl (fun hp => ⟨?_, ?_, ?_, ?_, ?_, ?_, ?_, ?_, ?_, trivial⟩) ?_
    · exact q_loadRat hp (free_of rfl) trivial (List.mem_iff_getElem?.2 ⟨1, rfl⟩) (.inl rfl) rfl (sq_out rfl rfl (fun _ _ => rfl)) (fun us w hl h => h)
    · exact q_loadRat hp (free_of rfl) trivial (List.mem_iff_getElem?.2 ⟨2, rfl⟩) (.inl rfl) rfl (sq_out rfl rfl (fun _ _ => rfl)) (fun us w hl h => h)
    · exact q_call2 (F := (Fq.pair a.num (a.den : Int)).P) (G := (Fq.pair b.num (b.den : Int)).P) hp (free_of rfl) trivial (enq_S_Div) (sq_in 0 rfl rfl (by simp) rfl (fun v w h => h)) (sq_in 1 rfl rfl (by simp) rfl (fun v w h => h)) (fun v v' w h h' => exSDivP h h' (rb_le Ba.out (by omega)) (rb_le Bb.out (by omega)) hb0)
    · exact q_move hp (free_of rfl) trivial (sq_in 2 rfl rfl (by simp) rfl (fun v w h => h))
    · exact q_extract2 hp (free_of rfl) trivial (sq_in 3 rfl rfl (by simp) rfl (fun v w h => h)) (fun v1 v2 w h1 h2 => ⟨_, rfl, h1⟩)
    · exact q_extract2 hp (free_of rfl) trivial (sq_in 3 rfl rfl (by simp) rfl (fun v w h => h)) (fun v1 v2 w h1 h2 => ⟨_, rfl, h2⟩)
    · exact q_allocRat hp (List.mem_iff_getElem?.2 ⟨0, rfl⟩) rfl rfl rfl rfl (Nat.ne_of_beq_eq_false rfl) (fun _ _ => trivial) (old_ne rfl) (newk_ne rfl) (fun w => Pair.zero w)
    · exact q_storeNewRat hp (List.mem_iff_getElem?.2 ⟨0, rfl⟩) rfl rfl rfl (own_ptr rfl rfl (by simp) rfl) (sq_in 4 rfl rfl (by simp) rfl (fun v w h => ratV_pair h)) (fun _ _ => trivial) (old_ne rfl) (newi_ne rfl)
    · exact q_assign hp (free_of rfl) trivial (sq_in 5 rfl rfl (by simp) rfl (fun v w h => h))
    intro L vs w19 nb hL hC hn E19
    have e5 : vs 5 = .int .i64 0 := hC 5 (by simp)
    have e8 : vs 8 = .int .i64 0 := hC 8 (by simp)
    have e6 : vs 6 = .pointer (some ⟨nb 6, 0, none⟩) := hn _ (List.mem_iff_getElem?.2 ⟨0, rfl⟩)
    have E : Fr w [(nb 6, 4, Fq.pair (a / b).num ((a / b).den : Int)), (b18_6, 4, Fq.pair (a / b).num ((a / b).den : Int)), (b5_4, 4, Fq.pair a.num (a.den : Int)), (b5_5, 4, Fq.pair b.num (b.den : Int)), (b2, 4, Fq.raw2 n2 a2 k2 c2 xs2 m2 r2 l2 q2 ys2), (b1, 4, Fq.raw2 n1 a1 k1 c1 xs1 m1 r1 l1 q1 ys1)] w19 := E19
    rw [lay_all hL]
    simp only [putAll, dstOf, List.length_cons, List.length_nil, Nat.zero_add, Nat.reduceAdd, List.getElem?_toArray, List.getElem?_cons_zero, List.getElem?_cons_succ, Option.bind_some, Act.put, List.setIfInBounds_toArray, List.set_cons_succ, List.set_cons_zero]
    rw [e5, e8, e6]
    generalize nb 6 = b19_6 at E ⊢
    generalize vs 0 = u19_0
    generalize vs 1 = u19_1
    generalize vs 2 = u19_2
    generalize vs 3 = u19_3
    generalize vs 4 = u19_4
    clear e5 e8 e6 hC hn E19 hL vs L nb
    go_upto_region 7 with (fail)
    have B20 : Hid (Rb (Rat.divInt a.num b.num) 6) := rb_divInt hbn (Int.lt_of_lt_of_le Ba.out.1 (pw_le (by omega))) (Int.lt_of_lt_of_le Bb.out.1 (pw_le (by omega)))
    refine region_fr (C := [Fq.is (.pointer (some ⟨b5_4, 0, none⟩)), Fq.num a.num, Fq.is (.pointer (some ⟨b5_5, 0, none⟩)), Fq.num b.num, Fq.tup2 (Fq.pair (Rat.divInt a.num b.num).num ((Rat.divInt a.num b.num).den : Int)) (Fq.is (.int .i64 0)), Fq.tup2 (Fq.pair (Rat.divInt a.num b.num).num ((Rat.divInt a.num b.num).den : Int)) (Fq.is (.int .i64 0)), Fq.pair (Rat.divInt a.num b.num).num ((Rat.divInt a.num b.num).den : Int), Fq.is (.int .i64 0), Fq.any, Fq.any, Fq.is (.int .i64 0)]) (ks := [none, none, none, none, none, none]) (new := [⟨8, 9, 4, Fq.pair 0 0, Fq.pair (Rat.divInt a.num b.num).num ((Rat.divInt a.num b.num).den : Int), none⟩]) E rfl (by kernel_rfl) rfl rfl (fun hp => ⟨?_, ?_, ?_, ?_, ?_, ?_, ?_, ?_, ?_, ?_, ?_, trivial⟩) ?_
    · exact q_addr (b := b5_4) (off := 0) (off' := 0) hp (free_of rfl) trivial (sq_out rfl rfl (fun _ _ => rfl)) (fun ρ w h => by simp [execOp, go_sem, h]) (fun _ => rfl)
    · exact q_loadInt (off := 0) hp (free_of rfl) trivial (List.mem_iff_getElem?.2 ⟨2, rfl⟩) (.inl rfl) (Nat.le_of_ble_eq_true rfl) (sq_in 0 rfl rfl (by simp) rfl (fun v w h => h)) (fun us w hl h => ld_pn hl h)
    · exact q_addr (b := b5_5) (off := 0) (off' := 0) hp (free_of rfl) trivial (sq_out rfl rfl (fun _ _ => rfl)) (fun ρ w h => by simp [execOp, go_sem, h]) (fun _ => rfl)
    · exact q_loadInt (off := 0) hp (free_of rfl) trivial (List.mem_iff_getElem?.2 ⟨3, rfl⟩) (.inl rfl) (Nat.le_of_ble_eq_true rfl) (sq_in 2 rfl rfl (by simp) rfl (fun v w h => h)) (fun us w hl h => ld_pn hl h)
    · exact q_call2 (F := (Fq.num a.num).P) (G := (Fq.num b.num).P) hp (free_of rfl) trivial (enq_Q_New) (sq_in 1 rfl rfl (by simp) rfl (fun v w h => h)) (sq_in 3 rfl rfl (by simp) rfl (fun v w h => h)) (fun v v' w h h' => exNewP h h' hbn (Int.lt_of_lt_of_le Ba.out.1 (pw_le (by omega))) (Int.lt_of_lt_of_le Bb.out.1 (pw_le (by omega))))
    · exact q_move hp (free_of rfl) trivial (sq_in 4 rfl rfl (by simp) rfl (fun v w h => h))
    · exact q_extract2 hp (free_of rfl) trivial (sq_in 5 rfl rfl (by simp) rfl (fun v w h => h)) (fun v1 v2 w h1 h2 => ⟨_, rfl, h1⟩)
    · exact q_extract2 hp (free_of rfl) trivial (sq_in 5 rfl rfl (by simp) rfl (fun v w h => h)) (fun v1 v2 w h1 h2 => ⟨_, rfl, h2⟩)
    · exact q_allocRat hp (List.mem_iff_getElem?.2 ⟨0, rfl⟩) rfl rfl rfl rfl (Nat.ne_of_beq_eq_false rfl) (fun _ _ => trivial) (old_ne rfl) (newk_ne rfl) (fun w => Pair.zero w)
    · exact q_storeNewRat hp (List.mem_iff_getElem?.2 ⟨0, rfl⟩) rfl rfl rfl (own_ptr rfl rfl (by simp) rfl) (sq_in 6 rfl rfl (by simp) rfl (fun v w h => ratV_pair h)) (fun _ _ => trivial) (old_ne rfl) (newi_ne rfl)
    · exact q_assign hp (free_of rfl) trivial (sq_in 7 rfl rfl (by simp) rfl (fun v w h => h))
    intro L vs w21 nb hL hC hn E21
    have e0 : vs 0 = .pointer (some ⟨b5_4, 0, none⟩) := hC 0 (by simp)
    have e2 : vs 2 = .pointer (some ⟨b5_5, 0, none⟩) := hC 2 (by simp)
    have e7 : vs 7 = .int .i64 0 := hC 7 (by simp)
    have e10 : vs 10 = .int .i64 0 := hC 10 (by simp)
    have e8 : vs 8 = .pointer (some ⟨nb 8, 0, none⟩) := hn _ (List.mem_iff_getElem?.2 ⟨0, rfl⟩)
    have E : Fr w [(nb 8, 4, Fq.pair (Rat.divInt a.num b.num).num ((Rat.divInt a.num b.num).den : Int)), (b19_6, 4, Fq.pair (a / b).num ((a / b).den : Int)), (b18_6, 4, Fq.pair (a / b).num ((a / b).den : Int)), (b5_4, 4, Fq.pair a.num (a.den : Int)), (b5_5, 4, Fq.pair b.num (b.den : Int)), (b2, 4, Fq.raw2 n2 a2 k2 c2 xs2 m2 r2 l2 q2 ys2), (b1, 4, Fq.raw2 n1 a1 k1 c1 xs1 m1 r1 l1 q1 ys1)] w21 := E21
    rw [lay_all hL]
    simp only [putAll, dstOf, List.length_cons, List.length_nil, Nat.zero_add, Nat.reduceAdd, List.getElem?_toArray, List.getElem?_cons_zero, List.getElem?_cons_succ, Option.bind_some, Act.put, List.setIfInBounds_toArray, List.set_cons_succ, List.set_cons_zero]
    rw [e0, e2, e7, e10, e8]
    generalize nb 8 = b21_8 at E ⊢
    generalize vs 1 = u21_1
    generalize vs 3 = u21_3
    generalize vs 4 = u21_4
    generalize vs 5 = u21_5
    generalize vs 6 = u21_6
    clear e0 e2 e7 e10 e8 hC hn E21 hL vs L nb
    go_upto_region 8 with (fail)
    refine region_fr (C := [Fq.is (.pointer (some ⟨b5_4, 0, none⟩)), Fq.num a.num, Fq.is (.pointer (some ⟨b5_5, 0, none⟩)), Fq.num b.num, Fq.tup2 (Fq.pair (Rat.divInt a.num b.num).num ((Rat.divInt a.num b.num).den : Int)) (Fq.is (.int .i64 0)), Fq.tup2 (Fq.pair (Rat.divInt a.num b.num).num ((Rat.divInt a.num b.num).den : Int)) (Fq.is (.int .i64 0)), Fq.pair (Rat.divInt a.num b.num).num ((Rat.divInt a.num b.num).den : Int), Fq.is (.int .i64 0), Fq.any, Fq.any, Fq.is (.int .i64 0)]) (ks := [none, none, none, none, none, none, none]) (new := [⟨8, 9, 4, Fq.pair 0 0, Fq.pair (Rat.divInt a.num b.num).num ((Rat.divInt a.num b.num).den : Int), none⟩]) E rfl (by kernel_rfl) rfl rfl (fun hp => ⟨?_, ?_, ?_, ?_, ?_, ?_, ?_, ?_, ?_, ?_, ?_, trivial⟩) ?_
    · exact q_addr (b := b5_4) (off := 0) (off' := 0) hp (free_of rfl) trivial (sq_out rfl rfl (fun _ _ => rfl)) (fun ρ w h => by simp [execOp, go_sem, h]) (fun _ => rfl)
    · exact q_loadInt (off := 0) hp (free_of rfl) trivial (List.mem_iff_getElem?.2 ⟨3, rfl⟩) (.inl rfl) (Nat.le_of_ble_eq_true rfl) (sq_in 0 rfl rfl (by simp) rfl (fun v w h => h)) (fun us w hl h => ld_pn hl h)
    · exact q_addr (b := b5_5) (off := 0) (off' := 0) hp (free_of rfl) trivial (sq_out rfl rfl (fun _ _ => rfl)) (fun ρ w h => by simp [execOp, go_sem, h]) (fun _ => rfl)
    · exact q_loadInt (off := 0) hp (free_of rfl) trivial (List.mem_iff_getElem?.2 ⟨4, rfl⟩) (.inl rfl) (Nat.le_of_ble_eq_true rfl) (sq_in 2 rfl rfl (by simp) rfl (fun v w h => h)) (fun us w hl h => ld_pn hl h)
    · exact q_call2 (F := (Fq.num a.num).P) (G := (Fq.num b.num).P) hp (free_of rfl) trivial (enq_S_New) (sq_in 1 rfl rfl (by simp) rfl (fun v w h => h)) (sq_in 3 rfl rfl (by simp) rfl (fun v w h => h)) (fun v v' w h h' => exSNewP h h' hbn (Int.lt_of_lt_of_le Ba.out.1 (pw_le (by omega))) (Int.lt_of_lt_of_le Bb.out.1 (pw_le (by omega))))
    · exact q_move hp (free_of rfl) trivial (sq_in 4 rfl rfl (by simp) rfl (fun v w h => h))
    · exact q_extract2 hp (free_of rfl) trivial (sq_in 5 rfl rfl (by simp) rfl (fun v w h => h)) (fun v1 v2 w h1 h2 => ⟨_, rfl, h1⟩)
    · exact q_extract2 hp (free_of rfl) trivial (sq_in 5 rfl rfl (by simp) rfl (fun v w h => h)) (fun v1 v2 w h1 h2 => ⟨_, rfl, h2⟩)
    · exact q_allocRat hp (List.mem_iff_getElem?.2 ⟨0, rfl⟩) rfl rfl rfl rfl (Nat.ne_of_beq_eq_false rfl) (fun _ _ => trivial) (old_ne rfl) (newk_ne rfl) (fun w => Pair.zero w)
    · exact q_storeNewRat hp (List.mem_iff_getElem?.2 ⟨0, rfl⟩) rfl rfl rfl (own_ptr rfl rfl (by simp) rfl) (sq_in 6 rfl rfl (by simp) rfl (fun v w h => ratV_pair h)) (fun _ _ => trivial) (old_ne rfl) (newi_ne rfl)
    · exact q_assign hp (free_of rfl) trivial (sq_in 7 rfl rfl (by simp) rfl (fun v w h => h))
    intro L vs w22 nb hL hC hn E22
    have e0 : vs 0 = .pointer (some ⟨b5_4, 0, none⟩) := hC 0 (by simp)
    have e2 : vs 2 = .pointer (some ⟨b5_5, 0, none⟩) := hC 2 (by simp)
    have e7 : vs 7 = .int .i64 0 := hC 7 (by simp)
    have e10 : vs 10 = .int .i64 0 := hC 10 (by simp)
    have e8 : vs 8 = .pointer (some ⟨nb 8, 0, none⟩) := hn _ (List.mem_iff_getElem?.2 ⟨0, rfl⟩)
    have E : Fr w [(nb 8, 4, Fq.pair (Rat.divInt a.num b.num).num ((Rat.divInt a.num b.num).den : Int)), (b21_8, 4, Fq.pair (Rat.divInt a.num b.num).num ((Rat.divInt a.num b.num).den : Int)), (b19_6, 4, Fq.pair (a / b).num ((a / b).den : Int)), (b18_6, 4, Fq.pair (a / b).num ((a / b).den : Int)), (b5_4, 4, Fq.pair a.num (a.den : Int)), (b5_5, 4, Fq.pair b.num (b.den : Int)), (b2, 4, Fq.raw2 n2 a2 k2 c2 xs2 m2 r2 l2 q2 ys2), (b1, 4, Fq.raw2 n1 a1 k1 c1 xs1 m1 r1 l1 q1 ys1)] w22 := E22
    rw [lay_all hL]
    simp only [putAll, dstOf, List.length_cons, List.length_nil, Nat.zero_add, Nat.reduceAdd, List.getElem?_toArray, List.getElem?_cons_zero, List.getElem?_cons_succ, Option.bind_some, Act.put, List.setIfInBounds_toArray, List.set_cons_succ, List.set_cons_zero]
    rw [e0, e2, e7, e10, e8]
    generalize nb 8 = b22_8 at E ⊢
    generalize vs 1 = u22_1
    generalize vs 3 = u22_3
    generalize vs 4 = u22_4
    generalize vs 5 = u22_5
    generalize vs 6 = u22_6
    clear e0 e2 e7 e10 e8 hC hn E22 hL vs L nb
    go_upto_region 9 with (fail)
    refine region_fr (C := [Fq.is (.int .i64 0), Fq.is (.int .i64 0), Fq.is (.bool false), Fq.is (.bool false), Fq.is (.int .i64 0), Fq.is (.int .i64 0), Fq.is (.bool false), Fq.is (.bool false), Fq.is (.bool false), Fq.pair (a / b).num ((a / b).den : Int), Fq.pair (a / b).num ((a / b).den : Int), Fq.is (.bool true), Fq.is (.bool false), Fq.is (.bool false), Fq.is (.bool false), Fq.pair (Rat.divInt a.num b.num).num ((Rat.divInt a.num b.num).den : Int), Fq.pair (Rat.divInt a.num b.num).num ((Rat.divInt a.num b.num).den : Int), Fq.is (.bool true), Fq.is (.bool false), Fq.is (.bool false)]) (ks := [none, none, none, none, none, none, none, none]) (new := []) E rfl (by kernel_rfl) rfl rfl (fun hp => ⟨?_, ?_, ?_, ?_, ?_, ?_, ?_, ?_, ?_, ?_, ?_, ?_, ?_, ?_, ?_, ?_, ?_, ?_, ?_, ?_, trivial⟩) ?_
    · exact q_move hp (free_of rfl) trivial (sq_out rfl rfl (fun _ _ => rfl))
    · exact q_move hp (free_of rfl) trivial (sq_out rfl rfl (fun _ _ => rfl))
    · exact q_two (F := fun v _ => v = .int .i64 0) (G := fun v _ => v = .int .i64 0) hp (free_of rfl) trivial (sq_in 0 rfl rfl (by simp) rfl (fun v w h => h)) (sq_in 1 rfl rfl (by simp) rfl (fun v w h => h)) (fun ρ w hc h h' => ⟨.bool false, by simp [execOp, go_sem, h, h'], rfl⟩)
    · exact q_move hp (free_of rfl) trivial (sq_in 2 rfl rfl (by simp) rfl (fun v w h => h))
    · exact q_move hp (free_of rfl) (gq_some rfl rfl (by simp) rfl (fun v w h => h)) (sq_out rfl rfl (fun _ _ => rfl))
    · exact q_move hp (free_of rfl) (gq_some rfl rfl (by simp) rfl (fun v w h => h)) (sq_out rfl rfl (fun _ _ => rfl))
    · exact q_two (F := fun v _ => v = .int .i64 0) (G := fun v _ => v = .int .i64 0) hp (free_of rfl) (gq_some rfl rfl (by simp) rfl (fun v w h => h)) (sq_in 4 rfl rfl (by simp) rfl (fun v w h => h)) (sq_in 5 rfl rfl (by simp) rfl (fun v w h => h)) (fun ρ w hc h h' => ⟨.bool false, by simp [execOp, go_sem, h, h'], rfl⟩)
    · exact q_two (F := fun v _ => v = .bool false) (G := fun v _ => v = .bool false) hp (free_of rfl) trivial (sq_in 3 rfl rfl (by simp) rfl (fun v w h => h)) (sq_in 6 rfl rfl (by simp) rfl (fun v w h => h)) (fun ρ w hc h h' => ⟨_, by simp [execOp, go_sem, h, h'], rfl⟩)
    · exact q_move hp (free_of rfl) trivial (sq_in 7 rfl rfl (by simp) rfl (fun v w h => h))
    · exact q_loadRat hp (free_of rfl) (gq_some rfl rfl (by simp) rfl (fun v w h => h)) (List.mem_iff_getElem?.2 ⟨3, rfl⟩) (.inl rfl) rfl (sq_out rfl rfl (fun _ _ => rfl)) (fun us w hl h => h)
    · exact q_loadRat hp (free_of rfl) (gq_some rfl rfl (by simp) rfl (fun v w h => h)) (List.mem_iff_getElem?.2 ⟨2, rfl⟩) (.inl rfl) rfl (sq_out rfl rfl (fun _ _ => rfl)) (fun us w hl h => h)
    · exact q_call2 (F := (Fq.pair (a / b).num ((a / b).den : Int)).P) (G := (Fq.pair (a / b).num ((a / b).den : Int)).P) hp (free_of rfl) (gq_some rfl rfl (by simp) rfl (fun v w h => h)) (enq_S_Same) (sq_in 9 rfl rfl (by simp) rfl (fun v w h => h)) (sq_in 10 rfl rfl (by simp) rfl (fun v w h => h)) (fun v v' w h h' => exSSameQ h h' rfl)
    · exact q_one (F := fun v _ => v = .bool true) hp (free_of rfl) (gq_some rfl rfl (by simp) rfl (fun v w h => h)) (sq_in 11 rfl rfl (by simp) rfl (fun v w h => h)) (fun ρ w _ h => ⟨.bool false, by simp [execOp, go_sem, h], rfl⟩)
    · exact q_two (F := fun v _ => v = .bool false) (G := fun v _ => v = .bool false) hp (free_of rfl) trivial (sq_in 8 rfl rfl (by simp) rfl (fun v w h => h)) (sq_in 12 rfl rfl (by simp) rfl (fun v w h => h)) (fun ρ w hc h h' => ⟨_, by simp [execOp, go_sem, h, h'], rfl⟩)
    · exact q_move hp (free_of rfl) trivial (sq_in 13 rfl rfl (by simp) rfl (fun v w h => h))
    · exact q_loadRat hp (free_of rfl) (gq_some rfl rfl (by simp) rfl (fun v w h => h)) (List.mem_iff_getElem?.2 ⟨1, rfl⟩) (.inl rfl) rfl (sq_out rfl rfl (fun _ _ => rfl)) (fun us w hl h => h)
    · exact q_loadRat hp (free_of rfl) (gq_some rfl rfl (by simp) rfl (fun v w h => h)) (List.mem_iff_getElem?.2 ⟨0, rfl⟩) (.inl rfl) rfl (sq_out rfl rfl (fun _ _ => rfl)) (fun us w hl h => h)
    · exact q_call2 (F := (Fq.pair (Rat.divInt a.num b.num).num ((Rat.divInt a.num b.num).den : Int)).P) (G := (Fq.pair (Rat.divInt a.num b.num).num ((Rat.divInt a.num b.num).den : Int)).P) hp (free_of rfl) (gq_some rfl rfl (by simp) rfl (fun v w h => h)) (enq_S_Same) (sq_in 15 rfl rfl (by simp) rfl (fun v w h => h)) (sq_in 16 rfl rfl (by simp) rfl (fun v w h => h)) (fun v v' w h h' => exSSameQ h h' rfl)
    · exact q_one (F := fun v _ => v = .bool true) hp (free_of rfl) (gq_some rfl rfl (by simp) rfl (fun v w h => h)) (sq_in 17 rfl rfl (by simp) rfl (fun v w h => h)) (fun ρ w _ h => ⟨.bool false, by simp [execOp, go_sem, h], rfl⟩)
    · exact q_two (F := fun v _ => v = .bool false) (G := fun v _ => v = .bool false) hp (free_of rfl) trivial (sq_in 14 rfl rfl (by simp) rfl (fun v w h => h)) (sq_in 18 rfl rfl (by simp) rfl (fun v w h => h)) (fun ρ w hc h h' => ⟨_, by simp [execOp, go_sem, h, h'], rfl⟩)
    intro L vs w23 nb hL hC hn E23
    have e0 : vs 0 = .int .i64 0 := hC 0 (by simp)
    have e1 : vs 1 = .int .i64 0 := hC 1 (by simp)
    have e2 : vs 2 = .bool false := hC 2 (by simp)
    have e3 : vs 3 = .bool false := hC 3 (by simp)
    have e4 : vs 4 = .int .i64 0 := hC 4 (by simp)
    have e5 : vs 5 = .int .i64 0 := hC 5 (by simp)
    have e6 : vs 6 = .bool false := hC 6 (by simp)
    have e7 : vs 7 = .bool false := hC 7 (by simp)
    have e8 : vs 8 = .bool false := hC 8 (by simp)
    have e11 : vs 11 = .bool true := hC 11 (by simp)
    have e12 : vs 12 = .bool false := hC 12 (by simp)
    have e13 : vs 13 = .bool false := hC 13 (by simp)
    have e14 : vs 14 = .bool false := hC 14 (by simp)
    have e17 : vs 17 = .bool true := hC 17 (by simp)
    have e18 : vs 18 = .bool false := hC 18 (by simp)
    have e19 : vs 19 = .bool false := hC 19 (by simp)
    have E : Fr w [(b22_8, 4, Fq.pair (Rat.divInt a.num b.num).num ((Rat.divInt a.num b.num).den : Int)), (b21_8, 4, Fq.pair (Rat.divInt a.num b.num).num ((Rat.divInt a.num b.num).den : Int)), (b19_6, 4, Fq.pair (a / b).num ((a / b).den : Int)), (b18_6, 4, Fq.pair (a / b).num ((a / b).den : Int)), (b5_4, 4, Fq.pair a.num (a.den : Int)), (b5_5, 4, Fq.pair b.num (b.den : Int)), (b2, 4, Fq.raw2 n2 a2 k2 c2 xs2 m2 r2 l2 q2 ys2), (b1, 4, Fq.raw2 n1 a1 k1 c1 xs1 m1 r1 l1 q1 ys1)] w23 := E23
    rw [lay_all hL]
    simp only [putAll, dstOf, List.length_cons, List.length_nil, Nat.zero_add, Nat.reduceAdd, List.getElem?_toArray, List.getElem?_cons_zero, List.getElem?_cons_succ, Option.bind_some, Act.put, List.setIfInBounds_toArray, List.set_cons_succ, List.set_cons_zero]
    rw [e0, e1, e2, e3, e4, e5, e6, e7, e8, e11, e12, e13, e14, e17, e18, e19]
    generalize vs 9 = u23_9
    generalize vs 10 = u23_10
    generalize vs 15 = u23_15
    generalize vs 16 = u23_16
    clear e0 e1 e2 e3 e4 e5 e6 e7 e8 e11 e12 e13 e14 e17 e18 e19 hC hn E23 hL vs L nb
    clear hb0 hbn
    go_upto_region 11 with (fail)
    have B24 : Hid (Rb (a + b) 13) := rb_le (rb_add Ba.out Bb.out) (by omega)
    have B25 : Hid (Rb (a - b) 13) := rb_le (rb_sub Ba.out Bb.out) (by omega)
    have B26 : Hid (Rb (a * b) 12) := rb_le (rb_mul Ba.out Bb.out) (by omega)
    refine region_fr (C := [Fq.pair a.num (a.den : Int), Fq.pair b.num (b.den : Int), Fq.pair (a + b).num ((a + b).den : Int), Fq.pair a.num (a.den : Int), Fq.pair b.num (b.den : Int), Fq.pair (a + b).num ((a + b).den : Int), Fq.is (.bool true), Fq.is (.bool false), Fq.is (.bool false), Fq.pair a.num (a.den : Int), Fq.pair b.num (b.den : Int), Fq.pair (a - b).num ((a - b).den : Int), Fq.pair a.num (a.den : Int), Fq.pair b.num (b.den : Int), Fq.pair (a - b).num ((a - b).den : Int), Fq.is (.bool true), Fq.is (.bool false), Fq.is (.bool false), Fq.is (.bool false), Fq.pair a.num (a.den : Int), Fq.pair b.num (b.den : Int), Fq.pair (a * b).num ((a * b).den : Int), Fq.pair a.num (a.den : Int), Fq.pair b.num (b.den : Int), Fq.pair (a * b).num ((a * b).den : Int), Fq.is (.bool true), Fq.is (.bool false), Fq.is (.bool false)]) (ks := [none, none, none, none, none, none, none, none]) (new := []) E rfl (by kernel_rfl) rfl rfl (fun hp => ⟨?_, ?_, ?_, ?_, ?_, ?_, ?_, ?_, ?_, ?_, ?_, ?_, ?_, ?_, ?_, ?_, ?_, ?_, ?_, ?_, ?_, ?_, ?_, ?_, ?_, ?_, ?_, ?_, trivial⟩) ?_
    · exact q_loadRat hp (free_of rfl) trivial (List.mem_iff_getElem?.2 ⟨4, rfl⟩) (.inl rfl) rfl (sq_out rfl rfl (fun _ _ => rfl)) (fun us w hl h => h)
    · exact q_loadRat hp (free_of rfl) trivial (List.mem_iff_getElem?.2 ⟨5, rfl⟩) (.inl rfl) rfl (sq_out rfl rfl (fun _ _ => rfl)) (fun us w hl h => h)
    · exact q_call2 (F := (Fq.pair a.num (a.den : Int)).P) (G := (Fq.pair b.num (b.den : Int)).P) hp (free_of rfl) trivial (enq_Q_Add) (sq_in 0 rfl rfl (by simp) rfl (fun v w h => h)) (sq_in 1 rfl rfl (by simp) rfl (fun v w h => h)) (fun v v' w h h' => exAddQ h h' (rb_le Ba.out (by omega)) (rb_le Bb.out (by omega)))
    · exact q_loadRat hp (free_of rfl) trivial (List.mem_iff_getElem?.2 ⟨4, rfl⟩) (.inl rfl) rfl (sq_out rfl rfl (fun _ _ => rfl)) (fun us w hl h => h)
    · exact q_loadRat hp (free_of rfl) trivial (List.mem_iff_getElem?.2 ⟨5, rfl⟩) (.inl rfl) rfl (sq_out rfl rfl (fun _ _ => rfl)) (fun us w hl h => h)
    · exact q_call2 (F := (Fq.pair a.num (a.den : Int)).P) (G := (Fq.pair b.num (b.den : Int)).P) hp (free_of rfl) trivial (enq_S_Add) (sq_in 3 rfl rfl (by simp) rfl (fun v w h => h)) (sq_in 4 rfl rfl (by simp) rfl (fun v w h => h)) (fun v v' w h h' => exSAddQ h h' (rb_le Ba.out (by omega)) (rb_le Bb.out (by omega)))
    · exact q_call2 (F := (Fq.pair (a + b).num ((a + b).den : Int)).P) (G := (Fq.pair (a + b).num ((a + b).den : Int)).P) hp (free_of rfl) trivial (enq_S_Same) (sq_in 2 rfl rfl (by simp) rfl (fun v w h => h)) (sq_in 5 rfl rfl (by simp) rfl (fun v w h => h)) (fun v v' w h h' => exSSameQ h h' rfl)
    · exact q_one (F := fun v _ => v = .bool true) hp (free_of rfl) trivial (sq_in 6 rfl rfl (by simp) rfl (fun v w h => h)) (fun ρ w _ h => ⟨.bool false, by simp [execOp, go_sem, h], rfl⟩)
    · exact q_move hp (free_of rfl) trivial (sq_in 7 rfl rfl (by simp) rfl (fun v w h => h))
    · exact q_loadRat hp (free_of rfl) (gq_some rfl rfl (by simp) rfl (fun v w h => h)) (List.mem_iff_getElem?.2 ⟨4, rfl⟩) (.inl rfl) rfl (sq_out rfl rfl (fun _ _ => rfl)) (fun us w hl h => h)
    · exact q_loadRat hp (free_of rfl) (gq_some rfl rfl (by simp) rfl (fun v w h => h)) (List.mem_iff_getElem?.2 ⟨5, rfl⟩) (.inl rfl) rfl (sq_out rfl rfl (fun _ _ => rfl)) (fun us w hl h => h)
    · exact q_call2 (F := (Fq.pair a.num (a.den : Int)).P) (G := (Fq.pair b.num (b.den : Int)).P) hp (free_of rfl) (gq_some rfl rfl (by simp) rfl (fun v w h => h)) (enq_Q_Sub) (sq_in 9 rfl rfl (by simp) rfl (fun v w h => h)) (sq_in 10 rfl rfl (by simp) rfl (fun v w h => h)) (fun v v' w h h' => exSubQ h h' (rb_le Ba.out (by omega)) (rb_le Bb.out (by omega)))
    · exact q_loadRat hp (free_of rfl) (gq_some rfl rfl (by simp) rfl (fun v w h => h)) (List.mem_iff_getElem?.2 ⟨4, rfl⟩) (.inl rfl) rfl (sq_out rfl rfl (fun _ _ => rfl)) (fun us w hl h => h)
    · exact q_loadRat hp (free_of rfl) (gq_some rfl rfl (by simp) rfl (fun v w h => h)) (List.mem_iff_getElem?.2 ⟨5, rfl⟩) (.inl rfl) rfl (sq_out rfl rfl (fun _ _ => rfl)) (fun us w hl h => h)
    · exact q_call2 (F := (Fq.pair a.num (a.den : Int)).P) (G := (Fq.pair b.num (b.den : Int)).P) hp (free_of rfl) (gq_some rfl rfl (by simp) rfl (fun v w h => h)) (enq_S_Sub) (sq_in 12 rfl rfl (by simp) rfl (fun v w h => h)) (sq_in 13 rfl rfl (by simp) rfl (fun v w h => h)) (fun v v' w h h' => exSSubQ h h' (rb_le Ba.out (by omega)) (rb_le Bb.out (by omega)))
    · exact q_call2 (F := (Fq.pair (a - b).num ((a - b).den : Int)).P) (G := (Fq.pair (a - b).num ((a - b).den : Int)).P) hp (free_of rfl) (gq_some rfl rfl (by simp) rfl (fun v w h => h)) (enq_S_Same) (sq_in 11 rfl rfl (by simp) rfl (fun v w h => h)) (sq_in 14 rfl rfl (by simp) rfl (fun v w h => h)) (fun v v' w h h' => exSSameQ h h' rfl)
    · exact q_one (F := fun v _ => v = .bool true) hp (free_of rfl) (gq_some rfl rfl (by simp) rfl (fun v w h => h)) (sq_in 15 rfl rfl (by simp) rfl (fun v w h => h)) (fun ρ w _ h => ⟨.bool false, by simp [execOp, go_sem, h], rfl⟩)
    · exact q_two (F := fun v _ => v = .bool false) (G := fun v _ => v = .bool false) hp (free_of rfl) trivial (sq_in 8 rfl rfl (by simp) rfl (fun v w h => h)) (sq_in 16 rfl rfl (by simp) rfl (fun v w h => h)) (fun ρ w hc h h' => ⟨_, by simp [execOp, go_sem, h, h'], rfl⟩)
    · exact q_move hp (free_of rfl) trivial (sq_in 17 rfl rfl (by simp) rfl (fun v w h => h))
    · exact q_loadRat hp (free_of rfl) (gq_some rfl rfl (by simp) rfl (fun v w h => h)) (List.mem_iff_getElem?.2 ⟨4, rfl⟩) (.inl rfl) rfl (sq_out rfl rfl (fun _ _ => rfl)) (fun us w hl h => h)
    · exact q_loadRat hp (free_of rfl) (gq_some rfl rfl (by simp) rfl (fun v w h => h)) (List.mem_iff_getElem?.2 ⟨5, rfl⟩) (.inl rfl) rfl (sq_out rfl rfl (fun _ _ => rfl)) (fun us w hl h => h)
    · exact q_call2 (F := (Fq.pair a.num (a.den : Int)).P) (G := (Fq.pair b.num (b.den : Int)).P) hp (free_of rfl) (gq_some rfl rfl (by simp) rfl (fun v w h => h)) (enq_Q_Mul) (sq_in 19 rfl rfl (by simp) rfl (fun v w h => h)) (sq_in 20 rfl rfl (by simp) rfl (fun v w h => h)) (fun v v' w h h' => exMulQ h h' (rb_le Ba.out (by omega)) (rb_le Bb.out (by omega)))
    · exact q_loadRat hp (free_of rfl) (gq_some rfl rfl (by simp) rfl (fun v w h => h)) (List.mem_iff_getElem?.2 ⟨4, rfl⟩) (.inl rfl) rfl (sq_out rfl rfl (fun _ _ => rfl)) (fun us w hl h => h)
    · exact q_loadRat hp (free_of rfl) (gq_some rfl rfl (by simp) rfl (fun v w h => h)) (List.mem_iff_getElem?.2 ⟨5, rfl⟩) (.inl rfl) rfl (sq_out rfl rfl (fun _ _ => rfl)) (fun us w hl h => h)
    · exact q_call2 (F := (Fq.pair a.num (a.den : Int)).P) (G := (Fq.pair b.num (b.den : Int)).P) hp (free_of rfl) (gq_some rfl rfl (by simp) rfl (fun v w h => h)) (enq_S_Mul) (sq_in 22 rfl rfl (by simp) rfl (fun v w h => h)) (sq_in 23 rfl rfl (by simp) rfl (fun v w h => h)) (fun v v' w h h' => exSMulQ h h' (rb_le Ba.out (by omega)) (rb_le Bb.out (by omega)))
    · exact q_call2 (F := (Fq.pair (a * b).num ((a * b).den : Int)).P) (G := (Fq.pair (a * b).num ((a * b).den : Int)).P) hp (free_of rfl) (gq_some rfl rfl (by simp) rfl (fun v w h => h)) (enq_S_Same) (sq_in 21 rfl rfl (by simp) rfl (fun v w h => h)) (sq_in 24 rfl rfl (by simp) rfl (fun v w h => h)) (fun v v' w h h' => exSSameQ h h' rfl)
    · exact q_one (F := fun v _ => v = .bool true) hp (free_of rfl) (gq_some rfl rfl (by simp) rfl (fun v w h => h)) (sq_in 25 rfl rfl (by simp) rfl (fun v w h => h)) (fun ρ w _ h => ⟨.bool false, by simp [execOp, go_sem, h], rfl⟩)
    · exact q_two (F := fun v _ => v = .bool false) (G := fun v _ => v = .bool false) hp (free_of rfl) trivial (sq_in 18 rfl rfl (by simp) rfl (fun v w h => h)) (sq_in 26 rfl rfl (by simp) rfl (fun v w h => h)) (fun ρ w hc h h' => ⟨_, by simp [execOp, go_sem, h, h'], rfl⟩)
    intro L vs w27 nb hL hC hn E27
    have e6 : vs 6 = .bool true := hC 6 (by simp)
    have e7 : vs 7 = .bool false := hC 7 (by simp)
    have e8 : vs 8 = .bool false := hC 8 (by simp)
    have e15 : vs 15 = .bool true := hC 15 (by simp)
    have e16 : vs 16 = .bool false := hC 16 (by simp)
    have e17 : vs 17 = .bool false := hC 17 (by simp)
    have e18 : vs 18 = .bool false := hC 18 (by simp)
    have e25 : vs 25 = .bool true := hC 25 (by simp)
    have e26 : vs 26 = .bool false := hC 26 (by simp)
    have e27 : vs 27 = .bool false := hC 27 (by simp)
    have E : Fr w [(b22_8, 4, Fq.pair (Rat.divInt a.num b.num).num ((Rat.divInt a.num b.num).den : Int)), (b21_8, 4, Fq.pair (Rat.divInt a.num b.num).num ((Rat.divInt a.num b.num).den : Int)), (b19_6, 4, Fq.pair (a / b).num ((a / b).den : Int)), (b18_6, 4, Fq.pair (a / b).num ((a / b).den : Int)), (b5_4, 4, Fq.pair a.num (a.den : Int)), (b5_5, 4, Fq.pair b.num (b.den : Int)), (b2, 4, Fq.raw2 n2 a2 k2 c2 xs2 m2 r2 l2 q2 ys2), (b1, 4, Fq.raw2 n1 a1 k1 c1 xs1 m1 r1 l1 q1 ys1)] w27 := E27
    rw [lay_all hL]
    simp only [putAll, dstOf, List.length_cons, List.length_nil, Nat.zero_add, Nat.reduceAdd, List.getElem?_toArray, List.getElem?_cons_zero, List.getElem?_cons_succ, Option.bind_some, Act.put, List.setIfInBounds_toArray, List.set_cons_succ, List.set_cons_zero]
    rw [e6, e7, e8, e15, e16, e17, e18, e25, e26, e27]
    generalize vs 0 = u27_0
    generalize vs 1 = u27_1
    generalize vs 2 = u27_2
    generalize vs 3 = u27_3
    generalize vs 4 = u27_4
    generalize vs 5 = u27_5
    generalize vs 9 = u27_9
    generalize vs 10 = u27_10
    generalize vs 11 = u27_11
    generalize vs 12 = u27_12
    generalize vs 13 = u27_13
    generalize vs 14 = u27_14
    generalize vs 19 = u27_19
    generalize vs 20 = u27_20
    generalize vs 21 = u27_21
    generalize vs 22 = u27_22
    generalize vs 23 = u27_23
    generalize vs 24 = u27_24
    clear e6 e7 e8 e15 e16 e17 e18 e25 e26 e27 hC hn E27 hL vs L nb
    go_upto_region 13 with (fail)
    have B28 : Hid (ab (a.floor) < pw 7) := Int.lt_of_lt_of_le (rb_floor Ba.out) (pw_le (by omega))
    refine region_fr (C := [Fq.pair a.num (a.den : Int), Fq.pair b.num (b.den : Int), Fq.is (.int .i64 (cmpQ a b)), Fq.pair a.num (a.den : Int), Fq.pair b.num (b.den : Int), Fq.is (.int .i64 (cmpQ a b)), Fq.is (.bool true), Fq.is (.bool true), Fq.pair a.num (a.den : Int), Fq.is (.int .i64 (cmpI a.num 0)), Fq.pair a.num (a.den : Int), Fq.is (.int .i64 (cmpI a.num 0)), Fq.is (.bool true), Fq.is (.bool true), Fq.is (.bool true), Fq.pair a.num (a.den : Int), Fq.num a.floor, Fq.pair a.num (a.den : Int), Fq.num a.floor, Fq.is (.bool true), Fq.is (.bool true), Fq.is (.bool true), Fq.is (.bool true), Fq.is (.bool true), Fq.is (.bool true)]) (ks := [none, none, none, none, none, none, none, none]) (new := []) E rfl (by kernel_rfl) rfl rfl (fun hp => ⟨?_, ?_, ?_, ?_, ?_, ?_, ?_, ?_, ?_, ?_, ?_, ?_, ?_, ?_, ?_, ?_, ?_, ?_, ?_, ?_, ?_, ?_, ?_, ?_, ?_, trivial⟩) ?_
    · exact q_loadRat hp (free_of rfl) trivial (List.mem_iff_getElem?.2 ⟨4, rfl⟩) (.inl rfl) rfl (sq_out rfl rfl (fun _ _ => rfl)) (fun us w hl h => h)
    · exact q_loadRat hp (free_of rfl) trivial (List.mem_iff_getElem?.2 ⟨5, rfl⟩) (.inl rfl) rfl (sq_out rfl rfl (fun _ _ => rfl)) (fun us w hl h => h)
    · exact q_call2 (F := (Fq.pair a.num (a.den : Int)).P) (G := (Fq.pair b.num (b.den : Int)).P) hp (free_of rfl) trivial (enq_Q_Cmp) (sq_in 0 rfl rfl (by simp) rfl (fun v w h => h)) (sq_in 1 rfl rfl (by simp) rfl (fun v w h => h)) (fun v v' w h h' => exCmpQ h h' (rb_le Ba.out (by omega)) (rb_le Bb.out (by omega)))
    · exact q_loadRat hp (free_of rfl) trivial (List.mem_iff_getElem?.2 ⟨4, rfl⟩) (.inl rfl) rfl (sq_out rfl rfl (fun _ _ => rfl)) (fun us w hl h => h)
    · exact q_loadRat hp (free_of rfl) trivial (List.mem_iff_getElem?.2 ⟨5, rfl⟩) (.inl rfl) rfl (sq_out rfl rfl (fun _ _ => rfl)) (fun us w hl h => h)
    · exact q_call2 (F := (Fq.pair a.num (a.den : Int)).P) (G := (Fq.pair b.num (b.den : Int)).P) hp (free_of rfl) trivial (enq_S_Cmp) (sq_in 3 rfl rfl (by simp) rfl (fun v w h => h)) (sq_in 4 rfl rfl (by simp) rfl (fun v w h => h)) (fun v v' w h h' => exSCmpQ h h' (rb_le Ba.out (by omega)) (rb_le Bb.out (by omega)))
    · exact q_two (F := fun v _ => v = .int .i64 (cmpQ a b)) (G := fun v _ => v = .int .i64 (cmpQ a b)) hp (free_of rfl) trivial (sq_in 2 rfl rfl (by simp) rfl (fun v w h => h)) (sq_in 5 rfl rfl (by simp) rfl (fun v w h => h)) (fun ρ w hc h h' => ⟨.bool true, by simp [execOp, go_sem, h, h'], rfl⟩)
    · exact q_move hp (free_of rfl) trivial (sq_in 6 rfl rfl (by simp) rfl (fun v w h => h))
    · exact q_loadRat hp (free_of rfl) (gq_some rfl rfl (by simp) rfl (fun v w h => h)) (List.mem_iff_getElem?.2 ⟨4, rfl⟩) (.inl rfl) rfl (sq_out rfl rfl (fun _ _ => rfl)) (fun us w hl h => h)
    · exact q_call1 (F := (Fq.pair a.num (a.den : Int)).P) hp (free_of rfl) (gq_some rfl rfl (by simp) rfl (fun v w h => h)) (enq_Q_Sign) (sq_in 8 rfl rfl (by simp) rfl (fun v w h => h)) (fun v w h => exSignQ h)
    · exact q_loadRat hp (free_of rfl) (gq_some rfl rfl (by simp) rfl (fun v w h => h)) (List.mem_iff_getElem?.2 ⟨4, rfl⟩) (.inl rfl) rfl (sq_out rfl rfl (fun _ _ => rfl)) (fun us w hl h => h)
    · exact q_call1 (F := (Fq.pair a.num (a.den : Int)).P) hp (free_of rfl) (gq_some rfl rfl (by simp) rfl (fun v w h => h)) (enq_S_Sign) (sq_in 10 rfl rfl (by simp) rfl (fun v w h => h)) (fun v w h => exSSignQ h (rb_le Ba.out (by omega)))
    · exact q_two (F := fun v _ => v = .int .i64 (cmpI a.num 0)) (G := fun v _ => v = .int .i64 (cmpI a.num 0)) hp (free_of rfl) (gq_some rfl rfl (by simp) rfl (fun v w h => h)) (sq_in 9 rfl rfl (by simp) rfl (fun v w h => h)) (sq_in 11 rfl rfl (by simp) rfl (fun v w h => h)) (fun ρ w hc h h' => ⟨.bool true, by simp [execOp, go_sem, h, h'], rfl⟩)
    · exact q_two (F := fun v _ => v = .bool true) (G := fun v _ => v = .bool true) hp (free_of rfl) trivial (sq_in 7 rfl rfl (by simp) rfl (fun v w h => h)) (sq_in 12 rfl rfl (by simp) rfl (fun v w h => h)) (fun ρ w hc h h' => ⟨_, by simp [execOp, go_sem, h, h'], rfl⟩)
    · exact q_move hp (free_of rfl) trivial (sq_in 13 rfl rfl (by simp) rfl (fun v w h => h))
    · exact q_loadRat hp (free_of rfl) (gq_some rfl rfl (by simp) rfl (fun v w h => h)) (List.mem_iff_getElem?.2 ⟨4, rfl⟩) (.inl rfl) rfl (sq_out rfl rfl (fun _ _ => rfl)) (fun us w hl h => h)
    · exact q_call1 (F := (Fq.pair a.num (a.den : Int)).P) hp (free_of rfl) (gq_some rfl rfl (by simp) rfl (fun v w h => h)) (enq_Q_Floor) (sq_in 15 rfl rfl (by simp) rfl (fun v w h => h)) (fun v w h => exFloorQ h (rb_le Ba.out (by omega)))
    · exact q_loadRat hp (free_of rfl) (gq_some rfl rfl (by simp) rfl (fun v w h => h)) (List.mem_iff_getElem?.2 ⟨4, rfl⟩) (.inl rfl) rfl (sq_out rfl rfl (fun _ _ => rfl)) (fun us w hl h => h)
    · exact q_call1 (F := (Fq.pair a.num (a.den : Int)).P) hp (free_of rfl) (gq_some rfl rfl (by simp) rfl (fun v w h => h)) (enq_S_Floor) (sq_in 17 rfl rfl (by simp) rfl (fun v w h => h)) (fun v w h => exSFloorQ h (rb_le Ba.out (by omega)))
    · exact q_call2 (F := (Fq.num a.floor).P) (G := (Fq.num a.floor).P) hp (free_of rfl) (gq_some rfl rfl (by simp) rfl (fun v w h => h)) (enq_R_Same) (sq_in 16 rfl rfl (by simp) rfl (fun v w h => h)) (sq_in 18 rfl rfl (by simp) rfl (fun v w h => h)) (fun v v' w h h' => exRSameB h h' (decide_eq_true rfl))
    · exact q_two (F := fun v _ => v = .bool true) (G := fun v _ => v = .bool true) hp (free_of rfl) trivial (sq_in 14 rfl rfl (by simp) rfl (fun v w h => h)) (sq_in 19 rfl rfl (by simp) rfl (fun v w h => h)) (fun ρ w hc h h' => ⟨_, by simp [execOp, go_sem, h, h'], rfl⟩)
    · exact q_move hp (free_of rfl) trivial (sq_in 20 rfl rfl (by simp) rfl (fun v w h => h))
    · exact q_move hp (free_of rfl) (gq_some rfl rfl (by simp) rfl (fun v w h => h)) (sq_out rfl rfl (fun _ _ => rfl))
    · exact q_two (F := fun v _ => v = .bool true) (G := fun v _ => v = .bool true) hp (free_of rfl) trivial (sq_in 21 rfl rfl (by simp) rfl (fun v w h => h)) (sq_in 22 rfl rfl (by simp) rfl (fun v w h => h)) (fun ρ w hc h h' => ⟨_, by simp [execOp, go_sem, h, h'], rfl⟩)
    · exact q_assign hp (free_of rfl) trivial (sq_in 23 rfl rfl (by simp) rfl (fun v w h => h))
    intro L vs w29 nb hL hC hn E29
    have e2 : vs 2 = .int .i64 (cmpQ a b) := hC 2 (by simp)
    have e5 : vs 5 = .int .i64 (cmpQ a b) := hC 5 (by simp)
    have e6 : vs 6 = .bool true := hC 6 (by simp)
    have e7 : vs 7 = .bool true := hC 7 (by simp)
    have e9 : vs 9 = .int .i64 (cmpI a.num 0) := hC 9 (by simp)
    have e11 : vs 11 = .int .i64 (cmpI a.num 0) := hC 11 (by simp)
    have e12 : vs 12 = .bool true := hC 12 (by simp)
    have e13 : vs 13 = .bool true := hC 13 (by simp)
    have e14 : vs 14 = .bool true := hC 14 (by simp)
    have e19 : vs 19 = .bool true := hC 19 (by simp)
    have e20 : vs 20 = .bool true := hC 20 (by simp)
    have e21 : vs 21 = .bool true := hC 21 (by simp)
    have e22 : vs 22 = .bool true := hC 22 (by simp)
    have e23 : vs 23 = .bool true := hC 23 (by simp)
    have e24 : vs 24 = .bool true := hC 24 (by simp)
    have E : Fr w [(b22_8, 4, Fq.pair (Rat.divInt a.num b.num).num ((Rat.divInt a.num b.num).den : Int)), (b21_8, 4, Fq.pair (Rat.divInt a.num b.num).num ((Rat.divInt a.num b.num).den : Int)), (b19_6, 4, Fq.pair (a / b).num ((a / b).den : Int)), (b18_6, 4, Fq.pair (a / b).num ((a / b).den : Int)), (b5_4, 4, Fq.pair a.num (a.den : Int)), (b5_5, 4, Fq.pair b.num (b.den : Int)), (b2, 4, Fq.raw2 n2 a2 k2 c2 xs2 m2 r2 l2 q2 ys2), (b1, 4, Fq.raw2 n1 a1 k1 c1 xs1 m1 r1 l1 q1 ys1)] w29 := E29
    rw [lay_all hL]
    simp only [putAll, dstOf, List.length_cons, List.length_nil, Nat.zero_add, Nat.reduceAdd, List.getElem?_toArray, List.getElem?_cons_zero, List.getElem?_cons_succ, Option.bind_some, Act.put, List.setIfInBounds_toArray, List.set_cons_succ, List.set_cons_zero]
    rw [e2, e5, e6, e7, e9, e11, e12, e13, e14, e19, e20, e21, e22, e23, e24]
    generalize vs 0 = u29_0
    generalize vs 1 = u29_1
    generalize vs 3 = u29_3
    generalize vs 4 = u29_4
    generalize vs 8 = u29_8
    generalize vs 10 = u29_10
    generalize vs 15 = u29_15
    generalize vs 16 = u29_16
    generalize vs 17 = u29_17
    generalize vs 18 = u29_18
    clear e2 e5 e6 e7 e9 e11 e12 e13 e14 e19 e20 e21 e22 e23 e24 hC hn E29 hL vs L nb
    clear B17 B20 B24 B25 B26 B28 Ba Bb
    go_wp2
    refine bodyPost_ret (v := .bool true) ?_ rfl ⟨rfl, E.below⟩
    simp [results, Tryz.results3, go_sem]

end Go.Proofs.YtoimphnhmpmipaaGreat
