/- Yj, Yk, Yr, Va, Vc, Vd, Ve, Vf, Vg. -/
import Derived.Test.YtoimphnhmpmipaaGreatBj4
import Derived.Lib.LazyBuf
/- Walks: Between; the examples of the laws on fractions. -/
namespace Go.Proofs.YtoimphnhmpmipaaGreat
open Go Go.RowKit

theorem rb_lit {n d : Int} (h0 : d ≠ 0) (hn : ab n < 4294967296 * 4294967296 * 4294967296) (hd : ab d < 4294967296 * 4294967296 * 4294967296) : Rb (Rat.divInt n d) 3 := rb_divInt h0 (ab_lit hn) (ab_lit hd)
theorem of_lit {n : Int} (h : -9223372036854775808 ≤ n ∧ n ≤ 9223372036854775807) : Hid (ab n < pw 3 ∧ -9223372036854775808 ≤ n ∧ n ≤ 9223372036854775807) := ⟨ab_lit (by unfold ab; omega), h.1, h.2⟩
theorem exSSameT {w : World} {v v' : Value} {n d n' d' : Int} (h : Pair w v n d) (h' : Pair w v' n' d') (hn : n = n') (hd : d = d') : Calls Tryz.prog 13 #[v, v'] w fun e w' => ∃ v', e = .returned v' ∧ Below w.heap.size w w' ∧ v' = .bool true :=
  (exSSame h h').mono fun _ _ ⟨v1, e, hb, hv⟩ => ⟨v1, e, hb, by rw [hv, decide_eq_true ⟨hn, hd⟩]⟩
theorem exSSameQ {w : World} {v v' : Value} {a b : Rat} (h : Pair w v a.num a.den) (h' : Pair w v' b.num b.den) (hq : a = b) : Calls Tryz.prog 13 #[v, v'] w fun e w' => ∃ v', e = .returned v' ∧ Below w.heap.size w w' ∧ v' = .bool true := by
  subst hq
  exact exSSameT h h' rfl rfl

theorem size_one {n : Nat} (h0 : 0 < n) (h : n < 10) : sizeText n = [48 + (n : Int)] := by
  unfold sizeText
  rw [if_neg (by omega), decs_pos h0, show n / 10 = 0 by omega, decs_zero, show n % 10 = n by omega]
  rfl
theorem text_ex : bytesOf (ratText (Rat.divInt (-6) 4)) = { data := #[45, 51, 47, 50] } := by
  have h1 : (Rat.divInt (-6) 4).num = -3 := by decide +kernel
  have h2 : ((Rat.divInt (-6) 4).den : Int) = 2 := by decide +kernel
  unfold ratText
  rw [h1, h2, if_neg (by decide)]
  have e1 : intText (-3) = [45, 51] := by
    unfold intText
    rw [if_pos (by decide), show (-3 : Int).natAbs = 3 from rfl, size_one (by decide) (by decide)]
    rfl
  have e2 : intText 2 = [50] := by
    unfold intText
    rw [if_neg (by decide), show (2 : Int).natAbs = 2 from rfl, size_one (by decide) (by decide)]
    rfl
  rw [e1, e2]
  rfl

set_option maxRecDepth 100000 in
set_option maxHeartbeats 4000000 in
theorem exBetA {w : World} {v v' : Value} {a b : Rat} (h : Pair w v a.num a.den) (h' : Pair w v' b.num b.den) (ha : Rb a 300) (hb : Rb b 300) (hlt : b < a) :
    Calls Tryz.prog 42 #[v, v'] w fun e w' => ∃ v', e = .returned v' ∧ Below w.heap.size w w' ∧ (Fq.tup2 (Fq.pair 0 0) (Fq.is (.int .i64 1))).P v' w' := by
  replace ha := hidd ha
  replace hb := hidd hb
  obtain ⟨n0, ao0, k0, c0, n0', ao0', k0', c0', rfl, _⟩ := ratV_pair h
  obtain ⟨n1, ao1, k1, c1, n1', ao1', k1', c1', rfl, _⟩ := ratV_pair h'
  obtain ⟨w1, b1, hw1, hb1, hs1, E⟩ := fr_start w (F := Fq.pair a.num (a.den : Int)) (us := [.bool n0, .slice ao0 k0 c0, .bool n0', .slice ao0' k0' c0']) 31 rfl (by simp) (tame_rat _ _ _ _ _ _ _ _) h
  obtain ⟨w2, b2, hw2, hb2, hs2, E⟩ := fr_more E hs1 (F := Fq.pair b.num (b.den : Int)) (us := [.bool n1, .slice ao1 k1 c1, .bool n1', .slice ao1' k1' c1']) 31 rfl (by simp) (tame_rat _ _ _ _ _ _ _ _) (h'.mono E.below)
  obtain ⟨w3, b3, hw3, hb3, hs3, E⟩ := fr_more E hs2 (F := Fq.pair 0 0) (us := [.bool false, .slice none 0 0, .bool false, .slice none 0 0]) 31 rfl (by simp) (tame_rat _ _ _ _ _ _ _ _) (Pair.zero _)
  go_enter Tryz.func42, Tryz.ntmps42
  go_upto_region 1 with (fail)
  rw [← hw1]
  rw [← hw2]
  rw [← hw3]
  rw [← hb3]
  rw [← hb2]
  rw [← hb1]
  clear hw1 hw2 hw3 hb1 hb2 hb3 hs3 hs1 hs2
  have T1 : Hid (¬ cmpI (a.den : Int) 0 ≤ 0) := by show ¬ _; have := cmpIqgt.2 (den_pos a); omega
  have T2 : Hid (¬ cmpI (b.den : Int) 0 ≤ 0) := by show ¬ _; have := cmpIqgt.2 (den_pos b); omega
  have T3 : Hid (0 < cmpQ a b) := cmpQ_gt.2 hlt
  refine region_fr (C := [Fq.is (.pointer (some ⟨b1, 2, none⟩)), Fq.num (a.den : Int), Fq.is (.int .i64 (cmpI (a.den : Int) 0)), Fq.is (.bool false), Fq.is (.bool false), Fq.is (.pointer (some ⟨b2, 2, none⟩)), Fq.num (b.den : Int), Fq.is (.int .i64 (cmpI (b.den : Int) 0)), Fq.is (.bool false), Fq.is (.bool false), Fq.is (.bool false), Fq.pair a.num (a.den : Int), Fq.pair b.num (b.den : Int), Fq.is (.int .i64 (cmpQ a b)), Fq.is (.bool true), Fq.is (.bool true)]) (ks := [none, none, none]) (new := []) E rfl (by kernel_rfl) rfl rfl (fun hp => ⟨?_, ?_, ?_, ?_, ?_, ?_, ?_, ?_, ?_, ?_, ?_, ?_, ?_, ?_, ?_, ?_, trivial⟩) ?_
  · exact q_addr (b := b1) (off := 0) (off' := 2) hp (free_of rfl) trivial (sq_out rfl rfl (fun _ _ => rfl)) (fun ρ w h => by simp [execOp, go_sem, h]) (fun _ => rfl)
  · exact q_loadInt (off := 2) hp (free_of rfl) trivial (List.mem_iff_getElem?.2 ⟨2, rfl⟩) (.inl rfl) (Nat.le_of_ble_eq_true rfl) (sq_in 0 rfl rfl (by simp) rfl (fun v w h => h)) (fun us w hl h => ld_pd hl h)
  · exact q_call1 (F := (Fq.num (a.den : Int)).P) hp (free_of rfl) trivial (enq_Sign) (sq_in 1 rfl rfl (by simp) rfl (fun v w h => h)) (fun v w h => exSign h)
  · exact q_one (F := fun v _ => v = .int .i64 (cmpI (a.den : Int) 0)) hp (free_of rfl) trivial (sq_in 2 rfl rfl (by simp) rfl (fun v w h => h)) (fun ρ w hc h => ⟨.bool false, by simp [execOp, go_sem, h, hc, T1.out], rfl⟩)
  · exact q_move hp (free_of rfl) trivial (sq_in 3 rfl rfl (by simp) rfl (fun v w h => h))
  · exact q_addr (b := b2) (off := 0) (off' := 2) hp (free_of rfl) (gq_some rfl rfl (by simp) rfl (fun v w h => h)) (sq_out rfl rfl (fun _ _ => rfl)) (fun ρ w h => by simp [execOp, go_sem, h]) (fun _ => rfl)
  · exact q_loadInt (off := 2) hp (free_of rfl) (gq_some rfl rfl (by simp) rfl (fun v w h => h)) (List.mem_iff_getElem?.2 ⟨1, rfl⟩) (.inl rfl) (Nat.le_of_ble_eq_true rfl) (sq_in 5 rfl rfl (by simp) rfl (fun v w h => h)) (fun us w hl h => ld_pd hl h)
  · exact q_call1 (F := (Fq.num (b.den : Int)).P) hp (free_of rfl) (gq_some rfl rfl (by simp) rfl (fun v w h => h)) (enq_Sign) (sq_in 6 rfl rfl (by simp) rfl (fun v w h => h)) (fun v w h => exSign h)
  · exact q_one (F := fun v _ => v = .int .i64 (cmpI (b.den : Int) 0)) hp (free_of rfl) (gq_some rfl rfl (by simp) rfl (fun v w h => h)) (sq_in 7 rfl rfl (by simp) rfl (fun v w h => h)) (fun ρ w hc h => ⟨.bool false, by simp [execOp, go_sem, h, hc, T2.out], rfl⟩)
  · exact q_two (F := fun v _ => v = .bool false) (G := fun v _ => v = .bool false) hp (free_of rfl) trivial (sq_in 4 rfl rfl (by simp) rfl (fun v w h => h)) (sq_in 8 rfl rfl (by simp) rfl (fun v w h => h)) (fun ρ w hc h h' => ⟨_, by simp [execOp, go_sem, h, h'], rfl⟩)
  · exact q_move hp (free_of rfl) trivial (sq_in 9 rfl rfl (by simp) rfl (fun v w h => h))
  · exact q_loadRat hp (free_of rfl) (gq_some rfl rfl (by simp) rfl (fun v w h => h)) (List.mem_iff_getElem?.2 ⟨2, rfl⟩) (.inl rfl) rfl (sq_out rfl rfl (fun _ _ => rfl)) (fun us w hl h => h)
  · exact q_loadRat hp (free_of rfl) (gq_some rfl rfl (by simp) rfl (fun v w h => h)) (List.mem_iff_getElem?.2 ⟨1, rfl⟩) (.inl rfl) rfl (sq_out rfl rfl (fun _ _ => rfl)) (fun us w hl h => h)
  · exact q_call2 (F := (Fq.pair a.num (a.den : Int)).P) (G := (Fq.pair b.num (b.den : Int)).P) hp (free_of rfl) (gq_some rfl rfl (by simp) rfl (fun v w h => h)) (enq_Q_Cmp) (sq_in 11 rfl rfl (by simp) rfl (fun v w h => h)) (sq_in 12 rfl rfl (by simp) rfl (fun v w h => h)) (fun v v' w h h' => exCmpQ h h' (rb_le ha.out (by omega)) (rb_le hb.out (by omega)))
  · exact q_one (F := fun v _ => v = .int .i64 (cmpQ a b)) hp (free_of rfl) (gq_some rfl rfl (by simp) rfl (fun v w h => h)) (sq_in 13 rfl rfl (by simp) rfl (fun v w h => h)) (fun ρ w hc h => ⟨.bool true, by simp [execOp, go_sem, h, hc, T3.out], rfl⟩)
  · exact q_two (F := fun v _ => v = .bool false) (G := fun v _ => v = .bool true) hp (free_of rfl) trivial (sq_in 10 rfl rfl (by simp) rfl (fun v w h => h)) (sq_in 14 rfl rfl (by simp) rfl (fun v w h => h)) (fun ρ w hc h h' => ⟨_, by simp [execOp, go_sem, h, h'], rfl⟩)
  intro L vs w4 nb hL hC hn E4
  have e0 : vs 0 = .pointer (some ⟨b1, 2, none⟩) := hC 0 (by simp)
  have e2 : vs 2 = .int .i64 (cmpI (a.den : Int) 0) := hC 2 (by simp)
  have e3 : vs 3 = .bool false := hC 3 (by simp)
  have e4 : vs 4 = .bool false := hC 4 (by simp)
  have e5 : vs 5 = .pointer (some ⟨b2, 2, none⟩) := hC 5 (by simp)
  have e7 : vs 7 = .int .i64 (cmpI (b.den : Int) 0) := hC 7 (by simp)
  have e8 : vs 8 = .bool false := hC 8 (by simp)
  have e9 : vs 9 = .bool false := hC 9 (by simp)
  have e10 : vs 10 = .bool false := hC 10 (by simp)
  have e13 : vs 13 = .int .i64 (cmpQ a b) := hC 13 (by simp)
  have e14 : vs 14 = .bool true := hC 14 (by simp)
  have e15 : vs 15 = .bool true := hC 15 (by simp)
  have E : Fr w [(b3, 4, Fq.pair 0 0), (b2, 4, Fq.pair b.num (b.den : Int)), (b1, 4, Fq.pair a.num (a.den : Int))] w4 := E4
  rw [lay_all hL]
  simp only [putAll, dstOf, List.length_cons, List.length_nil, Nat.zero_add, Nat.reduceAdd, List.getElem?_toArray, List.getElem?_cons_zero, List.getElem?_cons_succ, Option.bind_some, Act.put, List.setIfInBounds_toArray, List.set_cons_succ, List.set_cons_zero]
  rw [e0, e2, e3, e4, e5, e7, e8, e9, e10, e13, e14, e15]
  generalize vs 1 = u4_1
  generalize vs 6 = u4_6
  generalize vs 11 = u4_11
  generalize vs 12 = u4_12
  clear e0 e2 e3 e4 e5 e7 e8 e9 e10 e13 e14 e15 hC hn E4 hL vs L nb
  go_upto_region 2 with (fail)
  refine region_fr (C := [Fq.pair 0 0, Fq.any, Fq.is (.int .i64 1)]) (ks := [some (1, Fq.pair 0 0), none, none]) (new := []) E rfl (by kernel_rfl) rfl rfl (fun hp => ⟨?_, ?_, ?_, trivial⟩) ?_
  · exact q_zeroRat hp (free_of rfl) trivial (fun v w h => h)
  · exact q_storeOldRat hp (List.mem_iff_getElem?.2 ⟨0, rfl⟩) rfl rfl (sq_out rfl rfl (fun _ _ => rfl)) (sq_in 0 rfl rfl (by simp) rfl (fun v w h => ratV_pair h)) (fun _ _ => trivial) (newik_ne rfl)
  · exact q_assign hp (free_of rfl) trivial (sq_const (fun _ => rfl))
  intro L vs w5 nb hL hC hn E5
  have e2 : vs 2 = .int .i64 1 := hC 2 (by simp)
  have E : Fr w [(b3, 4, Fq.pair 0 0), (b2, 4, Fq.pair b.num (b.den : Int)), (b1, 4, Fq.pair a.num (a.den : Int))] w5 := E5
  rw [lay_all hL]
  simp only [putAll, dstOf, List.length_cons, List.length_nil, Nat.zero_add, Nat.reduceAdd, List.getElem?_toArray, List.getElem?_cons_zero, List.getElem?_cons_succ, Option.bind_some, Act.put, List.setIfInBounds_toArray, List.set_cons_succ, List.set_cons_zero]
  rw [e2]
  generalize vs 0 = u5_0
  clear e2 hC hn E5 hL vs L nb
  clear T1 T2 T3
  obtain ⟨p0, p1, p2, p3, c0, c1, c2, c3, hP⟩ := box_pair (E.box 0 rfl)
  clear ha hb
  go_wp2
  refine bodyPost_ret (v := .tuple #[.agg #[p0, p1, p2, p3], .int .i64 1]) ?_ rfl ⟨_, rfl, E.below, ⟨_, _, rfl, hP, rfl⟩⟩
  simp [results, Tryz.results42, go_sem, c0, c1, c2, c3]

set_option maxRecDepth 100000 in
set_option maxHeartbeats 4000000 in
theorem exBetP {w : World} {v v' : Value} {a b : Rat} (h : Pair w v a.num a.den) (h' : Pair w v' b.num b.den) (ha : Rb a 300) (hb : Rb b 300) (h0 : 0 < a.num) (hle : a ≤ b) :
    Calls Tryz.prog 42 #[v, v'] w fun e w' => ∃ v', e = .returned v' ∧ Below w.heap.size w w' ∧ (Fq.tup2 (Fq.pair (simF ((a.den : Int) + (b.den : Int)).toNat a.num a.den b.num b.den).1 (simF ((a.den : Int) + (b.den : Int)).toNat a.num a.den b.num b.den).2) (Fq.is (.int .i64 0))).P v' w' := by
  replace ha := hidd ha
  replace hb := hidd hb
  obtain ⟨n0, ao0, k0, c0, n0', ao0', k0', c0', rfl, _⟩ := ratV_pair h
  obtain ⟨n1, ao1, k1, c1, n1', ao1', k1', c1', rfl, _⟩ := ratV_pair h'
  obtain ⟨w1, b1, hw1, hb1, hs1, E⟩ := fr_start w (F := Fq.pair a.num (a.den : Int)) (us := [.bool n0, .slice ao0 k0 c0, .bool n0', .slice ao0' k0' c0']) 31 rfl (by simp) (tame_rat _ _ _ _ _ _ _ _) h
  obtain ⟨w2, b2, hw2, hb2, hs2, E⟩ := fr_more E hs1 (F := Fq.pair b.num (b.den : Int)) (us := [.bool n1, .slice ao1 k1 c1, .bool n1', .slice ao1' k1' c1']) 31 rfl (by simp) (tame_rat _ _ _ _ _ _ _ _) (h'.mono E.below)
  obtain ⟨w3, b3, hw3, hb3, hs3, E⟩ := fr_more E hs2 (F := Fq.pair 0 0) (us := [.bool false, .slice none 0 0, .bool false, .slice none 0 0]) 31 rfl (by simp) (tame_rat _ _ _ _ _ _ _ _) (Pair.zero _)
  go_enter Tryz.func42, Tryz.ntmps42
  go_upto_region 1 with (fail)
  rw [← hw1]
  rw [← hw2]
  rw [← hw3]
  rw [← hb3]
  rw [← hb2]
  rw [← hb1]
  clear hw1 hw2 hw3 hb1 hb2 hb3 hs3 hs1 hs2
  have T1 : Hid (¬ cmpI (a.den : Int) 0 ≤ 0) := by show ¬ _; have := cmpIqgt.2 (den_pos a); omega
  have T2 : Hid (¬ cmpI (b.den : Int) 0 ≤ 0) := by show ¬ _; have := cmpIqgt.2 (den_pos b); omega
  have T3 : Hid (¬ 0 < cmpQ a b) := fun e => Rat.not_lt.2 hle (cmpQ_gt.1 e)
  have T4 : Hid (0 < cmpI a.num 0) := cmpIqgt.2 h0
  have ho : Hid (0 < a.num ∧ a.num * b.den ≤ b.num * a.den) := ⟨h0, (Rat.le_iff _ _).1 hle⟩
  clear h0 hle
  refine region_fr (C := [Fq.is (.pointer (some ⟨b1, 2, none⟩)), Fq.num (a.den : Int), Fq.is (.int .i64 (cmpI (a.den : Int) 0)), Fq.is (.bool false), Fq.is (.bool false), Fq.is (.pointer (some ⟨b2, 2, none⟩)), Fq.num (b.den : Int), Fq.is (.int .i64 (cmpI (b.den : Int) 0)), Fq.is (.bool false), Fq.is (.bool false), Fq.is (.bool false), Fq.pair a.num (a.den : Int), Fq.pair b.num (b.den : Int), Fq.is (.int .i64 (cmpQ a b)), Fq.is (.bool false), Fq.is (.bool false)]) (ks := [none, none, none]) (new := []) E rfl (by kernel_rfl) rfl rfl (fun hp => ⟨?_, ?_, ?_, ?_, ?_, ?_, ?_, ?_, ?_, ?_, ?_, ?_, ?_, ?_, ?_, ?_, trivial⟩) ?_
  · exact q_addr (b := b1) (off := 0) (off' := 2) hp (free_of rfl) trivial (sq_out rfl rfl (fun _ _ => rfl)) (fun ρ w h => by simp [execOp, go_sem, h]) (fun _ => rfl)
  · exact q_loadInt (off := 2) hp (free_of rfl) trivial (List.mem_iff_getElem?.2 ⟨2, rfl⟩) (.inl rfl) (Nat.le_of_ble_eq_true rfl) (sq_in 0 rfl rfl (by simp) rfl (fun v w h => h)) (fun us w hl h => ld_pd hl h)
  · exact q_call1 (F := (Fq.num (a.den : Int)).P) hp (free_of rfl) trivial (enq_Sign) (sq_in 1 rfl rfl (by simp) rfl (fun v w h => h)) (fun v w h => exSign h)
  · exact q_one (F := fun v _ => v = .int .i64 (cmpI (a.den : Int) 0)) hp (free_of rfl) trivial (sq_in 2 rfl rfl (by simp) rfl (fun v w h => h)) (fun ρ w hc h => ⟨.bool false, by simp [execOp, go_sem, h, hc, T1.out], rfl⟩)
  · exact q_move hp (free_of rfl) trivial (sq_in 3 rfl rfl (by simp) rfl (fun v w h => h))
  · exact q_addr (b := b2) (off := 0) (off' := 2) hp (free_of rfl) (gq_some rfl rfl (by simp) rfl (fun v w h => h)) (sq_out rfl rfl (fun _ _ => rfl)) (fun ρ w h => by simp [execOp, go_sem, h]) (fun _ => rfl)
  · exact q_loadInt (off := 2) hp (free_of rfl) (gq_some rfl rfl (by simp) rfl (fun v w h => h)) (List.mem_iff_getElem?.2 ⟨1, rfl⟩) (.inl rfl) (Nat.le_of_ble_eq_true rfl) (sq_in 5 rfl rfl (by simp) rfl (fun v w h => h)) (fun us w hl h => ld_pd hl h)
  · exact q_call1 (F := (Fq.num (b.den : Int)).P) hp (free_of rfl) (gq_some rfl rfl (by simp) rfl (fun v w h => h)) (enq_Sign) (sq_in 6 rfl rfl (by simp) rfl (fun v w h => h)) (fun v w h => exSign h)
  · exact q_one (F := fun v _ => v = .int .i64 (cmpI (b.den : Int) 0)) hp (free_of rfl) (gq_some rfl rfl (by simp) rfl (fun v w h => h)) (sq_in 7 rfl rfl (by simp) rfl (fun v w h => h)) (fun ρ w hc h => ⟨.bool false, by simp [execOp, go_sem, h, hc, T2.out], rfl⟩)
  · exact q_two (F := fun v _ => v = .bool false) (G := fun v _ => v = .bool false) hp (free_of rfl) trivial (sq_in 4 rfl rfl (by simp) rfl (fun v w h => h)) (sq_in 8 rfl rfl (by simp) rfl (fun v w h => h)) (fun ρ w hc h h' => ⟨_, by simp [execOp, go_sem, h, h'], rfl⟩)
  · exact q_move hp (free_of rfl) trivial (sq_in 9 rfl rfl (by simp) rfl (fun v w h => h))
  · exact q_loadRat hp (free_of rfl) (gq_some rfl rfl (by simp) rfl (fun v w h => h)) (List.mem_iff_getElem?.2 ⟨2, rfl⟩) (.inl rfl) rfl (sq_out rfl rfl (fun _ _ => rfl)) (fun us w hl h => h)
  · exact q_loadRat hp (free_of rfl) (gq_some rfl rfl (by simp) rfl (fun v w h => h)) (List.mem_iff_getElem?.2 ⟨1, rfl⟩) (.inl rfl) rfl (sq_out rfl rfl (fun _ _ => rfl)) (fun us w hl h => h)
  · exact q_call2 (F := (Fq.pair a.num (a.den : Int)).P) (G := (Fq.pair b.num (b.den : Int)).P) hp (free_of rfl) (gq_some rfl rfl (by simp) rfl (fun v w h => h)) (enq_Q_Cmp) (sq_in 11 rfl rfl (by simp) rfl (fun v w h => h)) (sq_in 12 rfl rfl (by simp) rfl (fun v w h => h)) (fun v v' w h h' => exCmpQ h h' (rb_le ha.out (by omega)) (rb_le hb.out (by omega)))
  · exact q_one (F := fun v _ => v = .int .i64 (cmpQ a b)) hp (free_of rfl) (gq_some rfl rfl (by simp) rfl (fun v w h => h)) (sq_in 13 rfl rfl (by simp) rfl (fun v w h => h)) (fun ρ w hc h => ⟨.bool false, by simp [execOp, go_sem, h, hc, T3.out], rfl⟩)
  · exact q_two (F := fun v _ => v = .bool false) (G := fun v _ => v = .bool false) hp (free_of rfl) trivial (sq_in 10 rfl rfl (by simp) rfl (fun v w h => h)) (sq_in 14 rfl rfl (by simp) rfl (fun v w h => h)) (fun ρ w hc h h' => ⟨_, by simp [execOp, go_sem, h, h'], rfl⟩)
  intro L vs w4 nb hL hC hn E4
  have e0 : vs 0 = .pointer (some ⟨b1, 2, none⟩) := hC 0 (by simp)
  have e2 : vs 2 = .int .i64 (cmpI (a.den : Int) 0) := hC 2 (by simp)
  have e3 : vs 3 = .bool false := hC 3 (by simp)
  have e4 : vs 4 = .bool false := hC 4 (by simp)
  have e5 : vs 5 = .pointer (some ⟨b2, 2, none⟩) := hC 5 (by simp)
  have e7 : vs 7 = .int .i64 (cmpI (b.den : Int) 0) := hC 7 (by simp)
  have e8 : vs 8 = .bool false := hC 8 (by simp)
  have e9 : vs 9 = .bool false := hC 9 (by simp)
  have e10 : vs 10 = .bool false := hC 10 (by simp)
  have e13 : vs 13 = .int .i64 (cmpQ a b) := hC 13 (by simp)
  have e14 : vs 14 = .bool false := hC 14 (by simp)
  have e15 : vs 15 = .bool false := hC 15 (by simp)
  have E : Fr w [(b3, 4, Fq.pair 0 0), (b2, 4, Fq.pair b.num (b.den : Int)), (b1, 4, Fq.pair a.num (a.den : Int))] w4 := E4
  rw [lay_all hL]
  simp only [putAll, dstOf, List.length_cons, List.length_nil, Nat.zero_add, Nat.reduceAdd, List.getElem?_toArray, List.getElem?_cons_zero, List.getElem?_cons_succ, Option.bind_some, Act.put, List.setIfInBounds_toArray, List.set_cons_succ, List.set_cons_zero]
  rw [e0, e2, e3, e4, e5, e7, e8, e9, e10, e13, e14, e15]
  generalize vs 1 = u4_1
  generalize vs 6 = u4_6
  generalize vs 11 = u4_11
  generalize vs 12 = u4_12
  clear e0 e2 e3 e4 e5 e7 e8 e9 e10 e13 e14 e15 hC hn E4 hL vs L nb
  go_upto_region 3 with (fail)
  refine region_fr (C := [Fq.pair a.num (a.den : Int), Fq.is (.int .i64 (cmpI a.num 0)), Fq.is (.bool true), Fq.is (.bool true)]) (ks := [none, none, none]) (new := []) E rfl (by kernel_rfl) rfl rfl (fun hp => ⟨?_, ?_, ?_, ?_, trivial⟩) ?_
  · exact q_loadRat hp (free_of rfl) trivial (List.mem_iff_getElem?.2 ⟨2, rfl⟩) (.inl rfl) rfl (sq_out rfl rfl (fun _ _ => rfl)) (fun us w hl h => h)
  · exact q_call1 (F := (Fq.pair a.num (a.den : Int)).P) hp (free_of rfl) trivial (enq_Q_Sign) (sq_in 0 rfl rfl (by simp) rfl (fun v w h => h)) (fun v w h => exSignQ h)
  · exact q_one (F := fun v _ => v = .int .i64 (cmpI a.num 0)) hp (free_of rfl) trivial (sq_in 1 rfl rfl (by simp) rfl (fun v w h => h)) (fun ρ w hc h => ⟨.bool true, by simp [execOp, go_sem, h, hc, T4.out], rfl⟩)
  · exact q_assign hp (free_of rfl) trivial (sq_in 2 rfl rfl (by simp) rfl (fun v w h => h))
  intro L vs w5 nb hL hC hn E5
  have e1 : vs 1 = .int .i64 (cmpI a.num 0) := hC 1 (by simp)
  have e2 : vs 2 = .bool true := hC 2 (by simp)
  have e3 : vs 3 = .bool true := hC 3 (by simp)
  have E : Fr w [(b3, 4, Fq.pair 0 0), (b2, 4, Fq.pair b.num (b.den : Int)), (b1, 4, Fq.pair a.num (a.den : Int))] w5 := E5
  rw [lay_all hL]
  simp only [putAll, dstOf, List.length_cons, List.length_nil, Nat.zero_add, Nat.reduceAdd, List.getElem?_toArray, List.getElem?_cons_zero, List.getElem?_cons_succ, Option.bind_some, Act.put, List.setIfInBounds_toArray, List.set_cons_succ, List.set_cons_zero]
  rw [e1, e2, e3]
  generalize vs 0 = u5_0
  clear e1 e2 e3 hC hn E5 hL vs L nb
  clear T1 T2 T3 T4
  go_upto_region 4 with (fail)
  refine region_fr (C := [Fq.pair a.num (a.den : Int), Fq.pair b.num (b.den : Int), Fq.pair ((simF ((a.den : Int) + (b.den : Int)).toNat a.num a.den b.num b.den).1) ((simF ((a.den : Int) + (b.den : Int)).toNat a.num a.den b.num b.den).2), Fq.any, Fq.is (.int .i64 0)]) (ks := [some (3, Fq.pair ((simF ((a.den : Int) + (b.den : Int)).toNat a.num a.den b.num b.den).1) ((simF ((a.den : Int) + (b.den : Int)).toNat a.num a.den b.num b.den).2)), none, none]) (new := []) E rfl (by kernel_rfl) rfl rfl (fun hp => ⟨?_, ?_, ?_, ?_, ?_, trivial⟩) ?_
  · exact q_loadRat hp (free_of rfl) trivial (List.mem_iff_getElem?.2 ⟨2, rfl⟩) (.inl rfl) rfl (sq_out rfl rfl (fun _ _ => rfl)) (fun us w hl h => h)
  · exact q_loadRat hp (free_of rfl) trivial (List.mem_iff_getElem?.2 ⟨1, rfl⟩) (.inl rfl) rfl (sq_out rfl rfl (fun _ _ => rfl)) (fun us w hl h => h)
  · exact q_call2 (F := (Fq.pair a.num (a.den : Int)).P) (G := (Fq.pair b.num (b.den : Int)).P) hp (free_of rfl) trivial (enq_Q_simplest) (sq_in 0 rfl rfl (by simp) rfl (fun v w h => h)) (sq_in 1 rfl rfl (by simp) rfl (fun v w h => h)) (fun v v' w h h' => exSimplest h h' ha.out hb.out ho)
  · exact q_storeOldRat hp (List.mem_iff_getElem?.2 ⟨0, rfl⟩) rfl rfl (sq_out rfl rfl (fun _ _ => rfl)) (sq_in 2 rfl rfl (by simp) rfl (fun v w h => ratV_pair h)) (fun _ _ => trivial) (newik_ne rfl)
  · exact q_assign hp (free_of rfl) trivial (sq_const (fun _ => rfl))
  intro L vs w6 nb hL hC hn E6
  have e4 : vs 4 = .int .i64 0 := hC 4 (by simp)
  have E : Fr w [(b3, 4, Fq.pair ((simF ((a.den : Int) + (b.den : Int)).toNat a.num a.den b.num b.den).1) ((simF ((a.den : Int) + (b.den : Int)).toNat a.num a.den b.num b.den).2)), (b2, 4, Fq.pair b.num (b.den : Int)), (b1, 4, Fq.pair a.num (a.den : Int))] w6 := E6
  rw [lay_all hL]
  simp only [putAll, dstOf, List.length_cons, List.length_nil, Nat.zero_add, Nat.reduceAdd, List.getElem?_toArray, List.getElem?_cons_zero, List.getElem?_cons_succ, Option.bind_some, Act.put, List.setIfInBounds_toArray, List.set_cons_succ, List.set_cons_zero]
  rw [e4]
  generalize vs 0 = u6_0
  generalize vs 1 = u6_1
  generalize vs 2 = u6_2
  clear e4 hC hn E6 hL vs L nb
  clear ho
  obtain ⟨p0, p1, p2, p3, c0, c1, c2, c3, hP⟩ := box_pair (E.box 0 rfl)
  clear ha hb
  go_wp2
  refine bodyPost_ret (v := .tuple #[.agg #[p0, p1, p2, p3], .int .i64 0]) ?_ rfl ⟨_, rfl, E.below, ⟨_, _, rfl, hP, rfl⟩⟩
  simp [results, Tryz.results42, go_sem, c0, c1, c2, c3]

set_option maxRecDepth 100000 in
set_option maxHeartbeats 4000000 in
theorem exExamples (w : World) :
    Calls Tryz.prog 7 #[] w fun e w' => ∃ v', e = .returned v' ∧ Below w.heap.size w w' ∧ v' = .bool true := by
  go_enter Tryz.func7, Tryz.ntmps7
  go_upto_region 1 with (fail)
  have E := Fr.start w
  have B1 : Hid (Rb (Rat.divInt (1) (2)) 3) := rb_lit (by decide) (by decide) (by decide)
  have B2 : Hid (Rb (Rat.divInt (1) (3)) 3) := rb_lit (by decide) (by decide) (by decide)
  refine region_fr (C := [Fq.pair (Rat.divInt (1) (2)).num ((Rat.divInt (1) (2)).den : Int), Fq.pair (Rat.divInt (1) (3)).num ((Rat.divInt (1) (3)).den : Int), Fq.any, Fq.any, Fq.any, Fq.any]) (ks := []) (new := [⟨2, 4, 4, Fq.pair 0 0, Fq.pair (Rat.divInt (1) (2)).num ((Rat.divInt (1) (2)).den : Int), none⟩, ⟨3, 5, 4, Fq.pair 0 0, Fq.pair (Rat.divInt (1) (3)).num ((Rat.divInt (1) (3)).den : Int), none⟩]) E rfl (by kernel_rfl) rfl rfl (fun hp => ⟨?_, ?_, ?_, ?_, ?_, ?_, trivial⟩) ?_
  · exact q_call2 (F := (Fq.is (.int .i64 1)).P) (G := (Fq.is (.int .i64 2)).P) hp (free_of rfl) trivial (enq_S_Of) (sq_const (fun _ => rfl)) (sq_const (fun _ => rfl)) (fun v v' w h h' => (by subst h; subst h'; exact exSOf (n := 1) (d := 2) (by decide) (of_lit (by decide)) (of_lit (by decide))))
  · exact q_call2 (F := (Fq.is (.int .i64 1)).P) (G := (Fq.is (.int .i64 3)).P) hp (free_of rfl) trivial (enq_S_Of) (sq_const (fun _ => rfl)) (sq_const (fun _ => rfl)) (fun v v' w h h' => (by subst h; subst h'; exact exSOf (n := 1) (d := 3) (by decide) (of_lit (by decide)) (of_lit (by decide))))
  · exact q_allocRat hp (List.mem_iff_getElem?.2 ⟨0, rfl⟩) rfl rfl rfl rfl (Nat.ne_of_beq_eq_false rfl) (fun _ _ => trivial) (old_ne rfl) (newk_ne rfl) (fun w => Pair.zero w)
  · exact q_allocRat hp (List.mem_iff_getElem?.2 ⟨1, rfl⟩) rfl rfl rfl rfl (Nat.ne_of_beq_eq_false rfl) (fun _ _ => trivial) (old_ne rfl) (newk_ne rfl) (fun w => Pair.zero w)
  · exact q_storeNewRat hp (List.mem_iff_getElem?.2 ⟨0, rfl⟩) rfl rfl rfl (own_ptr rfl rfl (by simp) rfl) (sq_in 0 rfl rfl (by simp) rfl (fun v w h => ratV_pair h)) (fun _ _ => trivial) (old_ne rfl) (newi_ne rfl)
  · exact q_storeNewRat hp (List.mem_iff_getElem?.2 ⟨1, rfl⟩) rfl rfl rfl (own_ptr rfl rfl (by simp) rfl) (sq_in 1 rfl rfl (by simp) rfl (fun v w h => ratV_pair h)) (fun _ _ => trivial) (old_ne rfl) (newi_ne rfl)
  intro L vs w3 nb hL hC hn E3
  have e2 : vs 2 = .pointer (some ⟨nb 2, 0, none⟩) := hn _ (List.mem_iff_getElem?.2 ⟨0, rfl⟩)
  have e3 : vs 3 = .pointer (some ⟨nb 3, 0, none⟩) := hn _ (List.mem_iff_getElem?.2 ⟨1, rfl⟩)
  have E : Fr w [(nb 2, 4, Fq.pair (Rat.divInt (1) (2)).num ((Rat.divInt (1) (2)).den : Int)), (nb 3, 4, Fq.pair (Rat.divInt (1) (3)).num ((Rat.divInt (1) (3)).den : Int))] w3 := E3
  rw [lay_all hL]
  simp only [putAll, dstOf, List.length_cons, List.length_nil, Nat.zero_add, Nat.reduceAdd, List.getElem?_toArray, List.getElem?_cons_zero, List.getElem?_cons_succ, Option.bind_some, Act.put, List.setIfInBounds_toArray, List.set_cons_succ, List.set_cons_zero]
  rw [e2, e3]
  generalize nb 2 = b3_2 at E ⊢
  generalize nb 3 = b3_3 at E ⊢
  generalize vs 0 = u3_0
  generalize vs 1 = u3_1
  clear e2 e3 hC hn E3 hL vs L nb
  go_upto_region 2 with (fail)
  have B4 : Hid (ab ((-6)) < pw 3) := ab_lit (by decide)
  have B5 : Hid (ab ((4)) < pw 3) := ab_lit (by decide)
  have B6 : Hid (Rb (Rat.divInt (-6) (4)) 3) := rb_divInt (by decide) (Int.lt_of_lt_of_le B4.out (pw_le (by omega))) (Int.lt_of_lt_of_le B5.out (pw_le (by omega)))
  refine region_fr (C := [Fq.num (-6), Fq.num (4), Fq.tup2 (Fq.pair (Rat.divInt (-6) (4)).num ((Rat.divInt (-6) (4)).den : Int)) (Fq.is (.int .i64 0)), Fq.tup2 (Fq.pair (Rat.divInt (-6) (4)).num ((Rat.divInt (-6) (4)).den : Int)) (Fq.is (.int .i64 0)), Fq.pair (Rat.divInt (-6) (4)).num ((Rat.divInt (-6) (4)).den : Int), Fq.is (.int .i64 0), Fq.any, Fq.any, Fq.is (.int .i64 0)]) (ks := [none, none]) (new := [⟨6, 7, 4, Fq.pair 0 0, Fq.pair (Rat.divInt (-6) (4)).num ((Rat.divInt (-6) (4)).den : Int), none⟩]) E rfl (by kernel_rfl) rfl rfl (fun hp => ⟨?_, ?_, ?_, ?_, ?_, ?_, ?_, ?_, ?_, trivial⟩) ?_
  · exact q_call1 (F := (Fq.is (.int .i64 (-6))).P) hp (free_of rfl) trivial (enq_R_Of) (sq_const (fun _ => rfl)) (fun v w h => (by subst h; exact rOfK w (-6) (by omega) (by omega)))
  · exact q_call1 (F := (Fq.is (.int .i64 4)).P) hp (free_of rfl) trivial (enq_R_Of) (sq_const (fun _ => rfl)) (fun v w h => (by subst h; exact rOfK w (4) (by omega) (by omega)))
  · exact q_call2 (F := (Fq.num (-6)).P) (G := (Fq.num (4)).P) hp (free_of rfl) trivial (enq_Q_New) (sq_in 0 rfl rfl (by simp) rfl (fun v w h => h)) (sq_in 1 rfl rfl (by simp) rfl (fun v w h => h)) (fun v v' w h h' => exNewP h h' (by decide) (Int.lt_of_lt_of_le B4.out (pw_le (by omega))) (Int.lt_of_lt_of_le B5.out (pw_le (by omega))))
  · exact q_move hp (free_of rfl) trivial (sq_in 2 rfl rfl (by simp) rfl (fun v w h => h))
  · exact q_extract2 hp (free_of rfl) trivial (sq_in 3 rfl rfl (by simp) rfl (fun v w h => h)) (fun v1 v2 w h1 h2 => ⟨_, rfl, h1⟩)
  · exact q_extract2 hp (free_of rfl) trivial (sq_in 3 rfl rfl (by simp) rfl (fun v w h => h)) (fun v1 v2 w h1 h2 => ⟨_, rfl, h2⟩)
  · exact q_allocRat hp (List.mem_iff_getElem?.2 ⟨0, rfl⟩) rfl rfl rfl rfl (Nat.ne_of_beq_eq_false rfl) (fun _ _ => trivial) (old_ne rfl) (newk_ne rfl) (fun w => Pair.zero w)
  · exact q_storeNewRat hp (List.mem_iff_getElem?.2 ⟨0, rfl⟩) rfl rfl rfl (own_ptr rfl rfl (by simp) rfl) (sq_in 4 rfl rfl (by simp) rfl (fun v w h => ratV_pair h)) (fun _ _ => trivial) (old_ne rfl) (newi_ne rfl)
  · exact q_assign hp (free_of rfl) trivial (sq_in 5 rfl rfl (by simp) rfl (fun v w h => h))
  intro L vs w7 nb hL hC hn E7
  have e5 : vs 5 = .int .i64 0 := hC 5 (by simp)
  have e8 : vs 8 = .int .i64 0 := hC 8 (by simp)
  have e6 : vs 6 = .pointer (some ⟨nb 6, 0, none⟩) := hn _ (List.mem_iff_getElem?.2 ⟨0, rfl⟩)
  have E : Fr w [(nb 6, 4, Fq.pair (Rat.divInt (-6) (4)).num ((Rat.divInt (-6) (4)).den : Int)), (b3_2, 4, Fq.pair (Rat.divInt (1) (2)).num ((Rat.divInt (1) (2)).den : Int)), (b3_3, 4, Fq.pair (Rat.divInt (1) (3)).num ((Rat.divInt (1) (3)).den : Int))] w7 := E7
  rw [lay_all hL]
  simp only [putAll, dstOf, List.length_cons, List.length_nil, Nat.zero_add, Nat.reduceAdd, List.getElem?_toArray, List.getElem?_cons_zero, List.getElem?_cons_succ, Option.bind_some, Act.put, List.setIfInBounds_toArray, List.set_cons_succ, List.set_cons_zero]
  rw [e5, e8, e6]
  generalize nb 6 = b7_6 at E ⊢
  generalize vs 0 = u7_0
  generalize vs 1 = u7_1
  generalize vs 2 = u7_2
  generalize vs 3 = u7_3
  generalize vs 4 = u7_4
  clear e5 e8 e6 hC hn E7 hL vs L nb
  go_upto_region 3 with (fail)
  have B8 : Hid (ab ((1)) < pw 3) := ab_lit (by decide)
  have B9 : Hid (ab ((0)) < pw 3) := ab_lit (by decide)
  refine region_fr (C := [Fq.num (1), Fq.num (0), Fq.tup2 (Fq.pair 0 0) (Fq.is (.int .i64 4)), Fq.tup2 (Fq.pair 0 0) (Fq.is (.int .i64 4)), Fq.pair 0 0, Fq.is (.int .i64 4), Fq.any, Fq.any, Fq.is (.int .i64 4)]) (ks := [none, none, none]) (new := [⟨6, 7, 4, Fq.pair 0 0, Fq.pair 0 0, none⟩]) E rfl (by kernel_rfl) rfl rfl (fun hp => ⟨?_, ?_, ?_, ?_, ?_, ?_, ?_, ?_, ?_, trivial⟩) ?_
  · exact q_call1 (F := (Fq.is (.int .i64 1)).P) hp (free_of rfl) trivial (enq_R_Of) (sq_const (fun _ => rfl)) (fun v w h => (by subst h; exact rOfK w (1) (by omega) (by omega)))
  · exact q_call1 (F := (Fq.is (.int .i64 0)).P) hp (free_of rfl) trivial (enq_R_Of) (sq_const (fun _ => rfl)) (fun v w h => (by subst h; exact rOfK w (0) (by omega) (by omega)))
  · exact q_call2 (F := (Fq.num (1)).P) (G := (Fq.num (0)).P) hp (free_of rfl) trivial (enq_Q_New) (sq_in 0 rfl rfl (by simp) rfl (fun v w h => h)) (sq_in 1 rfl rfl (by simp) rfl (fun v w h => h)) (fun v v' w h h' => exNewZ h h' rfl (Int.lt_of_lt_of_le B8.out (pw_le (by omega))) (Int.lt_of_lt_of_le B9.out (pw_le (by omega))))
  · exact q_move hp (free_of rfl) trivial (sq_in 2 rfl rfl (by simp) rfl (fun v w h => h))
  · exact q_extract2 hp (free_of rfl) trivial (sq_in 3 rfl rfl (by simp) rfl (fun v w h => h)) (fun v1 v2 w h1 h2 => ⟨_, rfl, h1⟩)
  · exact q_extract2 hp (free_of rfl) trivial (sq_in 3 rfl rfl (by simp) rfl (fun v w h => h)) (fun v1 v2 w h1 h2 => ⟨_, rfl, h2⟩)
  · exact q_allocRat hp (List.mem_iff_getElem?.2 ⟨0, rfl⟩) rfl rfl rfl rfl (Nat.ne_of_beq_eq_false rfl) (fun _ _ => trivial) (old_ne rfl) (newk_ne rfl) (fun w => Pair.zero w)
  · exact q_storeNewRat hp (List.mem_iff_getElem?.2 ⟨0, rfl⟩) rfl rfl rfl (own_ptr rfl rfl (by simp) rfl) (sq_in 4 rfl rfl (by simp) rfl (fun v w h => ratV_pair h)) (fun _ _ => trivial) (old_ne rfl) (newi_ne rfl)
  · exact q_assign hp (free_of rfl) trivial (sq_in 5 rfl rfl (by simp) rfl (fun v w h => h))
  intro L vs w10 nb hL hC hn E10
  have e5 : vs 5 = .int .i64 4 := hC 5 (by simp)
  have e8 : vs 8 = .int .i64 4 := hC 8 (by simp)
  have e6 : vs 6 = .pointer (some ⟨nb 6, 0, none⟩) := hn _ (List.mem_iff_getElem?.2 ⟨0, rfl⟩)
  have E : Fr w [(nb 6, 4, Fq.pair 0 0), (b7_6, 4, Fq.pair (Rat.divInt (-6) (4)).num ((Rat.divInt (-6) (4)).den : Int)), (b3_2, 4, Fq.pair (Rat.divInt (1) (2)).num ((Rat.divInt (1) (2)).den : Int)), (b3_3, 4, Fq.pair (Rat.divInt (1) (3)).num ((Rat.divInt (1) (3)).den : Int))] w10 := E10
  rw [lay_all hL]
  simp only [putAll, dstOf, List.length_cons, List.length_nil, Nat.zero_add, Nat.reduceAdd, List.getElem?_toArray, List.getElem?_cons_zero, List.getElem?_cons_succ, Option.bind_some, Act.put, List.setIfInBounds_toArray, List.set_cons_succ, List.set_cons_zero]
  rw [e5, e8, e6]
  generalize nb 6 = b10_6 at E ⊢
  generalize vs 0 = u10_0
  generalize vs 1 = u10_1
  generalize vs 2 = u10_2
  generalize vs 3 = u10_3
  generalize vs 4 = u10_4
  clear e5 e8 e6 hC hn E10 hL vs L nb
  go_upto_region 4 with (fail)
  refine region_fr (C := [Fq.pair (Rat.divInt (-6) (4)).num ((Rat.divInt (-6) (4)).den : Int), Fq.tup2 (Fq.is (.string (bytesOf (ratText (Rat.divInt (-6) (4)))))) (Fq.is (.int .i64 0)), Fq.tup2 (Fq.is (.string (bytesOf (ratText (Rat.divInt (-6) (4)))))) (Fq.is (.int .i64 0)), Fq.is (.string (bytesOf (ratText (Rat.divInt (-6) (4))))), Fq.is (.int .i64 0), Fq.is (.string (bytesOf (ratText (Rat.divInt (-6) (4))))), Fq.is (.int .i64 0)]) (ks := [none, none, none, none]) (new := []) E rfl (by kernel_rfl) rfl rfl (fun hp => ⟨?_, ?_, ?_, ?_, ?_, ?_, ?_, trivial⟩) ?_
  · exact q_loadRat hp (free_of rfl) trivial (List.mem_iff_getElem?.2 ⟨1, rfl⟩) (.inl rfl) rfl (sq_out rfl rfl (fun _ _ => rfl)) (fun us w hl h => h)
  · exact q_call1 (F := (Fq.pair (Rat.divInt (-6) (4)).num ((Rat.divInt (-6) (4)).den : Int)).P) hp (free_of rfl) trivial (enq_Q_Text) (sq_in 0 rfl rfl (by simp) rfl (fun v w h => h)) (fun v w h => exTextQ h (rb_le B6.out (by omega)))
  · exact q_move hp (free_of rfl) trivial (sq_in 1 rfl rfl (by simp) rfl (fun v w h => h))
  · exact q_extract2 hp (free_of rfl) trivial (sq_in 2 rfl rfl (by simp) rfl (fun v w h => h)) (fun v1 v2 w h1 h2 => ⟨_, rfl, h1⟩)
  · exact q_extract2 hp (free_of rfl) trivial (sq_in 2 rfl rfl (by simp) rfl (fun v w h => h)) (fun v1 v2 w h1 h2 => ⟨_, rfl, h2⟩)
  · exact q_assign hp (free_of rfl) trivial (sq_in 3 rfl rfl (by simp) rfl (fun v w h => h))
  · exact q_assign hp (free_of rfl) trivial (sq_in 4 rfl rfl (by simp) rfl (fun v w h => h))
  intro L vs w11 nb hL hC hn E11
  have e3 : vs 3 = .string (bytesOf (ratText (Rat.divInt (-6) (4)))) := hC 3 (by simp)
  have e4 : vs 4 = .int .i64 0 := hC 4 (by simp)
  have e5 : vs 5 = .string (bytesOf (ratText (Rat.divInt (-6) (4)))) := hC 5 (by simp)
  have e6 : vs 6 = .int .i64 0 := hC 6 (by simp)
  have E : Fr w [(b10_6, 4, Fq.pair 0 0), (b7_6, 4, Fq.pair (Rat.divInt (-6) (4)).num ((Rat.divInt (-6) (4)).den : Int)), (b3_2, 4, Fq.pair (Rat.divInt (1) (2)).num ((Rat.divInt (1) (2)).den : Int)), (b3_3, 4, Fq.pair (Rat.divInt (1) (3)).num ((Rat.divInt (1) (3)).den : Int))] w11 := E11
  rw [lay_all hL]
  simp only [putAll, dstOf, List.length_cons, List.length_nil, Nat.zero_add, Nat.reduceAdd, List.getElem?_toArray, List.getElem?_cons_zero, List.getElem?_cons_succ, Option.bind_some, Act.put, List.setIfInBounds_toArray, List.set_cons_succ, List.set_cons_zero]
  rw [e3, e4, e5, e6]
  generalize vs 0 = u11_0
  generalize vs 1 = u11_1
  generalize vs 2 = u11_2
  clear e3 e4 e5 e6 hC hn E11 hL vs L nb
  go_upto_region 5 with (fail)
  have B12 : Hid (Rb (Rat.divInt (2) (5)) 3) := rb_lit (by decide) (by decide) (by decide)
  refine region_fr (C := [Fq.pair (Rat.divInt (1) (3)).num ((Rat.divInt (1) (3)).den : Int), Fq.pair (Rat.divInt (2) (5)).num ((Rat.divInt (2) (5)).den : Int), Fq.tup2 (Fq.pair ((simF (((Rat.divInt (1) (3)).den : Int) + ((Rat.divInt (2) (5)).den : Int)).toNat (Rat.divInt (1) (3)).num ((Rat.divInt (1) (3)).den : Int) (Rat.divInt (2) (5)).num ((Rat.divInt (2) (5)).den : Int)).1) ((simF (((Rat.divInt (1) (3)).den : Int) + ((Rat.divInt (2) (5)).den : Int)).toNat (Rat.divInt (1) (3)).num ((Rat.divInt (1) (3)).den : Int) (Rat.divInt (2) (5)).num ((Rat.divInt (2) (5)).den : Int)).2)) (Fq.is (.int .i64 0)), Fq.tup2 (Fq.pair ((simF (((Rat.divInt (1) (3)).den : Int) + ((Rat.divInt (2) (5)).den : Int)).toNat (Rat.divInt (1) (3)).num ((Rat.divInt (1) (3)).den : Int) (Rat.divInt (2) (5)).num ((Rat.divInt (2) (5)).den : Int)).1) ((simF (((Rat.divInt (1) (3)).den : Int) + ((Rat.divInt (2) (5)).den : Int)).toNat (Rat.divInt (1) (3)).num ((Rat.divInt (1) (3)).den : Int) (Rat.divInt (2) (5)).num ((Rat.divInt (2) (5)).den : Int)).2)) (Fq.is (.int .i64 0)), Fq.pair ((simF (((Rat.divInt (1) (3)).den : Int) + ((Rat.divInt (2) (5)).den : Int)).toNat (Rat.divInt (1) (3)).num ((Rat.divInt (1) (3)).den : Int) (Rat.divInt (2) (5)).num ((Rat.divInt (2) (5)).den : Int)).1) ((simF (((Rat.divInt (1) (3)).den : Int) + ((Rat.divInt (2) (5)).den : Int)).toNat (Rat.divInt (1) (3)).num ((Rat.divInt (1) (3)).den : Int) (Rat.divInt (2) (5)).num ((Rat.divInt (2) (5)).den : Int)).2), Fq.is (.int .i64 0), Fq.any, Fq.any, Fq.is (.int .i64 0)]) (ks := [none, none, none, none]) (new := [⟨6, 7, 4, Fq.pair 0 0, Fq.pair ((simF (((Rat.divInt (1) (3)).den : Int) + ((Rat.divInt (2) (5)).den : Int)).toNat (Rat.divInt (1) (3)).num ((Rat.divInt (1) (3)).den : Int) (Rat.divInt (2) (5)).num ((Rat.divInt (2) (5)).den : Int)).1) ((simF (((Rat.divInt (1) (3)).den : Int) + ((Rat.divInt (2) (5)).den : Int)).toNat (Rat.divInt (1) (3)).num ((Rat.divInt (1) (3)).den : Int) (Rat.divInt (2) (5)).num ((Rat.divInt (2) (5)).den : Int)).2), none⟩]) E rfl (by kernel_rfl) rfl rfl (fun hp => ⟨?_, ?_, ?_, ?_, ?_, ?_, ?_, ?_, ?_, trivial⟩) ?_
  · exact q_loadRat hp (free_of rfl) trivial (List.mem_iff_getElem?.2 ⟨3, rfl⟩) (.inl rfl) rfl (sq_out rfl rfl (fun _ _ => rfl)) (fun us w hl h => h)
  · exact q_call2 (F := (Fq.is (.int .i64 2)).P) (G := (Fq.is (.int .i64 5)).P) hp (free_of rfl) trivial (enq_S_Of) (sq_const (fun _ => rfl)) (sq_const (fun _ => rfl)) (fun v v' w h h' => (by subst h; subst h'; exact exSOf (n := 2) (d := 5) (by decide) (of_lit (by decide)) (of_lit (by decide))))
  · exact q_call2 (F := (Fq.pair (Rat.divInt (1) (3)).num ((Rat.divInt (1) (3)).den : Int)).P) (G := (Fq.pair (Rat.divInt (2) (5)).num ((Rat.divInt (2) (5)).den : Int)).P) hp (free_of rfl) trivial (enq_Q_Between) (sq_in 0 rfl rfl (by simp) rfl (fun v w h => h)) (sq_in 1 rfl rfl (by simp) rfl (fun v w h => h)) (fun v v' w h h' => exBetP h h' (rb_le B2.out (by omega)) (rb_le B12.out (by omega)) (by decide +kernel) (by decide +kernel))
  · exact q_move hp (free_of rfl) trivial (sq_in 2 rfl rfl (by simp) rfl (fun v w h => h))
  · exact q_extract2 hp (free_of rfl) trivial (sq_in 3 rfl rfl (by simp) rfl (fun v w h => h)) (fun v1 v2 w h1 h2 => ⟨_, rfl, h1⟩)
  · exact q_extract2 hp (free_of rfl) trivial (sq_in 3 rfl rfl (by simp) rfl (fun v w h => h)) (fun v1 v2 w h1 h2 => ⟨_, rfl, h2⟩)
  · exact q_allocRat hp (List.mem_iff_getElem?.2 ⟨0, rfl⟩) rfl rfl rfl rfl (Nat.ne_of_beq_eq_false rfl) (fun _ _ => trivial) (old_ne rfl) (newk_ne rfl) (fun w => Pair.zero w)
  · exact q_storeNewRat hp (List.mem_iff_getElem?.2 ⟨0, rfl⟩) rfl rfl rfl (own_ptr rfl rfl (by simp) rfl) (sq_in 4 rfl rfl (by simp) rfl (fun v w h => ratV_pair h)) (fun _ _ => trivial) (old_ne rfl) (newi_ne rfl)
  · exact q_assign hp (free_of rfl) trivial (sq_in 5 rfl rfl (by simp) rfl (fun v w h => h))
  intro L vs w13 nb hL hC hn E13
  have e5 : vs 5 = .int .i64 0 := hC 5 (by simp)
  have e8 : vs 8 = .int .i64 0 := hC 8 (by simp)
  have e6 : vs 6 = .pointer (some ⟨nb 6, 0, none⟩) := hn _ (List.mem_iff_getElem?.2 ⟨0, rfl⟩)
  have E : Fr w [(nb 6, 4, Fq.pair ((simF (((Rat.divInt (1) (3)).den : Int) + ((Rat.divInt (2) (5)).den : Int)).toNat (Rat.divInt (1) (3)).num ((Rat.divInt (1) (3)).den : Int) (Rat.divInt (2) (5)).num ((Rat.divInt (2) (5)).den : Int)).1) ((simF (((Rat.divInt (1) (3)).den : Int) + ((Rat.divInt (2) (5)).den : Int)).toNat (Rat.divInt (1) (3)).num ((Rat.divInt (1) (3)).den : Int) (Rat.divInt (2) (5)).num ((Rat.divInt (2) (5)).den : Int)).2)), (b10_6, 4, Fq.pair 0 0), (b7_6, 4, Fq.pair (Rat.divInt (-6) (4)).num ((Rat.divInt (-6) (4)).den : Int)), (b3_2, 4, Fq.pair (Rat.divInt (1) (2)).num ((Rat.divInt (1) (2)).den : Int)), (b3_3, 4, Fq.pair (Rat.divInt (1) (3)).num ((Rat.divInt (1) (3)).den : Int))] w13 := E13
  rw [lay_all hL]
  simp only [putAll, dstOf, List.length_cons, List.length_nil, Nat.zero_add, Nat.reduceAdd, List.getElem?_toArray, List.getElem?_cons_zero, List.getElem?_cons_succ, Option.bind_some, Act.put, List.setIfInBounds_toArray, List.set_cons_succ, List.set_cons_zero]
  rw [e5, e8, e6]
  generalize nb 6 = b13_6 at E ⊢
  generalize vs 0 = u13_0
  generalize vs 1 = u13_1
  generalize vs 2 = u13_2
  generalize vs 3 = u13_3
  generalize vs 4 = u13_4
  clear e5 e8 e6 hC hn E13 hL vs L nb
  go_upto_region 6 with (fail)
  have B14 : Hid (Rb (Rat.divInt (17) (50)) 3) := rb_lit (by decide) (by decide) (by decide)
  have B15 : Hid (Rb (Rat.divInt (9) (25)) 3) := rb_lit (by decide) (by decide) (by decide)
  refine region_fr (C := [Fq.pair (Rat.divInt (17) (50)).num ((Rat.divInt (17) (50)).den : Int), Fq.pair (Rat.divInt (9) (25)).num ((Rat.divInt (9) (25)).den : Int), Fq.tup2 (Fq.pair ((simF (((Rat.divInt (17) (50)).den : Int) + ((Rat.divInt (9) (25)).den : Int)).toNat (Rat.divInt (17) (50)).num ((Rat.divInt (17) (50)).den : Int) (Rat.divInt (9) (25)).num ((Rat.divInt (9) (25)).den : Int)).1) ((simF (((Rat.divInt (17) (50)).den : Int) + ((Rat.divInt (9) (25)).den : Int)).toNat (Rat.divInt (17) (50)).num ((Rat.divInt (17) (50)).den : Int) (Rat.divInt (9) (25)).num ((Rat.divInt (9) (25)).den : Int)).2)) (Fq.is (.int .i64 0)), Fq.tup2 (Fq.pair ((simF (((Rat.divInt (17) (50)).den : Int) + ((Rat.divInt (9) (25)).den : Int)).toNat (Rat.divInt (17) (50)).num ((Rat.divInt (17) (50)).den : Int) (Rat.divInt (9) (25)).num ((Rat.divInt (9) (25)).den : Int)).1) ((simF (((Rat.divInt (17) (50)).den : Int) + ((Rat.divInt (9) (25)).den : Int)).toNat (Rat.divInt (17) (50)).num ((Rat.divInt (17) (50)).den : Int) (Rat.divInt (9) (25)).num ((Rat.divInt (9) (25)).den : Int)).2)) (Fq.is (.int .i64 0)), Fq.pair ((simF (((Rat.divInt (17) (50)).den : Int) + ((Rat.divInt (9) (25)).den : Int)).toNat (Rat.divInt (17) (50)).num ((Rat.divInt (17) (50)).den : Int) (Rat.divInt (9) (25)).num ((Rat.divInt (9) (25)).den : Int)).1) ((simF (((Rat.divInt (17) (50)).den : Int) + ((Rat.divInt (9) (25)).den : Int)).toNat (Rat.divInt (17) (50)).num ((Rat.divInt (17) (50)).den : Int) (Rat.divInt (9) (25)).num ((Rat.divInt (9) (25)).den : Int)).2), Fq.is (.int .i64 0), Fq.any, Fq.any, Fq.is (.int .i64 0)]) (ks := [none, none, none, none, none]) (new := [⟨6, 7, 4, Fq.pair 0 0, Fq.pair ((simF (((Rat.divInt (17) (50)).den : Int) + ((Rat.divInt (9) (25)).den : Int)).toNat (Rat.divInt (17) (50)).num ((Rat.divInt (17) (50)).den : Int) (Rat.divInt (9) (25)).num ((Rat.divInt (9) (25)).den : Int)).1) ((simF (((Rat.divInt (17) (50)).den : Int) + ((Rat.divInt (9) (25)).den : Int)).toNat (Rat.divInt (17) (50)).num ((Rat.divInt (17) (50)).den : Int) (Rat.divInt (9) (25)).num ((Rat.divInt (9) (25)).den : Int)).2), none⟩]) E rfl (by kernel_rfl) rfl rfl (fun hp => ⟨?_, ?_, ?_, ?_, ?_, ?_, ?_, ?_, ?_, trivial⟩) ?_
  · exact q_call2 (F := (Fq.is (.int .i64 17)).P) (G := (Fq.is (.int .i64 50)).P) hp (free_of rfl) trivial (enq_S_Of) (sq_const (fun _ => rfl)) (sq_const (fun _ => rfl)) (fun v v' w h h' => (by subst h; subst h'; exact exSOf (n := 17) (d := 50) (by decide) (of_lit (by decide)) (of_lit (by decide))))
  · exact q_call2 (F := (Fq.is (.int .i64 9)).P) (G := (Fq.is (.int .i64 25)).P) hp (free_of rfl) trivial (enq_S_Of) (sq_const (fun _ => rfl)) (sq_const (fun _ => rfl)) (fun v v' w h h' => (by subst h; subst h'; exact exSOf (n := 9) (d := 25) (by decide) (of_lit (by decide)) (of_lit (by decide))))
  · exact q_call2 (F := (Fq.pair (Rat.divInt (17) (50)).num ((Rat.divInt (17) (50)).den : Int)).P) (G := (Fq.pair (Rat.divInt (9) (25)).num ((Rat.divInt (9) (25)).den : Int)).P) hp (free_of rfl) trivial (enq_Q_Between) (sq_in 0 rfl rfl (by simp) rfl (fun v w h => h)) (sq_in 1 rfl rfl (by simp) rfl (fun v w h => h)) (fun v v' w h h' => exBetP h h' (rb_le B14.out (by omega)) (rb_le B15.out (by omega)) (by decide +kernel) (by decide +kernel))
  · exact q_move hp (free_of rfl) trivial (sq_in 2 rfl rfl (by simp) rfl (fun v w h => h))
  · exact q_extract2 hp (free_of rfl) trivial (sq_in 3 rfl rfl (by simp) rfl (fun v w h => h)) (fun v1 v2 w h1 h2 => ⟨_, rfl, h1⟩)
  · exact q_extract2 hp (free_of rfl) trivial (sq_in 3 rfl rfl (by simp) rfl (fun v w h => h)) (fun v1 v2 w h1 h2 => ⟨_, rfl, h2⟩)
  · exact q_allocRat hp (List.mem_iff_getElem?.2 ⟨0, rfl⟩) rfl rfl rfl rfl (Nat.ne_of_beq_eq_false rfl) (fun _ _ => trivial) (old_ne rfl) (newk_ne rfl) (fun w => Pair.zero w)
  · exact q_storeNewRat hp (List.mem_iff_getElem?.2 ⟨0, rfl⟩) rfl rfl rfl (own_ptr rfl rfl (by simp) rfl) (sq_in 4 rfl rfl (by simp) rfl (fun v w h => ratV_pair h)) (fun _ _ => trivial) (old_ne rfl) (newi_ne rfl)
  · exact q_assign hp (free_of rfl) trivial (sq_in 5 rfl rfl (by simp) rfl (fun v w h => h))
  intro L vs w16 nb hL hC hn E16
  have e5 : vs 5 = .int .i64 0 := hC 5 (by simp)
  have e8 : vs 8 = .int .i64 0 := hC 8 (by simp)
  have e6 : vs 6 = .pointer (some ⟨nb 6, 0, none⟩) := hn _ (List.mem_iff_getElem?.2 ⟨0, rfl⟩)
  have E : Fr w [(nb 6, 4, Fq.pair ((simF (((Rat.divInt (17) (50)).den : Int) + ((Rat.divInt (9) (25)).den : Int)).toNat (Rat.divInt (17) (50)).num ((Rat.divInt (17) (50)).den : Int) (Rat.divInt (9) (25)).num ((Rat.divInt (9) (25)).den : Int)).1) ((simF (((Rat.divInt (17) (50)).den : Int) + ((Rat.divInt (9) (25)).den : Int)).toNat (Rat.divInt (17) (50)).num ((Rat.divInt (17) (50)).den : Int) (Rat.divInt (9) (25)).num ((Rat.divInt (9) (25)).den : Int)).2)), (b13_6, 4, Fq.pair ((simF (((Rat.divInt (1) (3)).den : Int) + ((Rat.divInt (2) (5)).den : Int)).toNat (Rat.divInt (1) (3)).num ((Rat.divInt (1) (3)).den : Int) (Rat.divInt (2) (5)).num ((Rat.divInt (2) (5)).den : Int)).1) ((simF (((Rat.divInt (1) (3)).den : Int) + ((Rat.divInt (2) (5)).den : Int)).toNat (Rat.divInt (1) (3)).num ((Rat.divInt (1) (3)).den : Int) (Rat.divInt (2) (5)).num ((Rat.divInt (2) (5)).den : Int)).2)), (b10_6, 4, Fq.pair 0 0), (b7_6, 4, Fq.pair (Rat.divInt (-6) (4)).num ((Rat.divInt (-6) (4)).den : Int)), (b3_2, 4, Fq.pair (Rat.divInt (1) (2)).num ((Rat.divInt (1) (2)).den : Int)), (b3_3, 4, Fq.pair (Rat.divInt (1) (3)).num ((Rat.divInt (1) (3)).den : Int))] w16 := E16
  rw [lay_all hL]
  simp only [putAll, dstOf, List.length_cons, List.length_nil, Nat.zero_add, Nat.reduceAdd, List.getElem?_toArray, List.getElem?_cons_zero, List.getElem?_cons_succ, Option.bind_some, Act.put, List.setIfInBounds_toArray, List.set_cons_succ, List.set_cons_zero]
  rw [e5, e8, e6]
  generalize nb 6 = b16_6 at E ⊢
  generalize vs 0 = u16_0
  generalize vs 1 = u16_1
  generalize vs 2 = u16_2
  generalize vs 3 = u16_3
  generalize vs 4 = u16_4
  clear e5 e8 e6 hC hn E16 hL vs L nb
  go_upto_region 7 with (fail)
  refine region_fr (C := [Fq.pair (Rat.divInt (1) (2)).num ((Rat.divInt (1) (2)).den : Int), Fq.pair (Rat.divInt (1) (3)).num ((Rat.divInt (1) (3)).den : Int), Fq.tup2 (Fq.pair 0 0) (Fq.is (.int .i64 1)), Fq.tup2 (Fq.pair 0 0) (Fq.is (.int .i64 1)), Fq.pair 0 0, Fq.is (.int .i64 1), Fq.any, Fq.any, Fq.is (.int .i64 1)]) (ks := [none, none, none, none, none, none]) (new := [⟨6, 7, 4, Fq.pair 0 0, Fq.pair 0 0, none⟩]) E rfl (by kernel_rfl) rfl rfl (fun hp => ⟨?_, ?_, ?_, ?_, ?_, ?_, ?_, ?_, ?_, trivial⟩) ?_
  · exact q_loadRat hp (free_of rfl) trivial (List.mem_iff_getElem?.2 ⟨4, rfl⟩) (.inl rfl) rfl (sq_out rfl rfl (fun _ _ => rfl)) (fun us w hl h => h)
  · exact q_loadRat hp (free_of rfl) trivial (List.mem_iff_getElem?.2 ⟨5, rfl⟩) (.inl rfl) rfl (sq_out rfl rfl (fun _ _ => rfl)) (fun us w hl h => h)
  · exact q_call2 (F := (Fq.pair (Rat.divInt (1) (2)).num ((Rat.divInt (1) (2)).den : Int)).P) (G := (Fq.pair (Rat.divInt (1) (3)).num ((Rat.divInt (1) (3)).den : Int)).P) hp (free_of rfl) trivial (enq_Q_Between) (sq_in 0 rfl rfl (by simp) rfl (fun v w h => h)) (sq_in 1 rfl rfl (by simp) rfl (fun v w h => h)) (fun v v' w h h' => exBetA h h' (rb_le B1.out (by omega)) (rb_le B2.out (by omega)) (by decide +kernel))
  · exact q_move hp (free_of rfl) trivial (sq_in 2 rfl rfl (by simp) rfl (fun v w h => h))
  · exact q_extract2 hp (free_of rfl) trivial (sq_in 3 rfl rfl (by simp) rfl (fun v w h => h)) (fun v1 v2 w h1 h2 => ⟨_, rfl, h1⟩)
  · exact q_extract2 hp (free_of rfl) trivial (sq_in 3 rfl rfl (by simp) rfl (fun v w h => h)) (fun v1 v2 w h1 h2 => ⟨_, rfl, h2⟩)
  · exact q_allocRat hp (List.mem_iff_getElem?.2 ⟨0, rfl⟩) rfl rfl rfl rfl (Nat.ne_of_beq_eq_false rfl) (fun _ _ => trivial) (old_ne rfl) (newk_ne rfl) (fun w => Pair.zero w)
  · exact q_storeNewRat hp (List.mem_iff_getElem?.2 ⟨0, rfl⟩) rfl rfl rfl (own_ptr rfl rfl (by simp) rfl) (sq_in 4 rfl rfl (by simp) rfl (fun v w h => ratV_pair h)) (fun _ _ => trivial) (old_ne rfl) (newi_ne rfl)
  · exact q_assign hp (free_of rfl) trivial (sq_in 5 rfl rfl (by simp) rfl (fun v w h => h))
  intro L vs w17 nb hL hC hn E17
  have e5 : vs 5 = .int .i64 1 := hC 5 (by simp)
  have e8 : vs 8 = .int .i64 1 := hC 8 (by simp)
  have e6 : vs 6 = .pointer (some ⟨nb 6, 0, none⟩) := hn _ (List.mem_iff_getElem?.2 ⟨0, rfl⟩)
  have E : Fr w [(nb 6, 4, Fq.pair 0 0), (b16_6, 4, Fq.pair ((simF (((Rat.divInt (17) (50)).den : Int) + ((Rat.divInt (9) (25)).den : Int)).toNat (Rat.divInt (17) (50)).num ((Rat.divInt (17) (50)).den : Int) (Rat.divInt (9) (25)).num ((Rat.divInt (9) (25)).den : Int)).1) ((simF (((Rat.divInt (17) (50)).den : Int) + ((Rat.divInt (9) (25)).den : Int)).toNat (Rat.divInt (17) (50)).num ((Rat.divInt (17) (50)).den : Int) (Rat.divInt (9) (25)).num ((Rat.divInt (9) (25)).den : Int)).2)), (b13_6, 4, Fq.pair ((simF (((Rat.divInt (1) (3)).den : Int) + ((Rat.divInt (2) (5)).den : Int)).toNat (Rat.divInt (1) (3)).num ((Rat.divInt (1) (3)).den : Int) (Rat.divInt (2) (5)).num ((Rat.divInt (2) (5)).den : Int)).1) ((simF (((Rat.divInt (1) (3)).den : Int) + ((Rat.divInt (2) (5)).den : Int)).toNat (Rat.divInt (1) (3)).num ((Rat.divInt (1) (3)).den : Int) (Rat.divInt (2) (5)).num ((Rat.divInt (2) (5)).den : Int)).2)), (b10_6, 4, Fq.pair 0 0), (b7_6, 4, Fq.pair (Rat.divInt (-6) (4)).num ((Rat.divInt (-6) (4)).den : Int)), (b3_2, 4, Fq.pair (Rat.divInt (1) (2)).num ((Rat.divInt (1) (2)).den : Int)), (b3_3, 4, Fq.pair (Rat.divInt (1) (3)).num ((Rat.divInt (1) (3)).den : Int))] w17 := E17
  rw [lay_all hL]
  simp only [putAll, dstOf, List.length_cons, List.length_nil, Nat.zero_add, Nat.reduceAdd, List.getElem?_toArray, List.getElem?_cons_zero, List.getElem?_cons_succ, Option.bind_some, Act.put, List.setIfInBounds_toArray, List.set_cons_succ, List.set_cons_zero]
  rw [e5, e8, e6]
  generalize nb 6 = b17_6 at E ⊢
  generalize vs 0 = u17_0
  generalize vs 1 = u17_1
  generalize vs 2 = u17_2
  generalize vs 3 = u17_3
  generalize vs 4 = u17_4
  clear e5 e8 e6 hC hn E17 hL vs L nb
  go_upto_region 8 with (fail)
  refine region_fr (C := [Fq.tup2 (Fq.pair 0 0) (Fq.is (.int .i64 3)), Fq.tup2 (Fq.pair 0 0) (Fq.is (.int .i64 3)), Fq.pair 0 0, Fq.is (.int .i64 3), Fq.any, Fq.any, Fq.is (.int .i64 3)]) (ks := [none, none, none, none, none, none, none]) (new := [⟨4, 5, 4, Fq.pair 0 0, Fq.pair 0 0, none⟩]) E rfl (by kernel_rfl) rfl rfl (fun hp => ⟨?_, ?_, ?_, ?_, ?_, ?_, ?_, trivial⟩) ?_
  · exact q_call1 (F := (Fq.is (.string { data := #[50, 47, 52] })).P) hp (free_of rfl) trivial (enq_Q_Parse) (sq_const (fun _ => rfl)) (fun v w h => (by subst h; exact exParse24 w))
  · exact q_move hp (free_of rfl) trivial (sq_in 0 rfl rfl (by simp) rfl (fun v w h => h))
  · exact q_extract2 hp (free_of rfl) trivial (sq_in 1 rfl rfl (by simp) rfl (fun v w h => h)) (fun v1 v2 w h1 h2 => ⟨_, rfl, h1⟩)
  · exact q_extract2 hp (free_of rfl) trivial (sq_in 1 rfl rfl (by simp) rfl (fun v w h => h)) (fun v1 v2 w h1 h2 => ⟨_, rfl, h2⟩)
  · exact q_allocRat hp (List.mem_iff_getElem?.2 ⟨0, rfl⟩) rfl rfl rfl rfl (Nat.ne_of_beq_eq_false rfl) (fun _ _ => trivial) (old_ne rfl) (newk_ne rfl) (fun w => Pair.zero w)
  · exact q_storeNewRat hp (List.mem_iff_getElem?.2 ⟨0, rfl⟩) rfl rfl rfl (own_ptr rfl rfl (by simp) rfl) (sq_in 2 rfl rfl (by simp) rfl (fun v w h => ratV_pair h)) (fun _ _ => trivial) (old_ne rfl) (newi_ne rfl)
  · exact q_assign hp (free_of rfl) trivial (sq_in 3 rfl rfl (by simp) rfl (fun v w h => h))
  intro L vs w18 nb hL hC hn E18
  have e3 : vs 3 = .int .i64 3 := hC 3 (by simp)
  have e6 : vs 6 = .int .i64 3 := hC 6 (by simp)
  have e4 : vs 4 = .pointer (some ⟨nb 4, 0, none⟩) := hn _ (List.mem_iff_getElem?.2 ⟨0, rfl⟩)
  have E : Fr w [(nb 4, 4, Fq.pair 0 0), (b17_6, 4, Fq.pair 0 0), (b16_6, 4, Fq.pair ((simF (((Rat.divInt (17) (50)).den : Int) + ((Rat.divInt (9) (25)).den : Int)).toNat (Rat.divInt (17) (50)).num ((Rat.divInt (17) (50)).den : Int) (Rat.divInt (9) (25)).num ((Rat.divInt (9) (25)).den : Int)).1) ((simF (((Rat.divInt (17) (50)).den : Int) + ((Rat.divInt (9) (25)).den : Int)).toNat (Rat.divInt (17) (50)).num ((Rat.divInt (17) (50)).den : Int) (Rat.divInt (9) (25)).num ((Rat.divInt (9) (25)).den : Int)).2)), (b13_6, 4, Fq.pair ((simF (((Rat.divInt (1) (3)).den : Int) + ((Rat.divInt (2) (5)).den : Int)).toNat (Rat.divInt (1) (3)).num ((Rat.divInt (1) (3)).den : Int) (Rat.divInt (2) (5)).num ((Rat.divInt (2) (5)).den : Int)).1) ((simF (((Rat.divInt (1) (3)).den : Int) + ((Rat.divInt (2) (5)).den : Int)).toNat (Rat.divInt (1) (3)).num ((Rat.divInt (1) (3)).den : Int) (Rat.divInt (2) (5)).num ((Rat.divInt (2) (5)).den : Int)).2)), (b10_6, 4, Fq.pair 0 0), (b7_6, 4, Fq.pair (Rat.divInt (-6) (4)).num ((Rat.divInt (-6) (4)).den : Int)), (b3_2, 4, Fq.pair (Rat.divInt (1) (2)).num ((Rat.divInt (1) (2)).den : Int)), (b3_3, 4, Fq.pair (Rat.divInt (1) (3)).num ((Rat.divInt (1) (3)).den : Int))] w18 := E18
  rw [lay_all hL]
  simp only [putAll, dstOf, List.length_cons, List.length_nil, Nat.zero_add, Nat.reduceAdd, List.getElem?_toArray, List.getElem?_cons_zero, List.getElem?_cons_succ, Option.bind_some, Act.put, List.setIfInBounds_toArray, List.set_cons_succ, List.set_cons_zero]
  rw [e3, e6, e4]
  generalize nb 4 = b18_4 at E ⊢
  generalize vs 0 = u18_0
  generalize vs 1 = u18_1
  generalize vs 2 = u18_2
  clear e3 e6 e4 hC hn E18 hL vs L nb
  have tx : Hid (bytesOf (ratText (Rat.divInt (-6) 4)) = { data := #[45, 51, 47, 50] }) := text_ex
  go_upto_region 9 with (fail)
  refine region_fr (C := [Fq.is (.int .i64 0), Fq.is (.bool false), Fq.is (.bool false), Fq.is (.int .i64 4), Fq.is (.bool false), Fq.is (.bool false), Fq.is (.bool false), Fq.is (.int .i64 0), Fq.is (.bool false), Fq.is (.bool false), Fq.is (.bool false), Fq.is (.int .i64 0), Fq.is (.bool false), Fq.is (.bool false), Fq.is (.bool false), Fq.is (.int .i64 0), Fq.is (.bool false), Fq.is (.bool false), Fq.is (.bool false), Fq.is (.int .i64 1), Fq.is (.bool false), Fq.is (.bool false), Fq.is (.bool false), Fq.is (.int .i64 3), Fq.is (.bool false), Fq.is (.bool false), Fq.is (.bool false), Fq.is (.string (bytesOf (ratText (Rat.divInt (-6) (4))))), Fq.is (.bool false), Fq.is (.bool false)]) (ks := [none, none, none, none, none, none, none, none]) (new := []) E rfl (by kernel_rfl) rfl rfl (fun hp => ⟨?_, ?_, ?_, ?_, ?_, ?_, ?_, ?_, ?_, ?_, ?_, ?_, ?_, ?_, ?_, ?_, ?_, ?_, ?_, ?_, ?_, ?_, ?_, ?_, ?_, ?_, ?_, ?_, ?_, ?_, trivial⟩) ?_
  · exact q_move hp (free_of rfl) trivial (sq_out rfl rfl (fun _ _ => rfl))
  · exact q_one (F := fun v _ => v = .int .i64 0) hp (free_of rfl) trivial (sq_in 0 rfl rfl (by simp) rfl (fun v w h => h)) (fun ρ w hc h => ⟨.bool false, by simp [execOp, go_sem, h, hc], rfl⟩)
  · exact q_move hp (free_of rfl) trivial (sq_in 1 rfl rfl (by simp) rfl (fun v w h => h))
  · exact q_move hp (free_of rfl) (gq_some rfl rfl (by simp) rfl (fun v w h => h)) (sq_out rfl rfl (fun _ _ => rfl))
  · exact q_one (F := fun v _ => v = .int .i64 4) hp (free_of rfl) (gq_some rfl rfl (by simp) rfl (fun v w h => h)) (sq_in 3 rfl rfl (by simp) rfl (fun v w h => h)) (fun ρ w hc h => ⟨.bool false, by simp [execOp, go_sem, h, hc], rfl⟩)
  · exact q_two (F := fun v _ => v = .bool false) (G := fun v _ => v = .bool false) hp (free_of rfl) trivial (sq_in 2 rfl rfl (by simp) rfl (fun v w h => h)) (sq_in 4 rfl rfl (by simp) rfl (fun v w h => h)) (fun ρ w hc h h' => ⟨_, by simp [execOp, go_sem, h, h'], rfl⟩)
  · exact q_move hp (free_of rfl) trivial (sq_in 5 rfl rfl (by simp) rfl (fun v w h => h))
  · exact q_move hp (free_of rfl) (gq_some rfl rfl (by simp) rfl (fun v w h => h)) (sq_out rfl rfl (fun _ _ => rfl))
  · exact q_one (F := fun v _ => v = .int .i64 0) hp (free_of rfl) (gq_some rfl rfl (by simp) rfl (fun v w h => h)) (sq_in 7 rfl rfl (by simp) rfl (fun v w h => h)) (fun ρ w hc h => ⟨.bool false, by simp [execOp, go_sem, h, hc], rfl⟩)
  · exact q_two (F := fun v _ => v = .bool false) (G := fun v _ => v = .bool false) hp (free_of rfl) trivial (sq_in 6 rfl rfl (by simp) rfl (fun v w h => h)) (sq_in 8 rfl rfl (by simp) rfl (fun v w h => h)) (fun ρ w hc h h' => ⟨_, by simp [execOp, go_sem, h, h'], rfl⟩)
  · exact q_move hp (free_of rfl) trivial (sq_in 9 rfl rfl (by simp) rfl (fun v w h => h))
  · exact q_move hp (free_of rfl) (gq_some rfl rfl (by simp) rfl (fun v w h => h)) (sq_out rfl rfl (fun _ _ => rfl))
  · exact q_one (F := fun v _ => v = .int .i64 0) hp (free_of rfl) (gq_some rfl rfl (by simp) rfl (fun v w h => h)) (sq_in 11 rfl rfl (by simp) rfl (fun v w h => h)) (fun ρ w hc h => ⟨.bool false, by simp [execOp, go_sem, h, hc], rfl⟩)
  · exact q_two (F := fun v _ => v = .bool false) (G := fun v _ => v = .bool false) hp (free_of rfl) trivial (sq_in 10 rfl rfl (by simp) rfl (fun v w h => h)) (sq_in 12 rfl rfl (by simp) rfl (fun v w h => h)) (fun ρ w hc h h' => ⟨_, by simp [execOp, go_sem, h, h'], rfl⟩)
  · exact q_move hp (free_of rfl) trivial (sq_in 13 rfl rfl (by simp) rfl (fun v w h => h))
  · exact q_move hp (free_of rfl) (gq_some rfl rfl (by simp) rfl (fun v w h => h)) (sq_out rfl rfl (fun _ _ => rfl))
  · exact q_one (F := fun v _ => v = .int .i64 0) hp (free_of rfl) (gq_some rfl rfl (by simp) rfl (fun v w h => h)) (sq_in 15 rfl rfl (by simp) rfl (fun v w h => h)) (fun ρ w hc h => ⟨.bool false, by simp [execOp, go_sem, h, hc], rfl⟩)
  · exact q_two (F := fun v _ => v = .bool false) (G := fun v _ => v = .bool false) hp (free_of rfl) trivial (sq_in 14 rfl rfl (by simp) rfl (fun v w h => h)) (sq_in 16 rfl rfl (by simp) rfl (fun v w h => h)) (fun ρ w hc h h' => ⟨_, by simp [execOp, go_sem, h, h'], rfl⟩)
  · exact q_move hp (free_of rfl) trivial (sq_in 17 rfl rfl (by simp) rfl (fun v w h => h))
  · exact q_move hp (free_of rfl) (gq_some rfl rfl (by simp) rfl (fun v w h => h)) (sq_out rfl rfl (fun _ _ => rfl))
  · exact q_one (F := fun v _ => v = .int .i64 1) hp (free_of rfl) (gq_some rfl rfl (by simp) rfl (fun v w h => h)) (sq_in 19 rfl rfl (by simp) rfl (fun v w h => h)) (fun ρ w hc h => ⟨.bool false, by simp [execOp, go_sem, h, hc], rfl⟩)
  · exact q_two (F := fun v _ => v = .bool false) (G := fun v _ => v = .bool false) hp (free_of rfl) trivial (sq_in 18 rfl rfl (by simp) rfl (fun v w h => h)) (sq_in 20 rfl rfl (by simp) rfl (fun v w h => h)) (fun ρ w hc h h' => ⟨_, by simp [execOp, go_sem, h, h'], rfl⟩)
  · exact q_move hp (free_of rfl) trivial (sq_in 21 rfl rfl (by simp) rfl (fun v w h => h))
  · exact q_move hp (free_of rfl) (gq_some rfl rfl (by simp) rfl (fun v w h => h)) (sq_out rfl rfl (fun _ _ => rfl))
  · exact q_one (F := fun v _ => v = .int .i64 3) hp (free_of rfl) (gq_some rfl rfl (by simp) rfl (fun v w h => h)) (sq_in 23 rfl rfl (by simp) rfl (fun v w h => h)) (fun ρ w hc h => ⟨.bool false, by simp [execOp, go_sem, h, hc], rfl⟩)
  · exact q_two (F := fun v _ => v = .bool false) (G := fun v _ => v = .bool false) hp (free_of rfl) trivial (sq_in 22 rfl rfl (by simp) rfl (fun v w h => h)) (sq_in 24 rfl rfl (by simp) rfl (fun v w h => h)) (fun ρ w hc h h' => ⟨_, by simp [execOp, go_sem, h, h'], rfl⟩)
  · exact q_move hp (free_of rfl) trivial (sq_in 25 rfl rfl (by simp) rfl (fun v w h => h))
  · exact q_move hp (free_of rfl) (gq_some rfl rfl (by simp) rfl (fun v w h => h)) (sq_out rfl rfl (fun _ _ => rfl))
  · exact q_one (F := fun v _ => v = .string (bytesOf (ratText (Rat.divInt (-6) (4))))) hp (free_of rfl) (gq_some rfl rfl (by simp) rfl (fun v w h => h)) (sq_in 27 rfl rfl (by simp) rfl (fun v w h => h)) (fun ρ w hc h => ⟨.bool false, by simp [execOp, go_sem, h, hc, tx.out], rfl⟩)
  · exact q_two (F := fun v _ => v = .bool false) (G := fun v _ => v = .bool false) hp (free_of rfl) trivial (sq_in 26 rfl rfl (by simp) rfl (fun v w h => h)) (sq_in 28 rfl rfl (by simp) rfl (fun v w h => h)) (fun ρ w hc h h' => ⟨_, by simp [execOp, go_sem, h, h'], rfl⟩)
  intro L vs w19 nb hL hC hn E19
  have e0 : vs 0 = .int .i64 0 := hC 0 (by simp)
  have e1 : vs 1 = .bool false := hC 1 (by simp)
  have e2 : vs 2 = .bool false := hC 2 (by simp)
  have e3 : vs 3 = .int .i64 4 := hC 3 (by simp)
  have e4 : vs 4 = .bool false := hC 4 (by simp)
  have e5 : vs 5 = .bool false := hC 5 (by simp)
  have e6 : vs 6 = .bool false := hC 6 (by simp)
  have e7 : vs 7 = .int .i64 0 := hC 7 (by simp)
  have e8 : vs 8 = .bool false := hC 8 (by simp)
  have e9 : vs 9 = .bool false := hC 9 (by simp)
  have e10 : vs 10 = .bool false := hC 10 (by simp)
  have e11 : vs 11 = .int .i64 0 := hC 11 (by simp)
  have e12 : vs 12 = .bool false := hC 12 (by simp)
  have e13 : vs 13 = .bool false := hC 13 (by simp)
  have e14 : vs 14 = .bool false := hC 14 (by simp)
  have e15 : vs 15 = .int .i64 0 := hC 15 (by simp)
  have e16 : vs 16 = .bool false := hC 16 (by simp)
  have e17 : vs 17 = .bool false := hC 17 (by simp)
  have e18 : vs 18 = .bool false := hC 18 (by simp)
  have e19 : vs 19 = .int .i64 1 := hC 19 (by simp)
  have e20 : vs 20 = .bool false := hC 20 (by simp)
  have e21 : vs 21 = .bool false := hC 21 (by simp)
  have e22 : vs 22 = .bool false := hC 22 (by simp)
  have e23 : vs 23 = .int .i64 3 := hC 23 (by simp)
  have e24 : vs 24 = .bool false := hC 24 (by simp)
  have e25 : vs 25 = .bool false := hC 25 (by simp)
  have e26 : vs 26 = .bool false := hC 26 (by simp)
  have e27 : vs 27 = .string (bytesOf (ratText (Rat.divInt (-6) (4)))) := hC 27 (by simp)
  have e28 : vs 28 = .bool false := hC 28 (by simp)
  have e29 : vs 29 = .bool false := hC 29 (by simp)
  have E : Fr w [(b18_4, 4, Fq.pair 0 0), (b17_6, 4, Fq.pair 0 0), (b16_6, 4, Fq.pair ((simF (((Rat.divInt (17) (50)).den : Int) + ((Rat.divInt (9) (25)).den : Int)).toNat (Rat.divInt (17) (50)).num ((Rat.divInt (17) (50)).den : Int) (Rat.divInt (9) (25)).num ((Rat.divInt (9) (25)).den : Int)).1) ((simF (((Rat.divInt (17) (50)).den : Int) + ((Rat.divInt (9) (25)).den : Int)).toNat (Rat.divInt (17) (50)).num ((Rat.divInt (17) (50)).den : Int) (Rat.divInt (9) (25)).num ((Rat.divInt (9) (25)).den : Int)).2)), (b13_6, 4, Fq.pair ((simF (((Rat.divInt (1) (3)).den : Int) + ((Rat.divInt (2) (5)).den : Int)).toNat (Rat.divInt (1) (3)).num ((Rat.divInt (1) (3)).den : Int) (Rat.divInt (2) (5)).num ((Rat.divInt (2) (5)).den : Int)).1) ((simF (((Rat.divInt (1) (3)).den : Int) + ((Rat.divInt (2) (5)).den : Int)).toNat (Rat.divInt (1) (3)).num ((Rat.divInt (1) (3)).den : Int) (Rat.divInt (2) (5)).num ((Rat.divInt (2) (5)).den : Int)).2)), (b10_6, 4, Fq.pair 0 0), (b7_6, 4, Fq.pair (Rat.divInt (-6) (4)).num ((Rat.divInt (-6) (4)).den : Int)), (b3_2, 4, Fq.pair (Rat.divInt (1) (2)).num ((Rat.divInt (1) (2)).den : Int)), (b3_3, 4, Fq.pair (Rat.divInt (1) (3)).num ((Rat.divInt (1) (3)).den : Int))] w19 := E19
  rw [lay_all hL]
  simp only [putAll, dstOf, List.length_cons, List.length_nil, Nat.zero_add, Nat.reduceAdd, List.getElem?_toArray, List.getElem?_cons_zero, List.getElem?_cons_succ, Option.bind_some, Act.put, List.setIfInBounds_toArray, List.set_cons_succ, List.set_cons_zero]
  rw [e0, e1, e2, e3, e4, e5, e6, e7, e8, e9, e10, e11, e12, e13, e14, e15, e16, e17, e18, e19, e20, e21, e22, e23, e24, e25, e26, e27, e28, e29]
  clear e0 e1 e2 e3 e4 e5 e6 e7 e8 e9 e10 e11 e12 e13 e14 e15 e16 e17 e18 e19 e20 e21 e22 e23 e24 e25 e26 e27 e28 e29 hC hn E19 hL vs L nb
  go_upto_region 11 with (fail)
  have B20 : Hid (Rb (Rat.divInt (-3) (2)) 3) := rb_lit (by decide) (by decide) (by decide)
  have B21 : Hid (Rb ((Rat.divInt (1) (2)) + (Rat.divInt (1) (3))) 7) := rb_le (rb_add B1.out B2.out) (by omega)
  have B22 : Hid (Rb (Rat.divInt (5) (6)) 3) := rb_lit (by decide) (by decide) (by decide)
  have B23 : Hid (Rb (Rat.divInt (5) (14)) 3) := rb_lit (by decide) (by decide) (by decide)
  have B24 : Hid (Rb (Rat.divInt (-1) (2)) 3) := rb_lit (by decide) (by decide) (by decide)
  have B25 : Hid (ab ((Rat.divInt (-1) (2)).floor) < pw 4) := Int.lt_of_lt_of_le (rb_floor B24.out) (pw_le (by omega))
  have B26 : Hid (ab ((-1)) < pw 3) := ab_lit (by decide)
  refine region_fr (C := [Fq.pair (Rat.divInt (-6) (4)).num ((Rat.divInt (-6) (4)).den : Int), Fq.pair (Rat.divInt (-3) (2)).num ((Rat.divInt (-3) (2)).den : Int), Fq.is (.bool true), Fq.is (.bool true), Fq.pair (Rat.divInt (1) (2)).num ((Rat.divInt (1) (2)).den : Int), Fq.pair (Rat.divInt (1) (3)).num ((Rat.divInt (1) (3)).den : Int), Fq.pair ((Rat.divInt (1) (2)) + (Rat.divInt (1) (3))).num (((Rat.divInt (1) (2)) + (Rat.divInt (1) (3))).den : Int), Fq.pair (Rat.divInt (5) (6)).num ((Rat.divInt (5) (6)).den : Int), Fq.is (.bool true), Fq.is (.bool true), Fq.is (.bool true), Fq.pair ((simF (((Rat.divInt (1) (3)).den : Int) + ((Rat.divInt (2) (5)).den : Int)).toNat (Rat.divInt (1) (3)).num ((Rat.divInt (1) (3)).den : Int) (Rat.divInt (2) (5)).num ((Rat.divInt (2) (5)).den : Int)).1) ((simF (((Rat.divInt (1) (3)).den : Int) + ((Rat.divInt (2) (5)).den : Int)).toNat (Rat.divInt (1) (3)).num ((Rat.divInt (1) (3)).den : Int) (Rat.divInt (2) (5)).num ((Rat.divInt (2) (5)).den : Int)).2), Fq.pair (Rat.divInt (1) (3)).num ((Rat.divInt (1) (3)).den : Int), Fq.is (.bool true), Fq.is (.bool true), Fq.is (.bool true), Fq.pair ((simF (((Rat.divInt (17) (50)).den : Int) + ((Rat.divInt (9) (25)).den : Int)).toNat (Rat.divInt (17) (50)).num ((Rat.divInt (17) (50)).den : Int) (Rat.divInt (9) (25)).num ((Rat.divInt (9) (25)).den : Int)).1) ((simF (((Rat.divInt (17) (50)).den : Int) + ((Rat.divInt (9) (25)).den : Int)).toNat (Rat.divInt (17) (50)).num ((Rat.divInt (17) (50)).den : Int) (Rat.divInt (9) (25)).num ((Rat.divInt (9) (25)).den : Int)).2), Fq.pair (Rat.divInt (5) (14)).num ((Rat.divInt (5) (14)).den : Int), Fq.is (.bool true), Fq.is (.bool true), Fq.is (.bool true), Fq.pair (Rat.divInt (-1) (2)).num ((Rat.divInt (-1) (2)).den : Int), Fq.num ((Rat.divInt (-1) (2)).floor), Fq.num (-1), Fq.is (.bool true), Fq.is (.bool true), Fq.is (.bool true), Fq.pair (Rat.divInt (1) (2)).num ((Rat.divInt (1) (2)).den : Int), Fq.is (.bool true), Fq.is (.bool true), Fq.is (.bool true), Fq.pair 0 0, Fq.is (.bool false), Fq.is (.bool true), Fq.is (.bool true), Fq.is (.bool true)]) (ks := [none, none, none, none, none, none, none, none]) (new := []) E rfl (by kernel_rfl) rfl rfl (fun hp => ⟨?_, ?_, ?_, ?_, ?_, ?_, ?_, ?_, ?_, ?_, ?_, ?_, ?_, ?_, ?_, ?_, ?_, ?_, ?_, ?_, ?_, ?_, ?_, ?_, ?_, ?_, ?_, ?_, ?_, ?_, ?_, ?_, ?_, ?_, ?_, ?_, trivial⟩) ?_
  · exact q_loadRat hp (free_of rfl) trivial (List.mem_iff_getElem?.2 ⟨5, rfl⟩) (.inl rfl) rfl (sq_out rfl rfl (fun _ _ => rfl)) (fun us w hl h => h)
  · exact q_call2 (F := (Fq.is (.int .i64 (-3))).P) (G := (Fq.is (.int .i64 2)).P) hp (free_of rfl) trivial (enq_S_Of) (sq_const (fun _ => rfl)) (sq_const (fun _ => rfl)) (fun v v' w h h' => (by subst h; subst h'; exact exSOf (n := -3) (d := 2) (by decide) (of_lit (by decide)) (of_lit (by decide))))
  · exact q_call2 (F := (Fq.pair (Rat.divInt (-6) (4)).num ((Rat.divInt (-6) (4)).den : Int)).P) (G := (Fq.pair (Rat.divInt (-3) (2)).num ((Rat.divInt (-3) (2)).den : Int)).P) hp (free_of rfl) trivial (enq_S_Same) (sq_in 0 rfl rfl (by simp) rfl (fun v w h => h)) (sq_in 1 rfl rfl (by simp) rfl (fun v w h => h)) (fun v v' w h h' => exSSameQ h h' (by decide +kernel))
  · exact q_move hp (free_of rfl) trivial (sq_in 2 rfl rfl (by simp) rfl (fun v w h => h))
  · exact q_loadRat hp (free_of rfl) (gq_some rfl rfl (by simp) rfl (fun v w h => h)) (List.mem_iff_getElem?.2 ⟨6, rfl⟩) (.inl rfl) rfl (sq_out rfl rfl (fun _ _ => rfl)) (fun us w hl h => h)
  · exact q_loadRat hp (free_of rfl) (gq_some rfl rfl (by simp) rfl (fun v w h => h)) (List.mem_iff_getElem?.2 ⟨7, rfl⟩) (.inl rfl) rfl (sq_out rfl rfl (fun _ _ => rfl)) (fun us w hl h => h)
  · exact q_call2 (F := (Fq.pair (Rat.divInt (1) (2)).num ((Rat.divInt (1) (2)).den : Int)).P) (G := (Fq.pair (Rat.divInt (1) (3)).num ((Rat.divInt (1) (3)).den : Int)).P) hp (free_of rfl) (gq_some rfl rfl (by simp) rfl (fun v w h => h)) (enq_Q_Add) (sq_in 4 rfl rfl (by simp) rfl (fun v w h => h)) (sq_in 5 rfl rfl (by simp) rfl (fun v w h => h)) (fun v v' w h h' => exAddQ h h' (rb_le B1.out (by omega)) (rb_le B2.out (by omega)))
  · exact q_call2 (F := (Fq.is (.int .i64 5)).P) (G := (Fq.is (.int .i64 6)).P) hp (free_of rfl) (gq_some rfl rfl (by simp) rfl (fun v w h => h)) (enq_S_Of) (sq_const (fun _ => rfl)) (sq_const (fun _ => rfl)) (fun v v' w h h' => (by subst h; subst h'; exact exSOf (n := 5) (d := 6) (by decide) (of_lit (by decide)) (of_lit (by decide))))
  · exact q_call2 (F := (Fq.pair ((Rat.divInt (1) (2)) + (Rat.divInt (1) (3))).num (((Rat.divInt (1) (2)) + (Rat.divInt (1) (3))).den : Int)).P) (G := (Fq.pair (Rat.divInt (5) (6)).num ((Rat.divInt (5) (6)).den : Int)).P) hp (free_of rfl) (gq_some rfl rfl (by simp) rfl (fun v w h => h)) (enq_S_Same) (sq_in 6 rfl rfl (by simp) rfl (fun v w h => h)) (sq_in 7 rfl rfl (by simp) rfl (fun v w h => h)) (fun v v' w h h' => exSSameQ h h' (by decide +kernel))
  · exact q_two (F := fun v _ => v = .bool true) (G := fun v _ => v = .bool true) hp (free_of rfl) trivial (sq_in 3 rfl rfl (by simp) rfl (fun v w h => h)) (sq_in 8 rfl rfl (by simp) rfl (fun v w h => h)) (fun ρ w hc h h' => ⟨_, by simp [execOp, go_sem, h, h'], rfl⟩)
  · exact q_move hp (free_of rfl) trivial (sq_in 9 rfl rfl (by simp) rfl (fun v w h => h))
  · exact q_loadRat hp (free_of rfl) (gq_some rfl rfl (by simp) rfl (fun v w h => h)) (List.mem_iff_getElem?.2 ⟨3, rfl⟩) (.inl rfl) rfl (sq_out rfl rfl (fun _ _ => rfl)) (fun us w hl h => h)
  · exact q_loadRat hp (free_of rfl) (gq_some rfl rfl (by simp) rfl (fun v w h => h)) (List.mem_iff_getElem?.2 ⟨7, rfl⟩) (.inl rfl) rfl (sq_out rfl rfl (fun _ _ => rfl)) (fun us w hl h => h)
  · exact q_call2 (F := (Fq.pair ((simF (((Rat.divInt (1) (3)).den : Int) + ((Rat.divInt (2) (5)).den : Int)).toNat (Rat.divInt (1) (3)).num ((Rat.divInt (1) (3)).den : Int) (Rat.divInt (2) (5)).num ((Rat.divInt (2) (5)).den : Int)).1) ((simF (((Rat.divInt (1) (3)).den : Int) + ((Rat.divInt (2) (5)).den : Int)).toNat (Rat.divInt (1) (3)).num ((Rat.divInt (1) (3)).den : Int) (Rat.divInt (2) (5)).num ((Rat.divInt (2) (5)).den : Int)).2)).P) (G := (Fq.pair (Rat.divInt (1) (3)).num ((Rat.divInt (1) (3)).den : Int)).P) hp (free_of rfl) (gq_some rfl rfl (by simp) rfl (fun v w h => h)) (enq_S_Same) (sq_in 11 rfl rfl (by simp) rfl (fun v w h => h)) (sq_in 12 rfl rfl (by simp) rfl (fun v w h => h)) (fun v v' w h h' => exSSameT h h' (by decide +kernel) (by decide +kernel))
  · exact q_two (F := fun v _ => v = .bool true) (G := fun v _ => v = .bool true) hp (free_of rfl) trivial (sq_in 10 rfl rfl (by simp) rfl (fun v w h => h)) (sq_in 13 rfl rfl (by simp) rfl (fun v w h => h)) (fun ρ w hc h h' => ⟨_, by simp [execOp, go_sem, h, h'], rfl⟩)
  · exact q_move hp (free_of rfl) trivial (sq_in 14 rfl rfl (by simp) rfl (fun v w h => h))
  · exact q_loadRat hp (free_of rfl) (gq_some rfl rfl (by simp) rfl (fun v w h => h)) (List.mem_iff_getElem?.2 ⟨2, rfl⟩) (.inl rfl) rfl (sq_out rfl rfl (fun _ _ => rfl)) (fun us w hl h => h)
  · exact q_call2 (F := (Fq.is (.int .i64 5)).P) (G := (Fq.is (.int .i64 14)).P) hp (free_of rfl) (gq_some rfl rfl (by simp) rfl (fun v w h => h)) (enq_S_Of) (sq_const (fun _ => rfl)) (sq_const (fun _ => rfl)) (fun v v' w h h' => (by subst h; subst h'; exact exSOf (n := 5) (d := 14) (by decide) (of_lit (by decide)) (of_lit (by decide))))
  · exact q_call2 (F := (Fq.pair ((simF (((Rat.divInt (17) (50)).den : Int) + ((Rat.divInt (9) (25)).den : Int)).toNat (Rat.divInt (17) (50)).num ((Rat.divInt (17) (50)).den : Int) (Rat.divInt (9) (25)).num ((Rat.divInt (9) (25)).den : Int)).1) ((simF (((Rat.divInt (17) (50)).den : Int) + ((Rat.divInt (9) (25)).den : Int)).toNat (Rat.divInt (17) (50)).num ((Rat.divInt (17) (50)).den : Int) (Rat.divInt (9) (25)).num ((Rat.divInt (9) (25)).den : Int)).2)).P) (G := (Fq.pair (Rat.divInt (5) (14)).num ((Rat.divInt (5) (14)).den : Int)).P) hp (free_of rfl) (gq_some rfl rfl (by simp) rfl (fun v w h => h)) (enq_S_Same) (sq_in 16 rfl rfl (by simp) rfl (fun v w h => h)) (sq_in 17 rfl rfl (by simp) rfl (fun v w h => h)) (fun v v' w h h' => exSSameT h h' (by decide +kernel) (by decide +kernel))
  · exact q_two (F := fun v _ => v = .bool true) (G := fun v _ => v = .bool true) hp (free_of rfl) trivial (sq_in 15 rfl rfl (by simp) rfl (fun v w h => h)) (sq_in 18 rfl rfl (by simp) rfl (fun v w h => h)) (fun ρ w hc h h' => ⟨_, by simp [execOp, go_sem, h, h'], rfl⟩)
  · exact q_move hp (free_of rfl) trivial (sq_in 19 rfl rfl (by simp) rfl (fun v w h => h))
  · exact q_call2 (F := (Fq.is (.int .i64 (-1))).P) (G := (Fq.is (.int .i64 2)).P) hp (free_of rfl) (gq_some rfl rfl (by simp) rfl (fun v w h => h)) (enq_S_Of) (sq_const (fun _ => rfl)) (sq_const (fun _ => rfl)) (fun v v' w h h' => (by subst h; subst h'; exact exSOf (n := -1) (d := 2) (by decide) (of_lit (by decide)) (of_lit (by decide))))
  · exact q_call1 (F := (Fq.pair (Rat.divInt (-1) (2)).num ((Rat.divInt (-1) (2)).den : Int)).P) hp (free_of rfl) (gq_some rfl rfl (by simp) rfl (fun v w h => h)) (enq_Q_Floor) (sq_in 21 rfl rfl (by simp) rfl (fun v w h => h)) (fun v w h => exFloorQ h (rb_le B24.out (by omega)))
  · exact q_call1 (F := (Fq.is (.int .i64 (-1))).P) hp (free_of rfl) (gq_some rfl rfl (by simp) rfl (fun v w h => h)) (enq_R_Of) (sq_const (fun _ => rfl)) (fun v w h => (by subst h; exact rOfK w (-1) (by omega) (by omega)))
  · exact q_call2 (F := (Fq.num ((Rat.divInt (-1) (2)).floor)).P) (G := (Fq.num (-1)).P) hp (free_of rfl) (gq_some rfl rfl (by simp) rfl (fun v w h => h)) (enq_R_Same) (sq_in 22 rfl rfl (by simp) rfl (fun v w h => h)) (sq_in 23 rfl rfl (by simp) rfl (fun v w h => h)) (fun v v' w h h' => exRSameB h h' (by decide +kernel))
  · exact q_two (F := fun v _ => v = .bool true) (G := fun v _ => v = .bool true) hp (free_of rfl) trivial (sq_in 20 rfl rfl (by simp) rfl (fun v w h => h)) (sq_in 24 rfl rfl (by simp) rfl (fun v w h => h)) (fun ρ w hc h h' => ⟨_, by simp [execOp, go_sem, h, h'], rfl⟩)
  · exact q_move hp (free_of rfl) trivial (sq_in 25 rfl rfl (by simp) rfl (fun v w h => h))
  · exact q_loadRat hp (free_of rfl) (gq_some rfl rfl (by simp) rfl (fun v w h => h)) (List.mem_iff_getElem?.2 ⟨6, rfl⟩) (.inl rfl) rfl (sq_out rfl rfl (fun _ _ => rfl)) (fun us w hl h => h)
  · exact q_call1 (F := (Fq.pair (Rat.divInt (1) (2)).num ((Rat.divInt (1) (2)).den : Int)).P) hp (free_of rfl) (gq_some rfl rfl (by simp) rfl (fun v w h => h)) (enq_Q_Valid) (sq_in 27 rfl rfl (by simp) rfl (fun v w h => h)) (fun v w h => exValidQ h (rb_le B1.out (by omega)))
  · exact q_two (F := fun v _ => v = .bool true) (G := fun v _ => v = .bool true) hp (free_of rfl) trivial (sq_in 26 rfl rfl (by simp) rfl (fun v w h => h)) (sq_in 28 rfl rfl (by simp) rfl (fun v w h => h)) (fun ρ w hc h h' => ⟨_, by simp [execOp, go_sem, h, h'], rfl⟩)
  · exact q_move hp (free_of rfl) trivial (sq_in 29 rfl rfl (by simp) rfl (fun v w h => h))
  · exact q_zeroRat hp (free_of rfl) (gq_some rfl rfl (by simp) rfl (fun v w h => h)) (fun v w h => h)
  · exact q_call1 (F := (Fq.pair 0 0).P) hp (free_of rfl) (gq_some rfl rfl (by simp) rfl (fun v w h => h)) (enq_Q_Valid) (sq_in 31 rfl rfl (by simp) rfl (fun v w h => h)) (fun v w h => exValidN h (by decide))
  · exact q_one (F := fun v _ => v = .bool false) hp (free_of rfl) (gq_some rfl rfl (by simp) rfl (fun v w h => h)) (sq_in 32 rfl rfl (by simp) rfl (fun v w h => h)) (fun ρ w _ h => ⟨.bool true, by simp [execOp, go_sem, h], rfl⟩)
  · exact q_two (F := fun v _ => v = .bool true) (G := fun v _ => v = .bool true) hp (free_of rfl) trivial (sq_in 30 rfl rfl (by simp) rfl (fun v w h => h)) (sq_in 33 rfl rfl (by simp) rfl (fun v w h => h)) (fun ρ w hc h h' => ⟨_, by simp [execOp, go_sem, h, h'], rfl⟩)
  · exact q_assign hp (free_of rfl) trivial (sq_in 34 rfl rfl (by simp) rfl (fun v w h => h))
  intro L vs w27 nb hL hC hn E27
  have e2 : vs 2 = .bool true := hC 2 (by simp)
  have e3 : vs 3 = .bool true := hC 3 (by simp)
  have e8 : vs 8 = .bool true := hC 8 (by simp)
  have e9 : vs 9 = .bool true := hC 9 (by simp)
  have e10 : vs 10 = .bool true := hC 10 (by simp)
  have e13 : vs 13 = .bool true := hC 13 (by simp)
  have e14 : vs 14 = .bool true := hC 14 (by simp)
  have e15 : vs 15 = .bool true := hC 15 (by simp)
  have e18 : vs 18 = .bool true := hC 18 (by simp)
  have e19 : vs 19 = .bool true := hC 19 (by simp)
  have e20 : vs 20 = .bool true := hC 20 (by simp)
  have e24 : vs 24 = .bool true := hC 24 (by simp)
  have e25 : vs 25 = .bool true := hC 25 (by simp)
  have e26 : vs 26 = .bool true := hC 26 (by simp)
  have e28 : vs 28 = .bool true := hC 28 (by simp)
  have e29 : vs 29 = .bool true := hC 29 (by simp)
  have e30 : vs 30 = .bool true := hC 30 (by simp)
  have e32 : vs 32 = .bool false := hC 32 (by simp)
  have e33 : vs 33 = .bool true := hC 33 (by simp)
  have e34 : vs 34 = .bool true := hC 34 (by simp)
  have e35 : vs 35 = .bool true := hC 35 (by simp)
  have E : Fr w [(b18_4, 4, Fq.pair 0 0), (b17_6, 4, Fq.pair 0 0), (b16_6, 4, Fq.pair ((simF (((Rat.divInt (17) (50)).den : Int) + ((Rat.divInt (9) (25)).den : Int)).toNat (Rat.divInt (17) (50)).num ((Rat.divInt (17) (50)).den : Int) (Rat.divInt (9) (25)).num ((Rat.divInt (9) (25)).den : Int)).1) ((simF (((Rat.divInt (17) (50)).den : Int) + ((Rat.divInt (9) (25)).den : Int)).toNat (Rat.divInt (17) (50)).num ((Rat.divInt (17) (50)).den : Int) (Rat.divInt (9) (25)).num ((Rat.divInt (9) (25)).den : Int)).2)), (b13_6, 4, Fq.pair ((simF (((Rat.divInt (1) (3)).den : Int) + ((Rat.divInt (2) (5)).den : Int)).toNat (Rat.divInt (1) (3)).num ((Rat.divInt (1) (3)).den : Int) (Rat.divInt (2) (5)).num ((Rat.divInt (2) (5)).den : Int)).1) ((simF (((Rat.divInt (1) (3)).den : Int) + ((Rat.divInt (2) (5)).den : Int)).toNat (Rat.divInt (1) (3)).num ((Rat.divInt (1) (3)).den : Int) (Rat.divInt (2) (5)).num ((Rat.divInt (2) (5)).den : Int)).2)), (b10_6, 4, Fq.pair 0 0), (b7_6, 4, Fq.pair (Rat.divInt (-6) (4)).num ((Rat.divInt (-6) (4)).den : Int)), (b3_2, 4, Fq.pair (Rat.divInt (1) (2)).num ((Rat.divInt (1) (2)).den : Int)), (b3_3, 4, Fq.pair (Rat.divInt (1) (3)).num ((Rat.divInt (1) (3)).den : Int))] w27 := E27
  rw [lay_all hL]
  simp only [putAll, dstOf, List.length_cons, List.length_nil, Nat.zero_add, Nat.reduceAdd, List.getElem?_toArray, List.getElem?_cons_zero, List.getElem?_cons_succ, Option.bind_some, Act.put, List.setIfInBounds_toArray, List.set_cons_succ, List.set_cons_zero]
  rw [e2, e3, e8, e9, e10, e13, e14, e15, e18, e19, e20, e24, e25, e26, e28, e29, e30, e32, e33, e34, e35]
  generalize vs 0 = u27_0
  generalize vs 1 = u27_1
  generalize vs 4 = u27_4
  generalize vs 5 = u27_5
  generalize vs 6 = u27_6
  generalize vs 7 = u27_7
  generalize vs 11 = u27_11
  generalize vs 12 = u27_12
  generalize vs 16 = u27_16
  generalize vs 17 = u27_17
  generalize vs 21 = u27_21
  generalize vs 22 = u27_22
  generalize vs 23 = u27_23
  generalize vs 27 = u27_27
  generalize vs 31 = u27_31
  clear e2 e3 e8 e9 e10 e13 e14 e15 e18 e19 e20 e24 e25 e26 e28 e29 e30 e32 e33 e34 e35 hC hn E27 hL vs L nb
  clear tx
  clear B1 B2 B4 B5 B6 B8 B9 B12 B14 B15 B20 B21 B22 B23 B24 B25 B26
  go_wp2
  refine bodyPost_ret (v := .bool true) ?_ rfl (by first | exact ⟨_, rfl, E.below, rfl⟩ | exact ⟨_, rfl, E.below⟩ | exact ⟨rfl, E.below⟩)
  simp [results, Tryz.results7, go_sem]

end Go.Proofs.YtoimphnhmpmipaaGreat

/- Walk of the law on the field of fractions. -/
namespace Go.Proofs.YtoimphnhmpmipaaGreat
open Go Go.RowKit

theorem enq_K_examples (args : Array Value) (w : World) : (callFunc 7 args).run Tryz.prog w = .ok (.enter 7 args) w := enter_of Tryz.func7 (by kernel_rfl) rfl args w

section
variable {os : List Oper} {Q : Exit → Act → World → Prop} {a : Act} {p : Pq} {B B0 : Nat} {w0 : World}
variable {i s : Nat} {d : Option Tmp} {ty : TypeId} {ps : String} {af : Array Edge} {gd : Option (Nat × Bool)}
/-- Two signs and words, loaded out of their box. -/
theorem q_loadRaw2 {o : Ob} {x : Operand} (hp : p.Ok B B0) (hF : p.Free i) (hg : GdQ os a p B B0 w0 af gd) (ho : o ∈ p.old) (hk : o.F1 = o.F0 ∨ leadsB os 9 o.k i = true) (hm : o.m = 4)
    (hx : SrcQ os a p B B0 w0 af x fun u _ => u = .pointer (some ⟨o.b, 0, none⟩)) (hC : ∀ (us : List Value) (w : World), us.length = o.m → o.F0.P (.agg us.toArray) w → (p.c i).P (.agg us.toArray) w) :
    StepQ os Q a p B B0 w0 i { dst := d, op := .load 26 x, type := ty, pos := ps, after := af, guard := gd } := by
  refine stq_val hp hF hg fun L vs w hG hL hc hd => ?_
  obtain ⟨us, hl, h0, hat, ht, hP⟩ := box_now ho hk hG hL hc
  have e := hx L vs w hG hd
  refine ⟨_, ?_, hC us w hl hP⟩
  rw [hm] at hl
  match us, hl, hat with
  | [p, q, r, s], _, hat =>
    have c0 := (hat 0 (by simp)).1
    have c1 := (hat 1 (by simp)).1
    have c2 := (hat 2 (by simp)).1
    have c3 := (hat 3 (by simp)).1
    simp at c0 c1 c2 c3
    generalize (lay os.toArray L vs os.toArray.size a).eval = ρ at e
    simp [execOp, go_sem, e, c0, c1, c2, c3]
end

end Go.Proofs.YtoimphnhmpmipaaGreat

/- Steps of a region over slices of fractions. -/
namespace Go.Proofs.YtoimphnhmpmipaaGreat
open Go Go.RowKit

section
variable {os : List Oper} {Q : Exit → Act → World → Prop} {a : Act} {p : Pq} {B B0 : Nat} {w0 : World}
variable {i s : Nat} {d : Option Tmp} {ty : TypeId} {ps : String} {af : Array Edge} {gd : Option (Nat × Bool)}

/-- A fraction, loaded out of a part of a box. -/
theorem q_loadRatAt {o : Ob} {off : Nat} {x : Operand} (hp : p.Ok B B0) (hF : p.Free i) (hg : GdQ os a p B B0 w0 af gd) (ho : o ∈ p.old) (hk : o.F1 = o.F0 ∨ leadsB os 9 o.k i = true) (hoff : off + 4 ≤ o.m)
    (hx : SrcQ os a p B B0 w0 af x fun u _ => u = .pointer (some ⟨o.b, off, none⟩)) (hC : ∀ (us : List Value) (w : World), us.length = o.m → o.F0.P (.agg us.toArray) w → (p.c i).P (.agg #[us.getD off undef, us.getD (off + 1) undef, us.getD (off + 2) undef, us.getD (off + 3) undef]) w) :
    StepQ os Q a p B B0 w0 i { dst := d, op := .load 31 x, type := ty, pos := ps, after := af, guard := gd } := by
  refine stq_val hp hF hg fun L vs w hG hL hc hd => ?_
  obtain ⟨us, hl, h0, hat, ht, hP⟩ := box_now ho hk hG hL hc
  have e := hx L vs w hG hd
  have c0 := (hat off (by omega)).1
  have c1 := (hat (off + 1) (by omega)).1
  have c2 := (hat (off + 2) (by omega)).1
  have c3 := (hat (off + 3) (by omega)).1
  refine ⟨_, ?_, hC us w hl hP⟩
  generalize (lay os.toArray L vs os.toArray.size a).eval = ρ at e
  generalize us.getD off undef = u0 at c0 ⊢
  generalize us.getD (off + 1) undef = u1 at c1 ⊢
  generalize us.getD (off + 2) undef = u2 at c2 ⊢
  generalize us.getD (off + 3) undef = u3 at c3 ⊢
  simp [execOp, go_sem, e, c0, c1, c2, c3]

end

end Go.Proofs.YtoimphnhmpmipaaGreat

/- Walks: the reference's arithmetic of fractions. -/
namespace Go.Proofs.YtoimphnhmpmipaaGreat
open Go Go.RowKit

theorem exRCmpN {w : World} {v v' : Value} {z z' : Int} (h : Num w v z) (h' : Num w v' z') : Calls Tryz.prog 44 #[v, v'] w fun e w' => ∃ v', e = .returned v' ∧ Below w.heap.size w w' ∧ v' = .int .i64 (cmpI z z') :=
  (RCmpV h h').mono fun _ _ hh => ⟨_, hh.1, hh.2, rfl⟩

set_option maxRecDepth 100000 in
set_option maxHeartbeats 4000000 in
theorem exSAddQ {w : World} {v v' : Value} {a b : Rat} (h : Pair w v a.num a.den) (h' : Pair w v' b.num b.den) (ha : Rb a 300) (hb : Rb b 300) :
    Calls Tryz.prog 15 #[v, v'] w fun e w' => ∃ v', e = .returned v' ∧ Below w.heap.size w w' ∧ Pair w' v' (a + b).num ((a + b).den : Int) := by
  replace ha := hidd ha
  replace hb := hidd hb
  obtain ⟨n0, ao0, k0, c0, n0', ao0', k0', c0', rfl, _⟩ := ratV_pair h
  obtain ⟨n1, ao1, k1, c1, n1', ao1', k1', c1', rfl, _⟩ := ratV_pair h'
  obtain ⟨w1, b1, hw1, hb1, hs1, E⟩ := fr_start w (F := Fq.pair a.num (a.den : Int)) (us := [.bool n0, .slice ao0 k0 c0, .bool n0', .slice ao0' k0' c0']) 31 rfl (by simp) (tame_rat _ _ _ _ _ _ _ _) h
  obtain ⟨w2, b2, hw2, hb2, hs2, E⟩ := fr_more E hs1 (F := Fq.pair b.num (b.den : Int)) (us := [.bool n1, .slice ao1 k1 c1, .bool n1', .slice ao1' k1' c1']) 31 rfl (by simp) (tame_rat _ _ _ _ _ _ _ _) (h'.mono E.below)
  obtain ⟨w3, b3, hw3, hb3, hs3, E⟩ := fr_more E hs2 (F := Fq.pair 0 0) (us := [.bool false, .slice none 0 0, .bool false, .slice none 0 0]) 31 rfl (by simp) (tame_rat _ _ _ _ _ _ _ _) (Pair.zero _)
  go_enter Tryz.func15, Tryz.ntmps15
  go_upto_region 1 with (fail)
  rw [← hw1]
  rw [← hw2]
  rw [← hw3]
  rw [← hb3]
  rw [← hb2]
  rw [← hb1]
  clear hw1 hw2 hw3 hb1 hb2 hb3 hs3 hs1 hs2
  have B4 : Hid (ab ((a.num * (b.den : Int))) < pw 600) := ab_mulM ha.out.1 hb.out.2 (by omega)
  have B5 : Hid (ab ((b.num * (a.den : Int))) < pw 600) := ab_mulM hb.out.1 ha.out.2 (by omega)
  have B6 : Hid (ab (((a.num * (b.den : Int)) + (b.num * (a.den : Int)))) < pw 601) := ab_addB B4.out B5.out (by omega) (by omega)
  have B7 : Hid (ab (((a.den : Int) * (b.den : Int))) < pw 600) := ab_mulM ha.out.2 hb.out.2 (by omega)
  have B8 : Hid (Rb (Rat.divInt ((a.num * (b.den : Int)) + (b.num * (a.den : Int))) ((a.den : Int) * (b.den : Int))) 601) := rb_divInt (den_mul_ne a b) (Int.lt_of_lt_of_le B6.out (pw_le (by omega))) (Int.lt_of_lt_of_le B7.out (pw_le (by omega)))
  refine region_fr (C := [Fq.is (.pointer (some ⟨b1, 0, none⟩)), Fq.num a.num, Fq.is (.pointer (some ⟨b2, 2, none⟩)), Fq.num (b.den : Int), Fq.num (a.num * (b.den : Int)), Fq.is (.pointer (some ⟨b2, 0, none⟩)), Fq.num b.num, Fq.is (.pointer (some ⟨b1, 2, none⟩)), Fq.num (a.den : Int), Fq.num (b.num * (a.den : Int)), Fq.num ((a.num * (b.den : Int)) + (b.num * (a.den : Int))), Fq.is (.pointer (some ⟨b1, 2, none⟩)), Fq.num (a.den : Int), Fq.is (.pointer (some ⟨b2, 2, none⟩)), Fq.num (b.den : Int), Fq.num ((a.den : Int) * (b.den : Int)), Fq.pair (Rat.divInt ((a.num * (b.den : Int)) + (b.num * (a.den : Int))) ((a.den : Int) * (b.den : Int))).num ((Rat.divInt ((a.num * (b.den : Int)) + (b.num * (a.den : Int))) ((a.den : Int) * (b.den : Int))).den : Int), Fq.any]) (ks := [some (17, Fq.pair (Rat.divInt ((a.num * (b.den : Int)) + (b.num * (a.den : Int))) ((a.den : Int) * (b.den : Int))).num ((Rat.divInt ((a.num * (b.den : Int)) + (b.num * (a.den : Int))) ((a.den : Int) * (b.den : Int))).den : Int)), none, none]) (new := []) E rfl (by kernel_rfl) rfl rfl (fun hp => ⟨?_, ?_, ?_, ?_, ?_, ?_, ?_, ?_, ?_, ?_, ?_, ?_, ?_, ?_, ?_, ?_, ?_, ?_, trivial⟩) ?_
  · exact q_addr (b := b1) (off := 0) (off' := 0) hp (free_of rfl) trivial (sq_out rfl rfl (fun _ _ => rfl)) (fun ρ w h => by simp [execOp, go_sem, h]) (fun _ => rfl)
  · exact q_loadInt (off := 0) hp (free_of rfl) trivial (List.mem_iff_getElem?.2 ⟨2, rfl⟩) (.inl rfl) (Nat.le_of_ble_eq_true rfl) (sq_in 0 rfl rfl (by simp) rfl (fun v w h => h)) (fun us w hl h => ld_pn hl h)
  · exact q_addr (b := b2) (off := 0) (off' := 2) hp (free_of rfl) trivial (sq_out rfl rfl (fun _ _ => rfl)) (fun ρ w h => by simp [execOp, go_sem, h]) (fun _ => rfl)
  · exact q_loadInt (off := 2) hp (free_of rfl) trivial (List.mem_iff_getElem?.2 ⟨1, rfl⟩) (.inl rfl) (Nat.le_of_ble_eq_true rfl) (sq_in 2 rfl rfl (by simp) rfl (fun v w h => h)) (fun us w hl h => ld_pd hl h)
  · exact q_call2 (F := (Fq.num a.num).P) (G := (Fq.num (b.den : Int)).P) hp (free_of rfl) trivial (enq_R_Mul) (sq_in 1 rfl rfl (by simp) rfl (fun v w h => h)) (sq_in 3 rfl rfl (by simp) rfl (fun v w h => h)) (fun v v' w h h' => exK (RMulV h h') B4.out (by omega))
  · exact q_addr (b := b2) (off := 0) (off' := 0) hp (free_of rfl) trivial (sq_out rfl rfl (fun _ _ => rfl)) (fun ρ w h => by simp [execOp, go_sem, h]) (fun _ => rfl)
  · exact q_loadInt (off := 0) hp (free_of rfl) trivial (List.mem_iff_getElem?.2 ⟨1, rfl⟩) (.inl rfl) (Nat.le_of_ble_eq_true rfl) (sq_in 5 rfl rfl (by simp) rfl (fun v w h => h)) (fun us w hl h => ld_pn hl h)
  · exact q_addr (b := b1) (off := 0) (off' := 2) hp (free_of rfl) trivial (sq_out rfl rfl (fun _ _ => rfl)) (fun ρ w h => by simp [execOp, go_sem, h]) (fun _ => rfl)
  · exact q_loadInt (off := 2) hp (free_of rfl) trivial (List.mem_iff_getElem?.2 ⟨2, rfl⟩) (.inl rfl) (Nat.le_of_ble_eq_true rfl) (sq_in 7 rfl rfl (by simp) rfl (fun v w h => h)) (fun us w hl h => ld_pd hl h)
  · exact q_call2 (F := (Fq.num b.num).P) (G := (Fq.num (a.den : Int)).P) hp (free_of rfl) trivial (enq_R_Mul) (sq_in 6 rfl rfl (by simp) rfl (fun v w h => h)) (sq_in 8 rfl rfl (by simp) rfl (fun v w h => h)) (fun v v' w h h' => exK (RMulV h h') B5.out (by omega))
  · exact q_call2 (F := (Fq.num (a.num * (b.den : Int))).P) (G := (Fq.num (b.num * (a.den : Int))).P) hp (free_of rfl) trivial (enq_R_Add) (sq_in 4 rfl rfl (by simp) rfl (fun v w h => h)) (sq_in 9 rfl rfl (by simp) rfl (fun v w h => h)) (fun v v' w h h' => exK (RAddV h h') B6.out (by omega))
  · exact q_addr (b := b1) (off := 0) (off' := 2) hp (free_of rfl) trivial (sq_out rfl rfl (fun _ _ => rfl)) (fun ρ w h => by simp [execOp, go_sem, h]) (fun _ => rfl)
  · exact q_loadInt (off := 2) hp (free_of rfl) trivial (List.mem_iff_getElem?.2 ⟨2, rfl⟩) (.inl rfl) (Nat.le_of_ble_eq_true rfl) (sq_in 11 rfl rfl (by simp) rfl (fun v w h => h)) (fun us w hl h => ld_pd hl h)
  · exact q_addr (b := b2) (off := 0) (off' := 2) hp (free_of rfl) trivial (sq_out rfl rfl (fun _ _ => rfl)) (fun ρ w h => by simp [execOp, go_sem, h]) (fun _ => rfl)
  · exact q_loadInt (off := 2) hp (free_of rfl) trivial (List.mem_iff_getElem?.2 ⟨1, rfl⟩) (.inl rfl) (Nat.le_of_ble_eq_true rfl) (sq_in 13 rfl rfl (by simp) rfl (fun v w h => h)) (fun us w hl h => ld_pd hl h)
  · exact q_call2 (F := (Fq.num (a.den : Int)).P) (G := (Fq.num (b.den : Int)).P) hp (free_of rfl) trivial (enq_R_Mul) (sq_in 12 rfl rfl (by simp) rfl (fun v w h => h)) (sq_in 14 rfl rfl (by simp) rfl (fun v w h => h)) (fun v v' w h h' => exK (RMulV h h') B7.out (by omega))
  · exact q_call2 (F := (Fq.num ((a.num * (b.den : Int)) + (b.num * (a.den : Int)))).P) (G := (Fq.num ((a.den : Int) * (b.den : Int))).P) hp (free_of rfl) trivial (enq_S_over) (sq_in 10 rfl rfl (by simp) rfl (fun v w h => h)) (sq_in 15 rfl rfl (by simp) rfl (fun v w h => h)) (fun v v' w h h' => exSOver h h' (den_mul_ne a b) (Int.lt_of_lt_of_le B6.out (pw_le (by omega))) (Int.lt_of_lt_of_le B7.out (pw_le (by omega))))
  · exact q_storeOldRat hp (List.mem_iff_getElem?.2 ⟨0, rfl⟩) rfl rfl (sq_out rfl rfl (fun _ _ => rfl)) (sq_in 16 rfl rfl (by simp) rfl (fun v w h => ratV_pair h)) (fun _ _ => trivial) (newik_ne rfl)
  intro L vs w9 nb hL hC hn E9
  have e0 : vs 0 = .pointer (some ⟨b1, 0, none⟩) := hC 0 (by simp)
  have e2 : vs 2 = .pointer (some ⟨b2, 2, none⟩) := hC 2 (by simp)
  have e5 : vs 5 = .pointer (some ⟨b2, 0, none⟩) := hC 5 (by simp)
  have e7 : vs 7 = .pointer (some ⟨b1, 2, none⟩) := hC 7 (by simp)
  have e11 : vs 11 = .pointer (some ⟨b1, 2, none⟩) := hC 11 (by simp)
  have e13 : vs 13 = .pointer (some ⟨b2, 2, none⟩) := hC 13 (by simp)
  have E : Fr w [(b3, 4, Fq.pair (Rat.divInt ((a.num * (b.den : Int)) + (b.num * (a.den : Int))) ((a.den : Int) * (b.den : Int))).num ((Rat.divInt ((a.num * (b.den : Int)) + (b.num * (a.den : Int))) ((a.den : Int) * (b.den : Int))).den : Int)), (b2, 4, Fq.pair b.num (b.den : Int)), (b1, 4, Fq.pair a.num (a.den : Int))] w9 := E9
  rw [lay_all hL]
  simp only [putAll, dstOf, List.length_cons, List.length_nil, Nat.zero_add, Nat.reduceAdd, List.getElem?_toArray, List.getElem?_cons_zero, List.getElem?_cons_succ, Option.bind_some, Act.put, List.setIfInBounds_toArray, List.set_cons_succ, List.set_cons_zero]
  rw [e0, e2, e5, e7, e11, e13]
  generalize vs 1 = u9_1
  generalize vs 3 = u9_3
  generalize vs 4 = u9_4
  generalize vs 6 = u9_6
  generalize vs 8 = u9_8
  generalize vs 9 = u9_9
  generalize vs 10 = u9_10
  generalize vs 12 = u9_12
  generalize vs 14 = u9_14
  generalize vs 15 = u9_15
  generalize vs 16 = u9_16
  clear e0 e2 e5 e7 e11 e13 hC hn E9 hL vs L nb
  obtain ⟨p0, p1, p2, p3, c0, c1, c2, c3, hP⟩ := box_pair (E.box 0 rfl)
  clear B4 B5 B6 B7 B8 ha hb
  go_wp2
  refine bodyPost_ret (v := .agg #[p0, p1, p2, p3]) ?_ rfl ⟨_, rfl, E.below, by rw [add_div a b]; exact hP⟩
  simp [results, Tryz.results15, go_sem, c0, c1, c2, c3]

set_option maxRecDepth 100000 in
set_option maxHeartbeats 4000000 in
theorem exSMulQ {w : World} {v v' : Value} {a b : Rat} (h : Pair w v a.num a.den) (h' : Pair w v' b.num b.den) (ha : Rb a 300) (hb : Rb b 300) :
    Calls Tryz.prog 19 #[v, v'] w fun e w' => ∃ v', e = .returned v' ∧ Below w.heap.size w w' ∧ Pair w' v' (a * b).num ((a * b).den : Int) := by
  replace ha := hidd ha
  replace hb := hidd hb
  obtain ⟨n0, ao0, k0, c0, n0', ao0', k0', c0', rfl, _⟩ := ratV_pair h
  obtain ⟨n1, ao1, k1, c1, n1', ao1', k1', c1', rfl, _⟩ := ratV_pair h'
  obtain ⟨w1, b1, hw1, hb1, hs1, E⟩ := fr_start w (F := Fq.pair a.num (a.den : Int)) (us := [.bool n0, .slice ao0 k0 c0, .bool n0', .slice ao0' k0' c0']) 31 rfl (by simp) (tame_rat _ _ _ _ _ _ _ _) h
  obtain ⟨w2, b2, hw2, hb2, hs2, E⟩ := fr_more E hs1 (F := Fq.pair b.num (b.den : Int)) (us := [.bool n1, .slice ao1 k1 c1, .bool n1', .slice ao1' k1' c1']) 31 rfl (by simp) (tame_rat _ _ _ _ _ _ _ _) (h'.mono E.below)
  obtain ⟨w3, b3, hw3, hb3, hs3, E⟩ := fr_more E hs2 (F := Fq.pair 0 0) (us := [.bool false, .slice none 0 0, .bool false, .slice none 0 0]) 31 rfl (by simp) (tame_rat _ _ _ _ _ _ _ _) (Pair.zero _)
  go_enter Tryz.func19, Tryz.ntmps19
  go_upto_region 1 with (fail)
  rw [← hw1]
  rw [← hw2]
  rw [← hw3]
  rw [← hb3]
  rw [← hb2]
  rw [← hb1]
  clear hw1 hw2 hw3 hb1 hb2 hb3 hs3 hs1 hs2
  have B4 : Hid (ab ((a.num * b.num)) < pw 600) := ab_mulM ha.out.1 hb.out.1 (by omega)
  have B5 : Hid (ab (((a.den : Int) * (b.den : Int))) < pw 600) := ab_mulM ha.out.2 hb.out.2 (by omega)
  have B6 : Hid (Rb (Rat.divInt (a.num * b.num) ((a.den : Int) * (b.den : Int))) 600) := rb_divInt (den_mul_ne a b) (Int.lt_of_lt_of_le B4.out (pw_le (by omega))) (Int.lt_of_lt_of_le B5.out (pw_le (by omega)))
  refine region_fr (C := [Fq.is (.pointer (some ⟨b1, 0, none⟩)), Fq.num a.num, Fq.is (.pointer (some ⟨b2, 0, none⟩)), Fq.num b.num, Fq.num (a.num * b.num), Fq.is (.pointer (some ⟨b1, 2, none⟩)), Fq.num (a.den : Int), Fq.is (.pointer (some ⟨b2, 2, none⟩)), Fq.num (b.den : Int), Fq.num ((a.den : Int) * (b.den : Int)), Fq.pair (Rat.divInt (a.num * b.num) ((a.den : Int) * (b.den : Int))).num ((Rat.divInt (a.num * b.num) ((a.den : Int) * (b.den : Int))).den : Int), Fq.any]) (ks := [some (11, Fq.pair (Rat.divInt (a.num * b.num) ((a.den : Int) * (b.den : Int))).num ((Rat.divInt (a.num * b.num) ((a.den : Int) * (b.den : Int))).den : Int)), none, none]) (new := []) E rfl (by kernel_rfl) rfl rfl (fun hp => ⟨?_, ?_, ?_, ?_, ?_, ?_, ?_, ?_, ?_, ?_, ?_, ?_, trivial⟩) ?_
  · exact q_addr (b := b1) (off := 0) (off' := 0) hp (free_of rfl) trivial (sq_out rfl rfl (fun _ _ => rfl)) (fun ρ w h => by simp [execOp, go_sem, h]) (fun _ => rfl)
  · exact q_loadInt (off := 0) hp (free_of rfl) trivial (List.mem_iff_getElem?.2 ⟨2, rfl⟩) (.inl rfl) (Nat.le_of_ble_eq_true rfl) (sq_in 0 rfl rfl (by simp) rfl (fun v w h => h)) (fun us w hl h => ld_pn hl h)
  · exact q_addr (b := b2) (off := 0) (off' := 0) hp (free_of rfl) trivial (sq_out rfl rfl (fun _ _ => rfl)) (fun ρ w h => by simp [execOp, go_sem, h]) (fun _ => rfl)
  · exact q_loadInt (off := 0) hp (free_of rfl) trivial (List.mem_iff_getElem?.2 ⟨1, rfl⟩) (.inl rfl) (Nat.le_of_ble_eq_true rfl) (sq_in 2 rfl rfl (by simp) rfl (fun v w h => h)) (fun us w hl h => ld_pn hl h)
  · exact q_call2 (F := (Fq.num a.num).P) (G := (Fq.num b.num).P) hp (free_of rfl) trivial (enq_R_Mul) (sq_in 1 rfl rfl (by simp) rfl (fun v w h => h)) (sq_in 3 rfl rfl (by simp) rfl (fun v w h => h)) (fun v v' w h h' => exK (RMulV h h') B4.out (by omega))
  · exact q_addr (b := b1) (off := 0) (off' := 2) hp (free_of rfl) trivial (sq_out rfl rfl (fun _ _ => rfl)) (fun ρ w h => by simp [execOp, go_sem, h]) (fun _ => rfl)
  · exact q_loadInt (off := 2) hp (free_of rfl) trivial (List.mem_iff_getElem?.2 ⟨2, rfl⟩) (.inl rfl) (Nat.le_of_ble_eq_true rfl) (sq_in 5 rfl rfl (by simp) rfl (fun v w h => h)) (fun us w hl h => ld_pd hl h)
  · exact q_addr (b := b2) (off := 0) (off' := 2) hp (free_of rfl) trivial (sq_out rfl rfl (fun _ _ => rfl)) (fun ρ w h => by simp [execOp, go_sem, h]) (fun _ => rfl)
  · exact q_loadInt (off := 2) hp (free_of rfl) trivial (List.mem_iff_getElem?.2 ⟨1, rfl⟩) (.inl rfl) (Nat.le_of_ble_eq_true rfl) (sq_in 7 rfl rfl (by simp) rfl (fun v w h => h)) (fun us w hl h => ld_pd hl h)
  · exact q_call2 (F := (Fq.num (a.den : Int)).P) (G := (Fq.num (b.den : Int)).P) hp (free_of rfl) trivial (enq_R_Mul) (sq_in 6 rfl rfl (by simp) rfl (fun v w h => h)) (sq_in 8 rfl rfl (by simp) rfl (fun v w h => h)) (fun v v' w h h' => exK (RMulV h h') B5.out (by omega))
  · exact q_call2 (F := (Fq.num (a.num * b.num)).P) (G := (Fq.num ((a.den : Int) * (b.den : Int))).P) hp (free_of rfl) trivial (enq_S_over) (sq_in 4 rfl rfl (by simp) rfl (fun v w h => h)) (sq_in 9 rfl rfl (by simp) rfl (fun v w h => h)) (fun v v' w h h' => exSOver h h' (den_mul_ne a b) (Int.lt_of_lt_of_le B4.out (pw_le (by omega))) (Int.lt_of_lt_of_le B5.out (pw_le (by omega))))
  · exact q_storeOldRat hp (List.mem_iff_getElem?.2 ⟨0, rfl⟩) rfl rfl (sq_out rfl rfl (fun _ _ => rfl)) (sq_in 10 rfl rfl (by simp) rfl (fun v w h => ratV_pair h)) (fun _ _ => trivial) (newik_ne rfl)
  intro L vs w7 nb hL hC hn E7
  have e0 : vs 0 = .pointer (some ⟨b1, 0, none⟩) := hC 0 (by simp)
  have e2 : vs 2 = .pointer (some ⟨b2, 0, none⟩) := hC 2 (by simp)
  have e5 : vs 5 = .pointer (some ⟨b1, 2, none⟩) := hC 5 (by simp)
  have e7 : vs 7 = .pointer (some ⟨b2, 2, none⟩) := hC 7 (by simp)
  have E : Fr w [(b3, 4, Fq.pair (Rat.divInt (a.num * b.num) ((a.den : Int) * (b.den : Int))).num ((Rat.divInt (a.num * b.num) ((a.den : Int) * (b.den : Int))).den : Int)), (b2, 4, Fq.pair b.num (b.den : Int)), (b1, 4, Fq.pair a.num (a.den : Int))] w7 := E7
  rw [lay_all hL]
  simp only [putAll, dstOf, List.length_cons, List.length_nil, Nat.zero_add, Nat.reduceAdd, List.getElem?_toArray, List.getElem?_cons_zero, List.getElem?_cons_succ, Option.bind_some, Act.put, List.setIfInBounds_toArray, List.set_cons_succ, List.set_cons_zero]
  rw [e0, e2, e5, e7]
  generalize vs 1 = u7_1
  generalize vs 3 = u7_3
  generalize vs 4 = u7_4
  generalize vs 6 = u7_6
  generalize vs 8 = u7_8
  generalize vs 9 = u7_9
  generalize vs 10 = u7_10
  clear e0 e2 e5 e7 hC hn E7 hL vs L nb
  obtain ⟨p0, p1, p2, p3, c0, c1, c2, c3, hP⟩ := box_pair (E.box 0 rfl)
  clear B4 B5 B6 ha hb
  go_wp2
  refine bodyPost_ret (v := .agg #[p0, p1, p2, p3]) ?_ rfl ⟨_, rfl, E.below, by rw [mul_div a b]; exact hP⟩
  simp [results, Tryz.results19, go_sem, c0, c1, c2, c3]

set_option maxRecDepth 100000 in
set_option maxHeartbeats 4000000 in
theorem exSNegQ {w : World} {v : Value} {a : Rat} (h : Pair w v a.num a.den) (ha : Rb a 300) :
    Calls Tryz.prog 51 #[v] w fun e w' => ∃ v', e = .returned v' ∧ Below w.heap.size w w' ∧ Pair w' v' (-a).num ((-a).den : Int) := by
  replace ha := hidd ha
  obtain ⟨n0, ao0, k0, c0, n0', ao0', k0', c0', rfl, _⟩ := ratV_pair h
  obtain ⟨w1, b1, hw1, hb1, hs1, E⟩ := fr_start w (F := Fq.pair a.num (a.den : Int)) (us := [.bool n0, .slice ao0 k0 c0, .bool n0', .slice ao0' k0' c0']) 31 rfl (by simp) (tame_rat _ _ _ _ _ _ _ _) h
  obtain ⟨w2, b2, hw2, hb2, hs2, E⟩ := fr_more E hs1 (F := Fq.pair 0 0) (us := [.bool false, .slice none 0 0, .bool false, .slice none 0 0]) 31 rfl (by simp) (tame_rat _ _ _ _ _ _ _ _) (Pair.zero _)
  go_enter Tryz.func51, Tryz.ntmps51
  go_upto_region 1 with (fail)
  rw [← hw1]
  rw [← hw2]
  rw [← hb2]
  rw [← hb1]
  clear hw1 hw2 hb1 hb2 hs2 hs1
  have B3 : Hid (ab ((-a.num)) < pw 300) := ab_negB ha.out.1
  refine region_fr (C := [Fq.is (.pointer (some ⟨b1, 0, none⟩)), Fq.num a.num, Fq.num (-a.num), Fq.is (.pointer (some ⟨b1, 2, none⟩)), Fq.num (a.den : Int), Fq.pair (-a.num) (a.den : Int), Fq.any]) (ks := [some (6, Fq.pair (-a.num) (a.den : Int)), none]) (new := []) E rfl (by kernel_rfl) rfl rfl (fun hp => ⟨?_, ?_, ?_, ?_, ?_, ?_, ?_, trivial⟩) ?_
  · exact q_addr (b := b1) (off := 0) (off' := 0) hp (free_of rfl) trivial (sq_out rfl rfl (fun _ _ => rfl)) (fun ρ w h => by simp [execOp, go_sem, h]) (fun _ => rfl)
  · exact q_loadInt (off := 0) hp (free_of rfl) trivial (List.mem_iff_getElem?.2 ⟨1, rfl⟩) (.inl rfl) (Nat.le_of_ble_eq_true rfl) (sq_in 0 rfl rfl (by simp) rfl (fun v w h => h)) (fun us w hl h => ld_pn hl h)
  · exact q_call1 (F := (Fq.num a.num).P) hp (free_of rfl) trivial (enq_R_Neg) (sq_in 1 rfl rfl (by simp) rfl (fun v w h => h)) (fun v w h => exK (RNegV h) B3.out (by omega))
  · exact q_addr (b := b1) (off := 0) (off' := 2) hp (free_of rfl) trivial (sq_out rfl rfl (fun _ _ => rfl)) (fun ρ w h => by simp [execOp, go_sem, h]) (fun _ => rfl)
  · exact q_loadInt (off := 2) hp (free_of rfl) trivial (List.mem_iff_getElem?.2 ⟨1, rfl⟩) (.inl rfl) (Nat.le_of_ble_eq_true rfl) (sq_in 3 rfl rfl (by simp) rfl (fun v w h => h)) (fun us w hl h => ld_pd hl h)
  · exact q_buildRat (n := (-a.num)) (d0 := (a.den : Int)) hp (free_of rfl) trivial (sq_in 2 rfl rfl (by simp) rfl (fun v w h => h)) (sq_in 4 rfl rfl (by simp) rfl (fun v w h => h)) (fun v w h => h)
  · exact q_storeOldRat hp (List.mem_iff_getElem?.2 ⟨0, rfl⟩) rfl rfl (sq_out rfl rfl (fun _ _ => rfl)) (sq_in 5 rfl rfl (by simp) rfl (fun v w h => ratV_pair h)) (fun _ _ => trivial) (newik_ne rfl)
  intro L vs w4 nb hL hC hn E4
  have e0 : vs 0 = .pointer (some ⟨b1, 0, none⟩) := hC 0 (by simp)
  have e3 : vs 3 = .pointer (some ⟨b1, 2, none⟩) := hC 3 (by simp)
  have E : Fr w [(b2, 4, Fq.pair (-a.num) (a.den : Int)), (b1, 4, Fq.pair a.num (a.den : Int))] w4 := E4
  rw [lay_all hL]
  simp only [putAll, dstOf, List.length_cons, List.length_nil, Nat.zero_add, Nat.reduceAdd, List.getElem?_toArray, List.getElem?_cons_zero, List.getElem?_cons_succ, Option.bind_some, Act.put, List.setIfInBounds_toArray, List.set_cons_succ, List.set_cons_zero]
  rw [e0, e3]
  generalize vs 1 = u4_1
  generalize vs 2 = u4_2
  generalize vs 4 = u4_4
  generalize vs 5 = u4_5
  clear e0 e3 hC hn E4 hL vs L nb
  obtain ⟨p0, p1, p2, p3, c0, c1, c2, c3, hP⟩ := box_pair (E.box 0 rfl)
  clear B3 ha
  go_wp2
  refine bodyPost_ret (v := .agg #[p0, p1, p2, p3]) ?_ rfl ⟨_, rfl, E.below, by rw [Rat.neg_num, Rat.neg_den]; exact hP⟩
  simp [results, Tryz.results51, go_sem, c0, c1, c2, c3]

set_option maxRecDepth 100000 in
set_option maxHeartbeats 4000000 in
theorem exSSubQ {w : World} {v v' : Value} {a b : Rat} (h : Pair w v a.num a.den) (h' : Pair w v' b.num b.den) (ha : Rb a 300) (hb : Rb b 300) :
    Calls Tryz.prog 17 #[v, v'] w fun e w' => ∃ v', e = .returned v' ∧ Below w.heap.size w w' ∧ Pair w' v' (a - b).num ((a - b).den : Int) := by
  replace ha := hidd ha
  replace hb := hidd hb
  obtain ⟨n0, ao0, k0, c0, n0', ao0', k0', c0', rfl, _⟩ := ratV_pair h
  obtain ⟨n1, ao1, k1, c1, n1', ao1', k1', c1', rfl, _⟩ := ratV_pair h'
  obtain ⟨w1, b1, hw1, hb1, hs1, E⟩ := fr_start w (F := Fq.pair a.num (a.den : Int)) (us := [.bool n0, .slice ao0 k0 c0, .bool n0', .slice ao0' k0' c0']) 31 rfl (by simp) (tame_rat _ _ _ _ _ _ _ _) h
  obtain ⟨w2, b2, hw2, hb2, hs2, E⟩ := fr_more E hs1 (F := Fq.pair b.num (b.den : Int)) (us := [.bool n1, .slice ao1 k1 c1, .bool n1', .slice ao1' k1' c1']) 31 rfl (by simp) (tame_rat _ _ _ _ _ _ _ _) (h'.mono E.below)
  obtain ⟨w3, b3, hw3, hb3, hs3, E⟩ := fr_more E hs2 (F := Fq.pair 0 0) (us := [.bool false, .slice none 0 0, .bool false, .slice none 0 0]) 31 rfl (by simp) (tame_rat _ _ _ _ _ _ _ _) (Pair.zero _)
  go_enter Tryz.func17, Tryz.ntmps17
  go_upto_region 1 with (fail)
  rw [← hw1]
  rw [← hw2]
  rw [← hw3]
  rw [← hb3]
  rw [← hb2]
  rw [← hb1]
  clear hw1 hw2 hw3 hb1 hb2 hb3 hs3 hs1 hs2
  have B4 : Hid (Rb (-b) 300) := rb_neg hb.out
  have B5 : Hid (Rb (a + (-b)) 601) := rb_le (rb_add ha.out B4.out) (by omega)
  refine region_fr (C := [Fq.pair a.num (a.den : Int), Fq.pair b.num (b.den : Int), Fq.pair (-b).num ((-b).den : Int), Fq.pair (a + (-b)).num ((a + (-b)).den : Int), Fq.any]) (ks := [some (4, Fq.pair (a + (-b)).num ((a + (-b)).den : Int)), none, none]) (new := []) E rfl (by kernel_rfl) rfl rfl (fun hp => ⟨?_, ?_, ?_, ?_, ?_, trivial⟩) ?_
  · exact q_loadRat hp (free_of rfl) trivial (List.mem_iff_getElem?.2 ⟨2, rfl⟩) (.inl rfl) rfl (sq_out rfl rfl (fun _ _ => rfl)) (fun us w hl h => h)
  · exact q_loadRat hp (free_of rfl) trivial (List.mem_iff_getElem?.2 ⟨1, rfl⟩) (.inl rfl) rfl (sq_out rfl rfl (fun _ _ => rfl)) (fun us w hl h => h)
  · exact q_call1 (F := (Fq.pair b.num (b.den : Int)).P) hp (free_of rfl) trivial (enq_S_Neg) (sq_in 1 rfl rfl (by simp) rfl (fun v w h => h)) (fun v w h => exSNegQ h (rb_le hb.out (by omega)))
  · exact q_call2 (F := (Fq.pair a.num (a.den : Int)).P) (G := (Fq.pair (-b).num ((-b).den : Int)).P) hp (free_of rfl) trivial (enq_S_Add) (sq_in 0 rfl rfl (by simp) rfl (fun v w h => h)) (sq_in 2 rfl rfl (by simp) rfl (fun v w h => h)) (fun v v' w h h' => exSAddQ h h' (rb_le ha.out (by omega)) (rb_le B4.out (by omega)))
  · exact q_storeOldRat hp (List.mem_iff_getElem?.2 ⟨0, rfl⟩) rfl rfl (sq_out rfl rfl (fun _ _ => rfl)) (sq_in 3 rfl rfl (by simp) rfl (fun v w h => ratV_pair h)) (fun _ _ => trivial) (newik_ne rfl)
  intro L vs w6 nb hL hC hn E6
  have E : Fr w [(b3, 4, Fq.pair (a + (-b)).num ((a + (-b)).den : Int)), (b2, 4, Fq.pair b.num (b.den : Int)), (b1, 4, Fq.pair a.num (a.den : Int))] w6 := E6
  rw [lay_all hL]
  simp only [putAll, dstOf, List.length_cons, List.length_nil, Nat.zero_add, Nat.reduceAdd, List.getElem?_toArray, List.getElem?_cons_zero, List.getElem?_cons_succ, Option.bind_some, Act.put, List.setIfInBounds_toArray, List.set_cons_succ, List.set_cons_zero]
  generalize vs 0 = u6_0
  generalize vs 1 = u6_1
  generalize vs 2 = u6_2
  generalize vs 3 = u6_3
  clear  hC hn E6 hL vs L nb
  obtain ⟨p0, p1, p2, p3, c0, c1, c2, c3, hP⟩ := box_pair (E.box 0 rfl)
  clear B4 B5 ha hb
  go_wp2
  refine bodyPost_ret (v := .agg #[p0, p1, p2, p3]) ?_ rfl ⟨_, rfl, E.below, by rw [Rat.sub_eq_add_neg]; exact hP⟩
  simp [results, Tryz.results17, go_sem, c0, c1, c2, c3]

set_option maxRecDepth 100000 in
set_option maxHeartbeats 4000000 in
theorem exSCmpQ {w : World} {v v' : Value} {a b : Rat} (h : Pair w v a.num a.den) (h' : Pair w v' b.num b.den) (ha : Rb a 300) (hb : Rb b 300) :
    Calls Tryz.prog 21 #[v, v'] w fun e w' => ∃ v', e = .returned v' ∧ Below w.heap.size w w' ∧ v' = .int .i64 (cmpQ a b) := by
  replace ha := hidd ha
  replace hb := hidd hb
  obtain ⟨n0, ao0, k0, c0, n0', ao0', k0', c0', rfl, _⟩ := ratV_pair h
  obtain ⟨n1, ao1, k1, c1, n1', ao1', k1', c1', rfl, _⟩ := ratV_pair h'
  obtain ⟨w1, b1, hw1, hb1, hs1, E⟩ := fr_start w (F := Fq.pair a.num (a.den : Int)) (us := [.bool n0, .slice ao0 k0 c0, .bool n0', .slice ao0' k0' c0']) 31 rfl (by simp) (tame_rat _ _ _ _ _ _ _ _) h
  obtain ⟨w2, b2, hw2, hb2, hs2, E⟩ := fr_more E hs1 (F := Fq.pair b.num (b.den : Int)) (us := [.bool n1, .slice ao1 k1 c1, .bool n1', .slice ao1' k1' c1']) 31 rfl (by simp) (tame_rat _ _ _ _ _ _ _ _) (h'.mono E.below)
  go_enter Tryz.func21, Tryz.ntmps21
  go_upto_region 1 with (fail)
  rw [← hw1]
  rw [← hw2]
  rw [← hb2]
  rw [← hb1]
  clear hw1 hw2 hb1 hb2 hs2 hs1
  have B3 : Hid (ab ((a.num * (b.den : Int))) < pw 600) := ab_mulM ha.out.1 hb.out.2 (by omega)
  have B4 : Hid (ab ((b.num * (a.den : Int))) < pw 600) := ab_mulM hb.out.1 ha.out.2 (by omega)
  refine region_fr (C := [Fq.is (.pointer (some ⟨b1, 0, none⟩)), Fq.num a.num, Fq.is (.pointer (some ⟨b2, 2, none⟩)), Fq.num (b.den : Int), Fq.num (a.num * (b.den : Int)), Fq.is (.pointer (some ⟨b2, 0, none⟩)), Fq.num b.num, Fq.is (.pointer (some ⟨b1, 2, none⟩)), Fq.num (a.den : Int), Fq.num (b.num * (a.den : Int)), Fq.is (.int .i64 (cmpI (a.num * (b.den : Int)) (b.num * (a.den : Int)))), Fq.is (.int .i64 (cmpI (a.num * (b.den : Int)) (b.num * (a.den : Int))))]) (ks := [none, none]) (new := []) E rfl (by kernel_rfl) rfl rfl (fun hp => ⟨?_, ?_, ?_, ?_, ?_, ?_, ?_, ?_, ?_, ?_, ?_, ?_, trivial⟩) ?_
  · exact q_addr (b := b1) (off := 0) (off' := 0) hp (free_of rfl) trivial (sq_out rfl rfl (fun _ _ => rfl)) (fun ρ w h => by simp [execOp, go_sem, h]) (fun _ => rfl)
  · exact q_loadInt (off := 0) hp (free_of rfl) trivial (List.mem_iff_getElem?.2 ⟨1, rfl⟩) (.inl rfl) (Nat.le_of_ble_eq_true rfl) (sq_in 0 rfl rfl (by simp) rfl (fun v w h => h)) (fun us w hl h => ld_pn hl h)
  · exact q_addr (b := b2) (off := 0) (off' := 2) hp (free_of rfl) trivial (sq_out rfl rfl (fun _ _ => rfl)) (fun ρ w h => by simp [execOp, go_sem, h]) (fun _ => rfl)
  · exact q_loadInt (off := 2) hp (free_of rfl) trivial (List.mem_iff_getElem?.2 ⟨0, rfl⟩) (.inl rfl) (Nat.le_of_ble_eq_true rfl) (sq_in 2 rfl rfl (by simp) rfl (fun v w h => h)) (fun us w hl h => ld_pd hl h)
  · exact q_call2 (F := (Fq.num a.num).P) (G := (Fq.num (b.den : Int)).P) hp (free_of rfl) trivial (enq_R_Mul) (sq_in 1 rfl rfl (by simp) rfl (fun v w h => h)) (sq_in 3 rfl rfl (by simp) rfl (fun v w h => h)) (fun v v' w h h' => exK (RMulV h h') B3.out (by omega))
  · exact q_addr (b := b2) (off := 0) (off' := 0) hp (free_of rfl) trivial (sq_out rfl rfl (fun _ _ => rfl)) (fun ρ w h => by simp [execOp, go_sem, h]) (fun _ => rfl)
  · exact q_loadInt (off := 0) hp (free_of rfl) trivial (List.mem_iff_getElem?.2 ⟨0, rfl⟩) (.inl rfl) (Nat.le_of_ble_eq_true rfl) (sq_in 5 rfl rfl (by simp) rfl (fun v w h => h)) (fun us w hl h => ld_pn hl h)
  · exact q_addr (b := b1) (off := 0) (off' := 2) hp (free_of rfl) trivial (sq_out rfl rfl (fun _ _ => rfl)) (fun ρ w h => by simp [execOp, go_sem, h]) (fun _ => rfl)
  · exact q_loadInt (off := 2) hp (free_of rfl) trivial (List.mem_iff_getElem?.2 ⟨1, rfl⟩) (.inl rfl) (Nat.le_of_ble_eq_true rfl) (sq_in 7 rfl rfl (by simp) rfl (fun v w h => h)) (fun us w hl h => ld_pd hl h)
  · exact q_call2 (F := (Fq.num b.num).P) (G := (Fq.num (a.den : Int)).P) hp (free_of rfl) trivial (enq_R_Mul) (sq_in 6 rfl rfl (by simp) rfl (fun v w h => h)) (sq_in 8 rfl rfl (by simp) rfl (fun v w h => h)) (fun v v' w h h' => exK (RMulV h h') B4.out (by omega))
  · exact q_call2 (F := (Fq.num (a.num * (b.den : Int))).P) (G := (Fq.num (b.num * (a.den : Int))).P) hp (free_of rfl) trivial (enq_R_Cmp) (sq_in 4 rfl rfl (by simp) rfl (fun v w h => h)) (sq_in 9 rfl rfl (by simp) rfl (fun v w h => h)) (fun v v' w h h' => exRCmpN h h')
  · exact q_assign hp (free_of rfl) trivial (sq_in 10 rfl rfl (by simp) rfl (fun v w h => h))
  intro L vs w5 nb hL hC hn E5
  have e0 : vs 0 = .pointer (some ⟨b1, 0, none⟩) := hC 0 (by simp)
  have e2 : vs 2 = .pointer (some ⟨b2, 2, none⟩) := hC 2 (by simp)
  have e5 : vs 5 = .pointer (some ⟨b2, 0, none⟩) := hC 5 (by simp)
  have e7 : vs 7 = .pointer (some ⟨b1, 2, none⟩) := hC 7 (by simp)
  have e10 : vs 10 = .int .i64 (cmpI (a.num * (b.den : Int)) (b.num * (a.den : Int))) := hC 10 (by simp)
  have e11 : vs 11 = .int .i64 (cmpI (a.num * (b.den : Int)) (b.num * (a.den : Int))) := hC 11 (by simp)
  have E : Fr w [(b2, 4, Fq.pair b.num (b.den : Int)), (b1, 4, Fq.pair a.num (a.den : Int))] w5 := E5
  rw [lay_all hL]
  simp only [putAll, dstOf, List.length_cons, List.length_nil, Nat.zero_add, Nat.reduceAdd, List.getElem?_toArray, List.getElem?_cons_zero, List.getElem?_cons_succ, Option.bind_some, Act.put, List.setIfInBounds_toArray, List.set_cons_succ, List.set_cons_zero]
  rw [e0, e2, e5, e7, e10, e11]
  generalize vs 1 = u5_1
  generalize vs 3 = u5_3
  generalize vs 4 = u5_4
  generalize vs 6 = u5_6
  generalize vs 8 = u5_8
  generalize vs 9 = u5_9
  clear e0 e2 e5 e7 e10 e11 hC hn E5 hL vs L nb
  clear B3 B4 ha hb
  go_wp2
  refine bodyPost_ret (v := .int .i64 (cmpI (a.num * (b.den : Int)) (b.num * (a.den : Int)))) ?_ rfl (by first | exact ⟨_, rfl, E.below, rfl⟩ | exact ⟨_, rfl, E.below⟩ | exact ⟨rfl, E.below⟩)
  simp [results, Tryz.results21, go_sem]

set_option maxRecDepth 100000 in
set_option maxHeartbeats 4000000 in
theorem exSSignQ {w : World} {v : Value} {a : Rat} (h : Pair w v a.num a.den) (ha : Rb a 300) :
    Calls Tryz.prog 23 #[v] w fun e w' => ∃ v', e = .returned v' ∧ Below w.heap.size w w' ∧ v' = .int .i64 (cmpI a.num 0) := by
  replace ha := hidd ha
  obtain ⟨n0, ao0, k0, c0, n0', ao0', k0', c0', rfl, _⟩ := ratV_pair h
  obtain ⟨w1, b1, hw1, hb1, hs1, E⟩ := fr_start w (F := Fq.pair a.num (a.den : Int)) (us := [.bool n0, .slice ao0 k0 c0, .bool n0', .slice ao0' k0' c0']) 31 rfl (by simp) (tame_rat _ _ _ _ _ _ _ _) h
  go_enter Tryz.func23, Tryz.ntmps23
  go_upto_region 1 with (fail)
  rw [← hw1]
  rw [← hb1]
  clear hw1 hb1 hs1
  refine region_fr (C := [Fq.is (.pointer (some ⟨b1, 0, none⟩)), Fq.num a.num, Fq.is (.int .i64 (cmpI a.num 0)), Fq.is (.int .i64 (cmpI a.num 0))]) (ks := [none]) (new := []) E rfl (by kernel_rfl) rfl rfl (fun hp => ⟨?_, ?_, ?_, ?_, trivial⟩) ?_
  · exact q_addr (b := b1) (off := 0) (off' := 0) hp (free_of rfl) trivial (sq_out rfl rfl (fun _ _ => rfl)) (fun ρ w h => by simp [execOp, go_sem, h]) (fun _ => rfl)
  · exact q_loadInt (off := 0) hp (free_of rfl) trivial (List.mem_iff_getElem?.2 ⟨0, rfl⟩) (.inl rfl) (Nat.le_of_ble_eq_true rfl) (sq_in 0 rfl rfl (by simp) rfl (fun v w h => h)) (fun us w hl h => ld_pn hl h)
  · exact q_call1 (F := (Fq.num a.num).P) hp (free_of rfl) trivial (enq_R_Sign) (sq_in 1 rfl rfl (by simp) rfl (fun v w h => h)) (fun v w h => exRSign h)
  · exact q_assign hp (free_of rfl) trivial (sq_in 2 rfl rfl (by simp) rfl (fun v w h => h))
  intro L vs w2 nb hL hC hn E2
  have e0 : vs 0 = .pointer (some ⟨b1, 0, none⟩) := hC 0 (by simp)
  have e2 : vs 2 = .int .i64 (cmpI a.num 0) := hC 2 (by simp)
  have e3 : vs 3 = .int .i64 (cmpI a.num 0) := hC 3 (by simp)
  have E : Fr w [(b1, 4, Fq.pair a.num (a.den : Int))] w2 := E2
  rw [lay_all hL]
  simp only [putAll, dstOf, List.length_cons, List.length_nil, Nat.zero_add, Nat.reduceAdd, List.getElem?_toArray, List.getElem?_cons_zero, List.getElem?_cons_succ, Option.bind_some, Act.put, List.setIfInBounds_toArray, List.set_cons_succ, List.set_cons_zero]
  rw [e0, e2, e3]
  generalize vs 1 = u2_1
  clear e0 e2 e3 hC hn E2 hL vs L nb
  clear ha
  go_wp2
  refine bodyPost_ret (v := .int .i64 (cmpI a.num 0)) ?_ rfl (by first | exact ⟨_, rfl, E.below, rfl⟩ | exact ⟨_, rfl, E.below⟩ | exact ⟨rfl, E.below⟩)
  simp [results, Tryz.results23, go_sem]

set_option maxRecDepth 100000 in
set_option maxHeartbeats 4000000 in
theorem exSFloorQ {w : World} {v : Value} {a : Rat} (h : Pair w v a.num a.den) (ha : Rb a 300) :
    Calls Tryz.prog 26 #[v] w fun e w' => ∃ v', e = .returned v' ∧ Below w.heap.size w w' ∧ Num w' v' a.floor := by
  replace ha := hidd ha
  obtain ⟨n0, ao0, k0, c0, n0', ao0', k0', c0', rfl, _⟩ := ratV_pair h
  obtain ⟨w1, b1, hw1, hb1, hs1, E⟩ := fr_start w (F := Fq.pair a.num (a.den : Int)) (us := [.bool n0, .slice ao0 k0 c0, .bool n0', .slice ao0' k0' c0']) 31 rfl (by simp) (tame_rat _ _ _ _ _ _ _ _) h
  obtain ⟨w2, b2, hw2, hb2, hs2, E⟩ := fr_more E hs1 (F := Fq.num 0) (us := [.bool false, .slice none 0 0]) 29 rfl (by simp) (tame_int _ _ _ _) (Num.zero _)
  go_enter Tryz.func26, Tryz.ntmps26
  go_upto_region 1 with (fail)
  rw [← hw1]
  rw [← hw2]
  rw [← hb2]
  rw [← hb1]
  clear hw1 hw2 hb1 hb2 hs2 hs1
  have B3 : Hid (ab ((a.num / (a.den : Int))) < pw 301) := ab_divB ha.out.1 (by omega)
  refine region_fr (C := [Fq.is (.pointer (some ⟨b1, 0, none⟩)), Fq.num a.num, Fq.is (.pointer (some ⟨b1, 2, none⟩)), Fq.num (a.den : Int), Fq.num (a.num / (a.den : Int)), Fq.any]) (ks := [some (5, Fq.num (a.num / (a.den : Int))), none]) (new := []) E rfl (by kernel_rfl) rfl rfl (fun hp => ⟨?_, ?_, ?_, ?_, ?_, ?_, trivial⟩) ?_
  · exact q_addr (b := b1) (off := 0) (off' := 0) hp (free_of rfl) trivial (sq_out rfl rfl (fun _ _ => rfl)) (fun ρ w h => by simp [execOp, go_sem, h]) (fun _ => rfl)
  · exact q_loadInt (off := 0) hp (free_of rfl) trivial (List.mem_iff_getElem?.2 ⟨1, rfl⟩) (.inl rfl) (Nat.le_of_ble_eq_true rfl) (sq_in 0 rfl rfl (by simp) rfl (fun v w h => h)) (fun us w hl h => ld_pn hl h)
  · exact q_addr (b := b1) (off := 0) (off' := 2) hp (free_of rfl) trivial (sq_out rfl rfl (fun _ _ => rfl)) (fun ρ w h => by simp [execOp, go_sem, h]) (fun _ => rfl)
  · exact q_loadInt (off := 2) hp (free_of rfl) trivial (List.mem_iff_getElem?.2 ⟨1, rfl⟩) (.inl rfl) (Nat.le_of_ble_eq_true rfl) (sq_in 2 rfl rfl (by simp) rfl (fun v w h => h)) (fun us w hl h => ld_pd hl h)
  · exact q_call2 (F := (Fq.num a.num).P) (G := (Fq.num (a.den : Int)).P) hp (free_of rfl) trivial (enq_R_Div) (sq_in 1 rfl rfl (by simp) rfl (fun v w h => h)) (sq_in 3 rfl rfl (by simp) rfl (fun v w h => h)) (fun v v' w h h' => exRDiv h h' (den_ne a) (Int.lt_of_lt_of_le ha.out.1 (pw_le (by omega))) (Int.lt_of_lt_of_le ha.out.2 (pw_le (by omega))))
  · exact q_storeOldInt hp (List.mem_iff_getElem?.2 ⟨0, rfl⟩) rfl rfl (sq_out rfl rfl (fun _ _ => rfl)) (sq_in 4 rfl rfl (by simp) rfl (fun v w h => intV_num h)) (fun _ _ => trivial) (newik_ne rfl)
  intro L vs w4 nb hL hC hn E4
  have e0 : vs 0 = .pointer (some ⟨b1, 0, none⟩) := hC 0 (by simp)
  have e2 : vs 2 = .pointer (some ⟨b1, 2, none⟩) := hC 2 (by simp)
  have E : Fr w [(b2, 2, Fq.num (a.num / (a.den : Int))), (b1, 4, Fq.pair a.num (a.den : Int))] w4 := E4
  rw [lay_all hL]
  simp only [putAll, dstOf, List.length_cons, List.length_nil, Nat.zero_add, Nat.reduceAdd, List.getElem?_toArray, List.getElem?_cons_zero, List.getElem?_cons_succ, Option.bind_some, Act.put, List.setIfInBounds_toArray, List.set_cons_succ, List.set_cons_zero]
  rw [e0, e2]
  generalize vs 1 = u4_1
  generalize vs 3 = u4_3
  generalize vs 4 = u4_4
  clear e0 e2 hC hn E4 hL vs L nb
  clear B3 ha
  obtain ⟨p0, p1, c0, c1, hP⟩ := box_num (E.box 0 rfl)
  go_wp2
  refine bodyPost_ret (v := .agg #[p0, p1]) ?_ rfl ⟨_, rfl, E.below, by rw [Rat.floor_def]; exact hP⟩
  simp [results, Tryz.results26, go_sem, c0, c1]

end Go.Proofs.YtoimphnhmpmipaaGreat

/- Steps of a region over intervals, over slices that are passed on, over arrays of descriptions. -/
namespace Go.Proofs.YtoimphnhmpmipaaGreat
open Go Go.RowKit

/-- Two fractions, one behind the other. -/
def Ivl (w : World) (v : Value) (n1 d1 n2 d2 : Int) : Prop := ∃ p q r s p' q' r' s', v = .agg #[p, q, r, s, p', q', r', s'] ∧ Pair w (.agg #[p, q, r, s]) n1 d1 ∧ Pair w (.agg #[p', q', r', s']) n2 d2
def Fq.ivl (n1 d1 n2 d2 : Int) : Fq := ⟨fun v w => Ivl w v n1 d1 n2 d2, fun ⟨p, q, r, s, p', q', r', s', e, h1, h2⟩ hb => ⟨p, q, r, s, p', q', r', s', e, h1.mono hb, h2.mono hb⟩,
  fun ⟨p, q, r, s, p', q', r', s', e, h1, h2⟩ ha ht hl => ⟨p, q, r, s, p', q', r', s', e, (Fq.pair n1 d1).put h1 ha ht hl, (Fq.pair n2 d2).put h2 ha ht hl⟩⟩
def IvlV (F : Fq) (v : Value) (w : World) : Prop := ∃ n1 a1 k1 c1 n2 a2 k2 c2 n3 a3 k3 c3 n4 a4 k4 c4, v = .agg #[.bool n1, .slice a1 k1 c1, .bool n2, .slice a2 k2 c2, .bool n3, .slice a3 k3 c3, .bool n4, .slice a4 k4 c4] ∧ F.P v w

theorem agg4 {p q r s p' q' r' s' : Value} (h : (Value.agg #[p, q, r, s]) = .agg #[p', q', r', s']) : p = p' ∧ q = q' ∧ r = r' ∧ s = s' := by
  injection h with h
  have := congrArg Array.toList h
  simpa using this

theorem Ivl.parts {w : World} {v : Value} {n1 d1 n2 d2 : Int} (h : Ivl w v n1 d1 n2 d2) : IvlV (Fq.ivl n1 d1 n2 d2) v w := by
  have h0 := h
  obtain ⟨p, q, r, s, p', q', r', s', rfl, h1, h2⟩ := h
  obtain ⟨m1, b1, j1, e1, m2, b2, j2, e2, eq1, _⟩ := ratV_pair h1
  obtain ⟨m3, b3, j3, e3, m4, b4, j4, e4, eq2, _⟩ := ratV_pair h2
  obtain ⟨rfl, rfl, rfl, rfl⟩ := agg4 eq1
  obtain ⟨rfl, rfl, rfl, rfl⟩ := agg4 eq2
  exact ⟨_, _, _, _, _, _, _, _, _, _, _, _, _, _, _, _, rfl, h0⟩

def zeroIvl : List Value := [.bool false, .slice none 0 0, .bool false, .slice none 0 0, .bool false, .slice none 0 0, .bool false, .slice none 0 0]
theorem Ivl.zero (w : World) : Ivl w (.agg zeroIvl.toArray) 0 0 0 0 := ⟨_, _, _, _, _, _, _, _, rfl, Pair.zero w, Pair.zero w⟩
theorem tame_ivl (n1 : Bool) (a1 : Option Addr) (k1 c1 : Nat) (n2 : Bool) (a2 : Option Addr) (k2 c2 : Nat) (n3 : Bool) (a3 : Option Addr) (k3 c3 : Nat) (n4 : Bool) (a4 : Option Addr) (k4 c4 : Nat) : Tame [.bool n1, .slice a1 k1 c1, .bool n2, .slice a2 k2 c2, .bool n3, .slice a3 k3 c3, .bool n4, .slice a4 k4 c4] := by
  intro u hu q e
  simp at hu
  rcases hu with rfl | rfl | rfl | rfl | rfl | rfl | rfl | rfl <;> cases e

section
variable {os : List Oper} {Q : Exit → Act → World → Prop} {a : Act} {p : Pq} {B B0 : Nat} {w0 : World}
variable {i s : Nat} {d : Option Tmp} {ty : TypeId} {ps : String} {af : Array Edge} {gd : Option (Nat × Bool)}

theorem ld_ivl0 {us : List Value} {w : World} {n1 d1 n2 d2 : Int} (hl : us.length = 8) (h : (Fq.ivl n1 d1 n2 d2).P (.agg us.toArray) w) : Pair w (.agg #[us.getD 0 undef, us.getD (0 + 1) undef, us.getD (0 + 2) undef, us.getD (0 + 3) undef]) n1 d1 := by
  match us, hl with
  | [u0, u1, u2, u3, u4, u5, u6, u7], _ =>
    obtain ⟨p, q, r, s, p', q', r', s', e, h1, h2⟩ := h
    injection e with e
    have e2 := congrArg Array.toList e
    simp at e2
    obtain ⟨rfl, rfl, rfl, rfl, rfl, rfl, rfl, rfl⟩ := e2
    exact h1
theorem ld_ivl1 {us : List Value} {w : World} {n1 d1 n2 d2 : Int} (hl : us.length = 8) (h : (Fq.ivl n1 d1 n2 d2).P (.agg us.toArray) w) : Pair w (.agg #[us.getD 4 undef, us.getD (4 + 1) undef, us.getD (4 + 2) undef, us.getD (4 + 3) undef]) n2 d2 := by
  match us, hl with
  | [u0, u1, u2, u3, u4, u5, u6, u7], _ =>
    obtain ⟨p, q, r, s, p', q', r', s', e, h1, h2⟩ := h
    injection e with e
    have e2 := congrArg Array.toList e
    simp at e2
    obtain ⟨rfl, rfl, rfl, rfl, rfl, rfl, rfl, rfl⟩ := e2
    exact h2

/-- An interval is put together. -/
theorem q_buildIvl {x y : Operand} {n1 d1 n2 d2 : Int} (hp : p.Ok B B0) (hF : p.Free i) (hg : GdQ os a p B B0 w0 af gd) (hx : SrcQ os a p B B0 w0 af x fun v w => Pair w v n1 d1) (hy : SrcQ os a p B B0 w0 af y fun v w => Pair w v n2 d2) (hC : ∀ v w, Ivl w v n1 d1 n2 d2 → (p.c i).P v w) :
    StepQ os Q a p B B0 w0 i { dst := d, op := .build 47 #[(0, x), (1, y)], type := ty, pos := ps, after := af, guard := gd } := by
  refine stq_val hp hF hg fun L vs w hG hL hc hd => ?_
  have h1 := hx L vs w hG hd
  have h2 := hy L vs w hG hd
  obtain ⟨m1, b1, j1, g1, m2, b2, j2, g2, e1, _⟩ := ratV_pair h1
  obtain ⟨m3, b3, j3, g3, m4, b4, j4, g4, e2, _⟩ := ratV_pair h2
  refine ⟨.agg #[.bool m1, .slice b1 j1 g1, .bool m2, .slice b2 j2 g2, .bool m3, .slice b3 j3 g3, .bool m4, .slice b4 j4 g4], ?_, hC _ _ ⟨_, _, _, _, _, _, _, _, rfl, by rw [← e1]; exact h1, by rw [← e2]; exact h2⟩⟩
  generalize (lay os.toArray L vs os.toArray.size a).eval = ρ at e1 e2
  simp [execOp, go_sem, e1, e2]
end

end Go.Proofs.YtoimphnhmpmipaaGreat

/- Walks: a fraction copied. -/
namespace Go.Proofs.YtoimphnhmpmipaaGreat
open Go Go.RowKit

end Go.Proofs.YtoimphnhmpmipaaGreat

/- Arrays of descriptions; the least and the greatest of fractions. -/
namespace Go.Proofs.YtoimphnhmpmipaaGreat
open Go Go.RowKit

section
variable {n1 n2 n3 n4 : Bool} {a1 a2 a3 a4 : Option Addr} {k1 c1 k2 c2 k3 c3 k4 c4 : Nat} {xs1 xs2 xs3 xs4 : List Int}
end
section
variable {os : List Oper} {Q : Exit → Act → World → Prop} {a : Act} {p : Pq} {B B0 : Nat} {w0 : World}
variable {i s : Nat} {d : Option Tmp} {ty : TypeId} {ps : String} {af : Array Edge} {gd : Option (Nat × Bool)}
end

end Go.Proofs.YtoimphnhmpmipaaGreat

/- Walks: the least and the greatest of some fractions, in the code and in the reference. -/
namespace Go.Proofs.YtoimphnhmpmipaaGreat
open Go Go.RowKit

end Go.Proofs.YtoimphnhmpmipaaGreat

/- Walks: intervals, in the code and in the reference. -/
namespace Go.Proofs.YtoimphnhmpmipaaGreat
open Go Go.RowKit

theorem Ivl.mono {w w' : World} {v : Value} {n1 d1 n2 d2 : Int} (h : Ivl w v n1 d1 n2 d2) (hb : Below w.heap.size w w') : Ivl w' v n1 d1 n2 d2 := (Fq.ivl n1 d1 n2 d2).mono h hb
theorem cmpQ_leN {a b : Rat} : cmpQ a b ≤ 0 ↔ a ≤ b := by
  constructor
  · intro h
    refine Rat.not_lt.1 fun h2 => ?_
    have := cmpQ_gt.2 h2
    omega
  · intro h
    rcases Int.lt_or_le 0 (cmpQ a b) with h2 | h2
    · exact absurd (cmpQ_gt.1 h2) (Rat.not_lt.2 h)
    · exact h2
set_option maxRecDepth 100000 in
set_option maxHeartbeats 4000000 in
theorem exSHas {w : World} {v v' : Value} {a b q : Rat} (h : Ivl w v a.num a.den b.num b.den) (h' : Pair w v' q.num q.den) (ha : Rb a 300) (hb : Rb b 300) (hq : Rb q 300) :
    Calls Tryz.prog 37 #[v, v'] w fun e w' => ∃ v', e = .returned v' ∧ Below w.heap.size w w' ∧ v' = .bool (decide (a ≤ q) && decide (q ≤ b)) := by
  replace ha := hidd ha
  replace hb := hidd hb
  replace hq := hidd hq
  obtain ⟨n0_0, ao0_0, k0_0, c0_0, n0_1, ao0_1, k0_1, c0_1, n0_2, ao0_2, k0_2, c0_2, n0_3, ao0_3, k0_3, c0_3, rfl, _⟩ := h.parts
  obtain ⟨n1, ao1, k1, c1, n1', ao1', k1', c1', rfl, _⟩ := ratV_pair h'
  obtain ⟨w1, b1, hw1, hb1, hs1, E⟩ := fr_start w (F := Fq.ivl a.num (a.den : Int) b.num (b.den : Int)) (us := [.bool n0_0, .slice ao0_0 k0_0 c0_0, .bool n0_1, .slice ao0_1 k0_1 c0_1, .bool n0_2, .slice ao0_2 k0_2 c0_2, .bool n0_3, .slice ao0_3 k0_3 c0_3]) 47 rfl (by simp) (tame_ivl _ _ _ _ _ _ _ _ _ _ _ _ _ _ _ _) h
  obtain ⟨w2, b2, hw2, hb2, hs2, E⟩ := fr_more E hs1 (F := Fq.pair q.num (q.den : Int)) (us := [.bool n1, .slice ao1 k1 c1, .bool n1', .slice ao1' k1' c1']) 31 rfl (by simp) (tame_rat _ _ _ _ _ _ _ _) (h'.mono E.below)
  go_enter Tryz.func37, Tryz.ntmps37
  go_upto_region 1 with (fail)
  rw [← hw1]
  rw [← hw2]
  rw [← hb2]
  rw [← hb1]
  clear hw1 hw2 hb1 hb2 hs2 hs1
  by_cases h1 : a ≤ q
  · have T1 := hidd (cmpQ_leN.2 h1)
    have e1 := hidd (decide_eq_true h1)
    clear h1
    by_cases h2 : q ≤ b
    · have T2 := hidd (cmpQ_leN.2 h2)
      have e2 := hidd (decide_eq_true h2)
      clear h2
      refine region_fr (C := [Fq.is (.pointer (some ⟨b1, 0, none⟩)), Fq.pair a.num (a.den : Int), Fq.pair q.num (q.den : Int), Fq.is (.int .i64 (cmpQ a q)), Fq.is (.bool true), Fq.is (.bool true), Fq.pair q.num (q.den : Int), Fq.is (.pointer (some ⟨b1, 4, none⟩)), Fq.pair b.num (b.den : Int), Fq.is (.int .i64 (cmpQ q b)), Fq.is (.bool true), Fq.is (.bool true), Fq.is (.bool true)]) (ks := [none, none]) (new := []) E rfl (by kernel_rfl) rfl rfl (fun hp => ⟨?_, ?_, ?_, ?_, ?_, ?_, ?_, ?_, ?_, ?_, ?_, ?_, ?_, trivial⟩) ?_
      · exact q_addr (b := b1) (off := 0) (off' := 0) hp (free_of rfl) trivial (sq_out rfl rfl (fun _ _ => rfl)) (fun ρ w h => by simp [execOp, go_sem, h]) (fun _ => rfl)
      · exact q_loadRatAt (off := 0) hp (free_of rfl) trivial (List.mem_iff_getElem?.2 ⟨1, rfl⟩) (.inl rfl) (Nat.le_of_ble_eq_true rfl) (sq_in 0 rfl rfl (by simp) rfl (fun v w h => h)) (fun us w hl h => ld_ivl0 hl h)
      · exact q_loadRat hp (free_of rfl) trivial (List.mem_iff_getElem?.2 ⟨0, rfl⟩) (.inl rfl) rfl (sq_out rfl rfl (fun _ _ => rfl)) (fun us w hl h => h)
      · exact q_call2 (F := (Fq.pair a.num (a.den : Int)).P) (G := (Fq.pair q.num (q.den : Int)).P) hp (free_of rfl) trivial (enq_S_Cmp) (sq_in 1 rfl rfl (by simp) rfl (fun v w h => h)) (sq_in 2 rfl rfl (by simp) rfl (fun v w h => h)) (fun v v' w h h' => exSCmpQ h h' (rb_le ha.out (by omega)) (rb_le hq.out (by omega)))
      · exact q_one (F := fun v _ => v = .int .i64 (cmpQ a q)) hp (free_of rfl) trivial (sq_in 3 rfl rfl (by simp) rfl (fun v w h => h)) (fun ρ w hc h => ⟨.bool true, by simp [execOp, go_sem, h, hc, T1.out], rfl⟩)
      · exact q_move hp (free_of rfl) trivial (sq_in 4 rfl rfl (by simp) rfl (fun v w h => h))
      · exact q_loadRat hp (free_of rfl) (gq_some rfl rfl (by simp) rfl (fun v w h => h)) (List.mem_iff_getElem?.2 ⟨0, rfl⟩) (.inl rfl) rfl (sq_out rfl rfl (fun _ _ => rfl)) (fun us w hl h => h)
      · exact q_addr (b := b1) (off := 0) (off' := 4) hp (free_of rfl) (gq_some rfl rfl (by simp) rfl (fun v w h => h)) (sq_out rfl rfl (fun _ _ => rfl)) (fun ρ w h => by simp [execOp, go_sem, h]) (fun _ => rfl)
      · exact q_loadRatAt (off := 4) hp (free_of rfl) (gq_some rfl rfl (by simp) rfl (fun v w h => h)) (List.mem_iff_getElem?.2 ⟨1, rfl⟩) (.inl rfl) (Nat.le_of_ble_eq_true rfl) (sq_in 7 rfl rfl (by simp) rfl (fun v w h => h)) (fun us w hl h => ld_ivl1 hl h)
      · exact q_call2 (F := (Fq.pair q.num (q.den : Int)).P) (G := (Fq.pair b.num (b.den : Int)).P) hp (free_of rfl) (gq_some rfl rfl (by simp) rfl (fun v w h => h)) (enq_S_Cmp) (sq_in 6 rfl rfl (by simp) rfl (fun v w h => h)) (sq_in 8 rfl rfl (by simp) rfl (fun v w h => h)) (fun v v' w h h' => exSCmpQ h h' (rb_le hq.out (by omega)) (rb_le hb.out (by omega)))
      · exact q_one (F := fun v _ => v = .int .i64 (cmpQ q b)) hp (free_of rfl) (gq_some rfl rfl (by simp) rfl (fun v w h => h)) (sq_in 9 rfl rfl (by simp) rfl (fun v w h => h)) (fun ρ w hc h => ⟨.bool true, by simp [execOp, go_sem, h, hc, T2.out], rfl⟩)
      · exact q_two (F := fun v _ => v = .bool true) (G := fun v _ => v = .bool true) hp (free_of rfl) trivial (sq_in 5 rfl rfl (by simp) rfl (fun v w h => h)) (sq_in 10 rfl rfl (by simp) rfl (fun v w h => h)) (fun ρ w hc h h' => ⟨_, by simp [execOp, go_sem, h, h'], rfl⟩)
      · exact q_assign hp (free_of rfl) trivial (sq_in 11 rfl rfl (by simp) rfl (fun v w h => h))
      intro L vs w3 nb hL hC hn E3
      have e0 : vs 0 = .pointer (some ⟨b1, 0, none⟩) := hC 0 (by simp)
      have e3 : vs 3 = .int .i64 (cmpQ a q) := hC 3 (by simp)
      have e4 : vs 4 = .bool true := hC 4 (by simp)
      have e5 : vs 5 = .bool true := hC 5 (by simp)
      have e7 : vs 7 = .pointer (some ⟨b1, 4, none⟩) := hC 7 (by simp)
      have e9 : vs 9 = .int .i64 (cmpQ q b) := hC 9 (by simp)
      have e10 : vs 10 = .bool true := hC 10 (by simp)
      have e11 : vs 11 = .bool true := hC 11 (by simp)
      have e12 : vs 12 = .bool true := hC 12 (by simp)
      have E : Fr w [(b2, 4, Fq.pair q.num (q.den : Int)), (b1, 8, Fq.ivl a.num (a.den : Int) b.num (b.den : Int))] w3 := E3
      rw [lay_all hL]
      simp only [putAll, dstOf, List.length_cons, List.length_nil, Nat.zero_add, Nat.reduceAdd, List.getElem?_toArray, List.getElem?_cons_zero, List.getElem?_cons_succ, Option.bind_some, Act.put, List.setIfInBounds_toArray, List.set_cons_succ, List.set_cons_zero]
      rw [e0, e3, e4, e5, e7, e9, e10, e11, e12]
      generalize vs 1 = u3_1
      generalize vs 2 = u3_2
      generalize vs 6 = u3_6
      generalize vs 8 = u3_8
      clear e0 e3 e4 e5 e7 e9 e10 e11 e12 hC hn E3 hL vs L nb
      clear T1 T2
      clear ha hb hq
      go_wp2
      refine bodyPost_ret (v := .bool true) ?_ rfl (by first | exact ⟨_, rfl, E.below, by rw [e1.out, e2.out]; rfl⟩ | exact ⟨_, rfl, E.below⟩ | exact ⟨rfl, E.below⟩)
      simp [results, Tryz.results37, go_sem]
    · have T2 := hidd (mt cmpQ_leN.1 h2)
      have e2 := hidd (decide_eq_false h2)
      clear h2
      refine region_fr (C := [Fq.is (.pointer (some ⟨b1, 0, none⟩)), Fq.pair a.num (a.den : Int), Fq.pair q.num (q.den : Int), Fq.is (.int .i64 (cmpQ a q)), Fq.is (.bool true), Fq.is (.bool true), Fq.pair q.num (q.den : Int), Fq.is (.pointer (some ⟨b1, 4, none⟩)), Fq.pair b.num (b.den : Int), Fq.is (.int .i64 (cmpQ q b)), Fq.is (.bool false), Fq.is (.bool false), Fq.is (.bool false)]) (ks := [none, none]) (new := []) E rfl (by kernel_rfl) rfl rfl (fun hp => ⟨?_, ?_, ?_, ?_, ?_, ?_, ?_, ?_, ?_, ?_, ?_, ?_, ?_, trivial⟩) ?_
      · exact q_addr (b := b1) (off := 0) (off' := 0) hp (free_of rfl) trivial (sq_out rfl rfl (fun _ _ => rfl)) (fun ρ w h => by simp [execOp, go_sem, h]) (fun _ => rfl)
      · exact q_loadRatAt (off := 0) hp (free_of rfl) trivial (List.mem_iff_getElem?.2 ⟨1, rfl⟩) (.inl rfl) (Nat.le_of_ble_eq_true rfl) (sq_in 0 rfl rfl (by simp) rfl (fun v w h => h)) (fun us w hl h => ld_ivl0 hl h)
      · exact q_loadRat hp (free_of rfl) trivial (List.mem_iff_getElem?.2 ⟨0, rfl⟩) (.inl rfl) rfl (sq_out rfl rfl (fun _ _ => rfl)) (fun us w hl h => h)
      · exact q_call2 (F := (Fq.pair a.num (a.den : Int)).P) (G := (Fq.pair q.num (q.den : Int)).P) hp (free_of rfl) trivial (enq_S_Cmp) (sq_in 1 rfl rfl (by simp) rfl (fun v w h => h)) (sq_in 2 rfl rfl (by simp) rfl (fun v w h => h)) (fun v v' w h h' => exSCmpQ h h' (rb_le ha.out (by omega)) (rb_le hq.out (by omega)))
      · exact q_one (F := fun v _ => v = .int .i64 (cmpQ a q)) hp (free_of rfl) trivial (sq_in 3 rfl rfl (by simp) rfl (fun v w h => h)) (fun ρ w hc h => ⟨.bool true, by simp [execOp, go_sem, h, hc, T1.out], rfl⟩)
      · exact q_move hp (free_of rfl) trivial (sq_in 4 rfl rfl (by simp) rfl (fun v w h => h))
      · exact q_loadRat hp (free_of rfl) (gq_some rfl rfl (by simp) rfl (fun v w h => h)) (List.mem_iff_getElem?.2 ⟨0, rfl⟩) (.inl rfl) rfl (sq_out rfl rfl (fun _ _ => rfl)) (fun us w hl h => h)
      · exact q_addr (b := b1) (off := 0) (off' := 4) hp (free_of rfl) (gq_some rfl rfl (by simp) rfl (fun v w h => h)) (sq_out rfl rfl (fun _ _ => rfl)) (fun ρ w h => by simp [execOp, go_sem, h]) (fun _ => rfl)
      · exact q_loadRatAt (off := 4) hp (free_of rfl) (gq_some rfl rfl (by simp) rfl (fun v w h => h)) (List.mem_iff_getElem?.2 ⟨1, rfl⟩) (.inl rfl) (Nat.le_of_ble_eq_true rfl) (sq_in 7 rfl rfl (by simp) rfl (fun v w h => h)) (fun us w hl h => ld_ivl1 hl h)
      · exact q_call2 (F := (Fq.pair q.num (q.den : Int)).P) (G := (Fq.pair b.num (b.den : Int)).P) hp (free_of rfl) (gq_some rfl rfl (by simp) rfl (fun v w h => h)) (enq_S_Cmp) (sq_in 6 rfl rfl (by simp) rfl (fun v w h => h)) (sq_in 8 rfl rfl (by simp) rfl (fun v w h => h)) (fun v v' w h h' => exSCmpQ h h' (rb_le hq.out (by omega)) (rb_le hb.out (by omega)))
      · exact q_one (F := fun v _ => v = .int .i64 (cmpQ q b)) hp (free_of rfl) (gq_some rfl rfl (by simp) rfl (fun v w h => h)) (sq_in 9 rfl rfl (by simp) rfl (fun v w h => h)) (fun ρ w hc h => ⟨.bool false, by simp [execOp, go_sem, h, hc, T2.out], rfl⟩)
      · exact q_two (F := fun v _ => v = .bool true) (G := fun v _ => v = .bool false) hp (free_of rfl) trivial (sq_in 5 rfl rfl (by simp) rfl (fun v w h => h)) (sq_in 10 rfl rfl (by simp) rfl (fun v w h => h)) (fun ρ w hc h h' => ⟨_, by simp [execOp, go_sem, h, h'], rfl⟩)
      · exact q_assign hp (free_of rfl) trivial (sq_in 11 rfl rfl (by simp) rfl (fun v w h => h))
      intro L vs w4 nb hL hC hn E4
      have e0 : vs 0 = .pointer (some ⟨b1, 0, none⟩) := hC 0 (by simp)
      have e3 : vs 3 = .int .i64 (cmpQ a q) := hC 3 (by simp)
      have e4 : vs 4 = .bool true := hC 4 (by simp)
      have e5 : vs 5 = .bool true := hC 5 (by simp)
      have e7 : vs 7 = .pointer (some ⟨b1, 4, none⟩) := hC 7 (by simp)
      have e9 : vs 9 = .int .i64 (cmpQ q b) := hC 9 (by simp)
      have e10 : vs 10 = .bool false := hC 10 (by simp)
      have e11 : vs 11 = .bool false := hC 11 (by simp)
      have e12 : vs 12 = .bool false := hC 12 (by simp)
      have E : Fr w [(b2, 4, Fq.pair q.num (q.den : Int)), (b1, 8, Fq.ivl a.num (a.den : Int) b.num (b.den : Int))] w4 := E4
      rw [lay_all hL]
      simp only [putAll, dstOf, List.length_cons, List.length_nil, Nat.zero_add, Nat.reduceAdd, List.getElem?_toArray, List.getElem?_cons_zero, List.getElem?_cons_succ, Option.bind_some, Act.put, List.setIfInBounds_toArray, List.set_cons_succ, List.set_cons_zero]
      rw [e0, e3, e4, e5, e7, e9, e10, e11, e12]
      generalize vs 1 = u4_1
      generalize vs 2 = u4_2
      generalize vs 6 = u4_6
      generalize vs 8 = u4_8
      clear e0 e3 e4 e5 e7 e9 e10 e11 e12 hC hn E4 hL vs L nb
      clear T1 T2
      clear ha hb hq
      go_wp2
      refine bodyPost_ret (v := .bool false) ?_ rfl (by first | exact ⟨_, rfl, E.below, by rw [e1.out, e2.out]; rfl⟩ | exact ⟨_, rfl, E.below⟩ | exact ⟨rfl, E.below⟩)
      simp [results, Tryz.results37, go_sem]
  · have T1 := hidd (mt cmpQ_leN.1 h1)
    have e1 := hidd (decide_eq_false h1)
    clear h1
    refine region_fr (C := [Fq.is (.pointer (some ⟨b1, 0, none⟩)), Fq.pair a.num (a.den : Int), Fq.pair q.num (q.den : Int), Fq.is (.int .i64 (cmpQ a q)), Fq.is (.bool false), Fq.is (.bool false), Fq.is (undef), Fq.is (undef), Fq.is (undef), Fq.is (undef), Fq.is (undef), Fq.is (.bool false), Fq.is (.bool false)]) (ks := [none, none]) (new := []) E rfl (by kernel_rfl) rfl rfl (fun hp => ⟨?_, ?_, ?_, ?_, ?_, ?_, ?_, ?_, ?_, ?_, ?_, ?_, ?_, trivial⟩) ?_
    · exact q_addr (b := b1) (off := 0) (off' := 0) hp (free_of rfl) trivial (sq_out rfl rfl (fun _ _ => rfl)) (fun ρ w h => by simp [execOp, go_sem, h]) (fun _ => rfl)
    · exact q_loadRatAt (off := 0) hp (free_of rfl) trivial (List.mem_iff_getElem?.2 ⟨1, rfl⟩) (.inl rfl) (Nat.le_of_ble_eq_true rfl) (sq_in 0 rfl rfl (by simp) rfl (fun v w h => h)) (fun us w hl h => ld_ivl0 hl h)
    · exact q_loadRat hp (free_of rfl) trivial (List.mem_iff_getElem?.2 ⟨0, rfl⟩) (.inl rfl) rfl (sq_out rfl rfl (fun _ _ => rfl)) (fun us w hl h => h)
    · exact q_call2 (F := (Fq.pair a.num (a.den : Int)).P) (G := (Fq.pair q.num (q.den : Int)).P) hp (free_of rfl) trivial (enq_S_Cmp) (sq_in 1 rfl rfl (by simp) rfl (fun v w h => h)) (sq_in 2 rfl rfl (by simp) rfl (fun v w h => h)) (fun v v' w h h' => exSCmpQ h h' (rb_le ha.out (by omega)) (rb_le hq.out (by omega)))
    · exact q_one (F := fun v _ => v = .int .i64 (cmpQ a q)) hp (free_of rfl) trivial (sq_in 3 rfl rfl (by simp) rfl (fun v w h => h)) (fun ρ w hc h => ⟨.bool false, by simp [execOp, go_sem, h, hc, T1.out], rfl⟩)
    · exact q_move hp (free_of rfl) trivial (sq_in 4 rfl rfl (by simp) rfl (fun v w h => h))
    · exact q_skip hp (free_of rfl) rfl (gq_some rfl rfl (by simp) rfl (fun v w h => h)) (fun _ => rfl)
    · exact q_skip hp (free_of rfl) rfl (gq_some rfl rfl (by simp) rfl (fun v w h => h)) (fun _ => rfl)
    · exact q_skip hp (free_of rfl) rfl (gq_some rfl rfl (by simp) rfl (fun v w h => h)) (fun _ => rfl)
    · exact q_skip hp (free_of rfl) rfl (gq_some rfl rfl (by simp) rfl (fun v w h => h)) (fun _ => rfl)
    · exact q_skip hp (free_of rfl) rfl (gq_some rfl rfl (by simp) rfl (fun v w h => h)) (fun _ => rfl)
    · exact q_two (F := fun v _ => v = .bool false) (G := fun v _ => v = .bool false) hp (free_of rfl) trivial (sq_in 5 rfl rfl (by simp) rfl (fun v w h => h)) (sq_const (fun _ => rfl)) (fun ρ w hc h h' => ⟨_, by simp [execOp, go_sem, h, h'], rfl⟩)
    · exact q_assign hp (free_of rfl) trivial (sq_in 11 rfl rfl (by simp) rfl (fun v w h => h))
    intro L vs w5 nb hL hC hn E5
    have e0 : vs 0 = .pointer (some ⟨b1, 0, none⟩) := hC 0 (by simp)
    have e3 : vs 3 = .int .i64 (cmpQ a q) := hC 3 (by simp)
    have e4 : vs 4 = .bool false := hC 4 (by simp)
    have e5 : vs 5 = .bool false := hC 5 (by simp)
    have e6 : vs 6 = undef := hC 6 (by simp)
    have e7 : vs 7 = undef := hC 7 (by simp)
    have e8 : vs 8 = undef := hC 8 (by simp)
    have e9 : vs 9 = undef := hC 9 (by simp)
    have e10 : vs 10 = undef := hC 10 (by simp)
    have e11 : vs 11 = .bool false := hC 11 (by simp)
    have e12 : vs 12 = .bool false := hC 12 (by simp)
    have E : Fr w [(b2, 4, Fq.pair q.num (q.den : Int)), (b1, 8, Fq.ivl a.num (a.den : Int) b.num (b.den : Int))] w5 := E5
    rw [lay_all hL]
    simp only [putAll, dstOf, List.length_cons, List.length_nil, Nat.zero_add, Nat.reduceAdd, List.getElem?_toArray, List.getElem?_cons_zero, List.getElem?_cons_succ, Option.bind_some, Act.put, List.setIfInBounds_toArray, List.set_cons_succ, List.set_cons_zero]
    rw [e0, e3, e4, e5, e6, e7, e8, e9, e10, e11, e12]
    generalize vs 1 = u5_1
    generalize vs 2 = u5_2
    clear e0 e3 e4 e5 e6 e7 e8 e9 e10 e11 e12 hC hn E5 hL vs L nb
    clear T1
    clear ha hb hq
    go_wp2
    refine bodyPost_ret (v := .bool false) ?_ rfl (by first | exact ⟨_, rfl, E.below, by rw [e1.out]; rfl⟩ | exact ⟨_, rfl, E.below⟩ | exact ⟨rfl, E.below⟩)
    simp [results, Tryz.results37, go_sem]

theorem exSHasB {w : World} {v v' : Value} {a b q : Rat} {t : Bool} (h : Ivl w v a.num a.den b.num b.den) (h' : Pair w v' q.num q.den) (ha : Rb a 300) (hb : Rb b 300) (hq : Rb q 300) (ht : (decide (a ≤ q) && decide (q ≤ b)) = t) : Calls Tryz.prog 37 #[v, v'] w fun e w' => ∃ v', e = .returned v' ∧ Below w.heap.size w w' ∧ v' = .bool t := by
  have := exSHas h h' ha hb hq
  rw [ht] at this
  exact this

end Go.Proofs.YtoimphnhmpmipaaGreat
