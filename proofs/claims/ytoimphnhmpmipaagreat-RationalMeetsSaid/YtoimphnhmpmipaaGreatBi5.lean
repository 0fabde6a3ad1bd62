/- Yj, Yk, Yr, Va, Vc, Vd, Ve, Vf. -/
import Derived.Test.YtoimphnhmpmipaaGreatBi4
import Derived.Lib.LazyBuf
/- Walks: Between; the examples of the laws on fractions. -/
namespace Go.Proofs.YtoimphnhmpmipaaGreat
open Go Go.RowKit

theorem rb_lit {n d : Int} (h0 : d ≠ 0) (hn : ab n < 4294967296 * 4294967296 * 4294967296) (hd : ab d < 4294967296 * 4294967296 * 4294967296) : Rb (Rat.divInt n d) 3 := rb_divInt h0 (ab_lit hn) (ab_lit hd)
theorem of_lit {n : Int} (h : -9223372036854775808 ≤ n ∧ n ≤ 9223372036854775807) : Hid (ab n < pw 3 ∧ -9223372036854775808 ≤ n ∧ n ≤ 9223372036854775807) := ⟨ab_lit (by unfold ab; omega), h.1, h.2⟩
theorem exSSameT {w : World} {v v' : Value} {n d n' d' : Int} (h : Pair w v n d) (h' : Pair w v' n' d') (hn : n = n') (hd : d = d') : Calls Tryz.prog 13 #[v, v'] w fun e w' => ∃ v', e = .returned v' ∧ Below w.heap.size w w' ∧ v' = .bool true :=
  (exSSame h h').mono fun _ _ ⟨v1, e, hb, hv⟩ => ⟨v1, e, hb, by rw [hv, decide_eq_true ⟨hn, hd⟩]⟩
theorem exSSameQ {w : World} {v v' : Value} {a b : Rat} (h : Pair w v a.num a.den) (h' : Pair w v' b.num b.den) (hq : a = b) : Calls Tryz.prog 13 #[v, v'] w fun e w' => ∃ v', e = .returned v' ∧ Below w.heap.size w w' ∧ v' = .bool true := by
  subst hq
  exact exSSameT h h' rfl rfl

theorem size_one {n : Nat} (h0 : 0 < n) (h : n < 10) : sizeText n = [48 + (n : Int)] := by
  unfold sizeText
  rw [if_neg (by omega), decs_pos h0, show n / 10 = 0 by omega, decs_zero, show n % 10 = n by omega]
  rfl
theorem text_ex : bytesOf (ratText (Rat.divInt (-6) 4)) = { data := #[45, 51, 47, 50] } := by
  have h1 : (Rat.divInt (-6) 4).num = -3 := by decide +kernel
  have h2 : ((Rat.divInt (-6) 4).den : Int) = 2 := by decide +kernel
  unfold ratText
  rw [h1, h2, if_neg (by decide)]
  have e1 : intText (-3) = [45, 51] := by
    unfold intText
    rw [if_pos (by decide), show (-3 : Int).natAbs = 3 from rfl, size_one (by decide) (by decide)]
    rfl
  have e2 : intText 2 = [50] := by
    unfold intText
    rw [if_neg (by decide), show (2 : Int).natAbs = 2 from rfl, size_one (by decide) (by decide)]
    rfl
  rw [e1, e2]
  rfl

set_option maxRecDepth 100000 in
set_option maxHeartbeats 4000000 in
theorem exBetA {w : World} {v v' : Value} {a b : Rat} (h : Pair w v a.num a.den) (h' : Pair w v' b.num b.den) (ha : Rb a 300) (hb : Rb b 300) (hlt : b < a) :
    Calls Tryz.prog 42 #[v, v'] w fun e w' => ∃ v', e = .returned v' ∧ Below w.heap.size w w' ∧ (Fq.tup2 (Fq.pair 0 0) (Fq.is (.int .i64 1))).P v' w' := by
  replace ha := hidd ha
  replace hb := hidd hb
  obtain ⟨n0, ao0, k0, c0, n0', ao0', k0', c0', rfl, _⟩ := ratV_pair h
  obtain ⟨n1, ao1, k1, c1, n1', ao1', k1', c1', rfl, _⟩ := ratV_pair h'
  obtain ⟨w1, b1, hw1, hb1, hs1, E⟩ := fr_start w (F := Fq.pair a.num (a.den : Int)) (us := [.bool n0, .slice ao0 k0 c0, .bool n0', .slice ao0' k0' c0']) 31 rfl (by simp) (tame_rat _ _ _ _ _ _ _ _) h
  obtain ⟨w2, b2, hw2, hb2, hs2, E⟩ := fr_more E hs1 (F := Fq.pair b.num (b.den : Int)) (us := [.bool n1, .slice ao1 k1 c1, .bool n1', .slice ao1' k1' c1']) 31 rfl (by simp) (tame_rat _ _ _ _ _ _ _ _) (h'.mono E.below)
  obtain ⟨w3, b3, hw3, hb3, hs3, E⟩ := fr_more E hs2 (F := Fq.pair 0 0) (us := [.bool false, .slice none 0 0, .bool false, .slice none 0 0]) 31 rfl (by simp) (tame_rat _ _ _ _ _ _ _ _) (Pair.zero _)
  go_enter Tryz.func42, Tryz.ntmps42
  go_upto_region 1 with (fail)
  rw [← hw1]
  rw [← hw2]
  rw [← hw3]
  rw [← hb3]
  rw [← hb2]
  rw [← hb1]
  clear hw1 hw2 hw3 hb1 hb2 hb3 hs3 hs1 hs2
  have T1 : Hid (¬ cmpI (a.den : Int) 0 ≤ 0) := by show ¬ _; have := cmpIqgt.2 (den_pos a); omega
  have T2 : Hid (¬ cmpI (b.den : Int) 0 ≤ 0) := by show ¬ _; have := cmpIqgt.2 (den_pos b); omega
  have T3 : Hid (0 < cmpQ a b) := cmpQ_gt.2 hlt
  refine region_fr (C := [Fq.is (.pointer (some ⟨b1, 2, none⟩)), Fq.num (a.den : Int), Fq.is (.int .i64 (cmpI (a.den : Int) 0)), Fq.is (.bool false), Fq.is (.bool false), Fq.is (.pointer (some ⟨b2, 2, none⟩)), Fq.num (b.den : Int), Fq.is (.int .i64 (cmpI (b.den : Int) 0)), Fq.is (.bool false), Fq.is (.bool false), Fq.is (.bool false), Fq.pair a.num (a.den : Int), Fq.pair b.num (b.den : Int), Fq.is (.int .i64 (cmpQ a b)), Fq.is (.bool true), Fq.is (.bool true)]) (ks := [none, none, none]) (new := []) E rfl (by kernel_rfl) rfl rfl (fun hp => ⟨?_, ?_, ?_, ?_, ?_, ?_, ?_, ?_, ?_, ?_, ?_, ?_, ?_, ?_, ?_, ?_, trivial⟩) ?_
  · exact q_addr (b := b1) (off := 0) (off' := 2) hp (free_of rfl) trivial (sq_out rfl rfl (fun _ _ => rfl)) (fun ρ w h => by simp [execOp, go_sem, h]) (fun _ => rfl)
  · exact q_loadInt (off := 2) hp (free_of rfl) trivial (List.mem_iff_getElem?.2 ⟨2, rfl⟩) (.inl rfl) (Nat.le_of_ble_eq_true rfl) (sq_in 0 rfl rfl (by simp) rfl (fun v w h => h)) (fun us w hl h => ld_pd hl h)
  · exact q_call1 (F := (Fq.num (a.den : Int)).P) hp (free_of rfl) trivial (enq_Sign) (sq_in 1 rfl rfl (by simp) rfl (fun v w h => h)) (fun v w h => exSign h)
  · exact q_one (F := fun v _ => v = .int .i64 (cmpI (a.den : Int) 0)) hp (free_of rfl) trivial (sq_in 2 rfl rfl (by simp) rfl (fun v w h => h)) (fun ρ w hc h => ⟨.bool false, by simp [execOp, go_sem, h, hc, T1.out], rfl⟩)
  · exact q_move hp (free_of rfl) trivial (sq_in 3 rfl rfl (by simp) rfl (fun v w h => h))
  · exact q_addr (b := b2) (off := 0) (off' := 2) hp (free_of rfl) (gq_some rfl rfl (by simp) rfl (fun v w h => h)) (sq_out rfl rfl (fun _ _ => rfl)) (fun ρ w h => by simp [execOp, go_sem, h]) (fun _ => rfl)
  · exact q_loadInt (off := 2) hp (free_of rfl) (gq_some rfl rfl (by simp) rfl (fun v w h => h)) (List.mem_iff_getElem?.2 ⟨1, rfl⟩) (.inl rfl) (Nat.le_of_ble_eq_true rfl) (sq_in 5 rfl rfl (by simp) rfl (fun v w h => h)) (fun us w hl h => ld_pd hl h)
  · exact q_call1 (F := (Fq.num (b.den : Int)).P) hp (free_of rfl) (gq_some rfl rfl (by simp) rfl (fun v w h => h)) (enq_Sign) (sq_in 6 rfl rfl (by simp) rfl (fun v w h => h)) (fun v w h => exSign h)
  · exact q_one (F := fun v _ => v = .int .i64 (cmpI (b.den : Int) 0)) hp (free_of rfl) (gq_some rfl rfl (by simp) rfl (fun v w h => h)) (sq_in 7 rfl rfl (by simp) rfl (fun v w h => h)) (fun ρ w hc h => ⟨.bool false, by simp [execOp, go_sem, h, hc, T2.out], rfl⟩)
  · exact q_two (F := fun v _ => v = .bool false) (G := fun v _ => v = .bool false) hp (free_of rfl) trivial (sq_in 4 rfl rfl (by simp) rfl (fun v w h => h)) (sq_in 8 rfl rfl (by simp) rfl (fun v w h => h)) (fun ρ w hc h h' => ⟨_, by simp [execOp, go_sem, h, h'], rfl⟩)
  · exact q_move hp (free_of rfl) trivial (sq_in 9 rfl rfl (by simp) rfl (fun v w h => h))
  · exact q_loadRat hp (free_of rfl) (gq_some rfl rfl (by simp) rfl (fun v w h => h)) (List.mem_iff_getElem?.2 ⟨2, rfl⟩) (.inl rfl) rfl (sq_out rfl rfl (fun _ _ => rfl)) (fun us w hl h => h)
  · exact q_loadRat hp (free_of rfl) (gq_some rfl rfl (by simp) rfl (fun v w h => h)) (List.mem_iff_getElem?.2 ⟨1, rfl⟩) (.inl rfl) rfl (sq_out rfl rfl (fun _ _ => rfl)) (fun us w hl h => h)
  · exact q_call2 (F := (Fq.pair a.num (a.den : Int)).P) (G := (Fq.pair b.num (b.den : Int)).P) hp (free_of rfl) (gq_some rfl rfl (by simp) rfl (fun v w h => h)) (enq_Q_Cmp) (sq_in 11 rfl rfl (by simp) rfl (fun v w h => h)) (sq_in 12 rfl rfl (by simp) rfl (fun v w h => h)) (fun v v' w h h' => exCmpQ h h' (rb_le ha.out (by omega)) (rb_le hb.out (by omega)))
  · exact q_one (F := fun v _ => v = .int .i64 (cmpQ a b)) hp (free_of rfl) (gq_some rfl rfl (by simp) rfl (fun v w h => h)) (sq_in 13 rfl rfl (by simp) rfl (fun v w h => h)) (fun ρ w hc h => ⟨.bool true, by simp [execOp, go_sem, h, hc, T3.out], rfl⟩)
  · exact q_two (F := fun v _ => v = .bool false) (G := fun v _ => v = .bool true) hp (free_of rfl) trivial (sq_in 10 rfl rfl (by simp) rfl (fun v w h => h)) (sq_in 14 rfl rfl (by simp) rfl (fun v w h => h)) (fun ρ w hc h h' => ⟨_, by simp [execOp, go_sem, h, h'], rfl⟩)
  intro L vs w4 nb hL hC hn E4
  have e0 : vs 0 = .pointer (some ⟨b1, 2, none⟩) := hC 0 (by simp)
  have e2 : vs 2 = .int .i64 (cmpI (a.den : Int) 0) := hC 2 (by simp)
  have e3 : vs 3 = .bool false := hC 3 (by simp)
  have e4 : vs 4 = .bool false := hC 4 (by simp)
  have e5 : vs 5 = .pointer (some ⟨b2, 2, none⟩) := hC 5 (by simp)
  have e7 : vs 7 = .int .i64 (cmpI (b.den : Int) 0) := hC 7 (by simp)
  have e8 : vs 8 = .bool false := hC 8 (by simp)
  have e9 : vs 9 = .bool false := hC 9 (by simp)
  have e10 : vs 10 = .bool false := hC 10 (by simp)
  have e13 : vs 13 = .int .i64 (cmpQ a b) := hC 13 (by simp)
  have e14 : vs 14 = .bool true := hC 14 (by simp)
  have e15 : vs 15 = .bool true := hC 15 (by simp)
  have E : Fr w [(b3, 4, Fq.pair 0 0), (b2, 4, Fq.pair b.num (b.den : Int)), (b1, 4, Fq.pair a.num (a.den : Int))] w4 := E4
  rw [lay_all hL]
  simp only [putAll, dstOf, List.length_cons, List.length_nil, Nat.zero_add, Nat.reduceAdd, List.getElem?_toArray, List.getElem?_cons_zero, List.getElem?_cons_succ, Option.bind_some, Act.put, List.setIfInBounds_toArray, List.set_cons_succ, List.set_cons_zero]
  rw [e0, e2, e3, e4, e5, e7, e8, e9, e10, e13, e14, e15]
  generalize vs 1 = u4_1
  generalize vs 6 = u4_6
  generalize vs 11 = u4_11
  generalize vs 12 = u4_12
  clear e0 e2 e3 e4 e5 e7 e8 e9 e10 e13 e14 e15 hC hn E4 hL vs L nb
  go_upto_region 2 with (fail)
  refine region_fr (C := [Fq.pair 0 0, Fq.any, Fq.is (.int .i64 1)]) (ks := [some (1, Fq.pair 0 0), none, none]) (new := []) E rfl (by kernel_rfl) rfl rfl (fun hp => ⟨?_, ?_, ?_, trivial⟩) ?_
  · exact q_zeroRat hp (free_of rfl) trivial (fun v w h => h)
  · exact q_storeOldRat hp (List.mem_iff_getElem?.2 ⟨0, rfl⟩) rfl rfl (sq_out rfl rfl (fun _ _ => rfl)) (sq_in 0 rfl rfl (by simp) rfl (fun v w h => ratV_pair h)) (fun _ _ => trivial) (newik_ne rfl)
  · exact q_assign hp (free_of rfl) trivial (sq_const (fun _ => rfl))
  intro L vs w5 nb hL hC hn E5
  have e2 : vs 2 = .int .i64 1 := hC 2 (by simp)
  have E : Fr w [(b3, 4, Fq.pair 0 0), (b2, 4, Fq.pair b.num (b.den : Int)), (b1, 4, Fq.pair a.num (a.den : Int))] w5 := E5
  rw [lay_all hL]
  simp only [putAll, dstOf, List.length_cons, List.length_nil, Nat.zero_add, Nat.reduceAdd, List.getElem?_toArray, List.getElem?_cons_zero, List.getElem?_cons_succ, Option.bind_some, Act.put, List.setIfInBounds_toArray, List.set_cons_succ, List.set_cons_zero]
  rw [e2]
  generalize vs 0 = u5_0
  clear e2 hC hn E5 hL vs L nb
  clear T1 T2 T3
  obtain ⟨p0, p1, p2, p3, c0, c1, c2, c3, hP⟩ := box_pair (E.box 0 rfl)
  clear ha hb
  go_wp2
  refine bodyPost_ret (v := .tuple #[.agg #[p0, p1, p2, p3], .int .i64 1]) ?_ rfl ⟨_, rfl, E.below, ⟨_, _, rfl, hP, rfl⟩⟩
  simp [results, Tryz.results42, go_sem, c0, c1, c2, c3]

set_option maxRecDepth 100000 in
set_option maxHeartbeats 4000000 in
theorem exBetP {w : World} {v v' : Value} {a b : Rat} (h : Pair w v a.num a.den) (h' : Pair w v' b.num b.den) (ha : Rb a 300) (hb : Rb b 300) (h0 : 0 < a.num) (hle : a ≤ b) :
    Calls Tryz.prog 42 #[v, v'] w fun e w' => ∃ v', e = .returned v' ∧ Below w.heap.size w w' ∧ (Fq.tup2 (Fq.pair (simF ((a.den : Int) + (b.den : Int)).toNat a.num a.den b.num b.den).1 (simF ((a.den : Int) + (b.den : Int)).toNat a.num a.den b.num b.den).2) (Fq.is (.int .i64 0))).P v' w' := by
  replace ha := hidd ha
  replace hb := hidd hb
  obtain ⟨n0, ao0, k0, c0, n0', ao0', k0', c0', rfl, _⟩ := ratV_pair h
  obtain ⟨n1, ao1, k1, c1, n1', ao1', k1', c1', rfl, _⟩ := ratV_pair h'
  obtain ⟨w1, b1, hw1, hb1, hs1, E⟩ := fr_start w (F := Fq.pair a.num (a.den : Int)) (us := [.bool n0, .slice ao0 k0 c0, .bool n0', .slice ao0' k0' c0']) 31 rfl (by simp) (tame_rat _ _ _ _ _ _ _ _) h
  obtain ⟨w2, b2, hw2, hb2, hs2, E⟩ := fr_more E hs1 (F := Fq.pair b.num (b.den : Int)) (us := [.bool n1, .slice ao1 k1 c1, .bool n1', .slice ao1' k1' c1']) 31 rfl (by simp) (tame_rat _ _ _ _ _ _ _ _) (h'.mono E.below)
  obtain ⟨w3, b3, hw3, hb3, hs3, E⟩ := fr_more E hs2 (F := Fq.pair 0 0) (us := [.bool false, .slice none 0 0, .bool false, .slice none 0 0]) 31 rfl (by simp) (tame_rat _ _ _ _ _ _ _ _) (Pair.zero _)
  go_enter Tryz.func42, Tryz.ntmps42
  go_upto_region 1 with (fail)
  rw [← hw1]
  rw [← hw2]
  rw [← hw3]
  rw [← hb3]
  rw [← hb2]
  rw [← hb1]
  clear hw1 hw2 hw3 hb1 hb2 hb3 hs3 hs1 hs2
  have T1 : Hid (¬ cmpI (a.den : Int) 0 ≤ 0) := by show ¬ _; have := cmpIqgt.2 (den_pos a); omega
  have T2 : Hid (¬ cmpI (b.den : Int) 0 ≤ 0) := by show ¬ _; have := cmpIqgt.2 (den_pos b); omega
  have T3 : Hid (¬ 0 < cmpQ a b) := fun e => Rat.not_lt.2 hle (cmpQ_gt.1 e)
  have T4 : Hid (0 < cmpI a.num 0) := cmpIqgt.2 h0
  have ho : Hid (0 < a.num ∧ a.num * b.den ≤ b.num * a.den) := ⟨h0, (Rat.le_iff _ _).1 hle⟩
  clear h0 hle
  refine region_fr (C := [Fq.is (.pointer (some ⟨b1, 2, none⟩)), Fq.num (a.den : Int), Fq.is (.int .i64 (cmpI (a.den : Int) 0)), Fq.is (.bool false), Fq.is (.bool false), Fq.is (.pointer (some ⟨b2, 2, none⟩)), Fq.num (b.den : Int), Fq.is (.int .i64 (cmpI (b.den : Int) 0)), Fq.is (.bool false), Fq.is (.bool false), Fq.is (.bool false), Fq.pair a.num (a.den : Int), Fq.pair b.num (b.den : Int), Fq.is (.int .i64 (cmpQ a b)), Fq.is (.bool false), Fq.is (.bool false)]) (ks := [none, none, none]) (new := []) E rfl (by kernel_rfl) rfl rfl (fun hp => ⟨?_, ?_, ?_, ?_, ?_, ?_, ?_, ?_, ?_, ?_, ?_, ?_, ?_, ?_, ?_, ?_, trivial⟩) ?_
  · exact q_addr (b := b1) (off := 0) (off' := 2) hp (free_of rfl) trivial (sq_out rfl rfl (fun _ _ => rfl)) (fun ρ w h => by simp [execOp, go_sem, h]) (fun _ => rfl)
  · exact q_loadInt (off := 2) hp (free_of rfl) trivial (List.mem_iff_getElem?.2 ⟨2, rfl⟩) (.inl rfl) (Nat.le_of_ble_eq_true rfl) (sq_in 0 rfl rfl (by simp) rfl (fun v w h => h)) (fun us w hl h => ld_pd hl h)
  · exact q_call1 (F := (Fq.num (a.den : Int)).P) hp (free_of rfl) trivial (enq_Sign) (sq_in 1 rfl rfl (by simp) rfl (fun v w h => h)) (fun v w h => exSign h)
  · exact q_one (F := fun v _ => v = .int .i64 (cmpI (a.den : Int) 0)) hp (free_of rfl) trivial (sq_in 2 rfl rfl (by simp) rfl (fun v w h => h)) (fun ρ w hc h => ⟨.bool false, by simp [execOp, go_sem, h, hc, T1.out], rfl⟩)
  · exact q_move hp (free_of rfl) trivial (sq_in 3 rfl rfl (by simp) rfl (fun v w h => h))
  · exact q_addr (b := b2) (off := 0) (off' := 2) hp (free_of rfl) (gq_some rfl rfl (by simp) rfl (fun v w h => h)) (sq_out rfl rfl (fun _ _ => rfl)) (fun ρ w h => by simp [execOp, go_sem, h]) (fun _ => rfl)
  · exact q_loadInt (off := 2) hp (free_of rfl) (gq_some rfl rfl (by simp) rfl (fun v w h => h)) (List.mem_iff_getElem?.2 ⟨1, rfl⟩) (.inl rfl) (Nat.le_of_ble_eq_true rfl) (sq_in 5 rfl rfl (by simp) rfl (fun v w h => h)) (fun us w hl h => ld_pd hl h)
  · exact q_call1 (F := (Fq.num (b.den : Int)).P) hp (free_of rfl) (gq_some rfl rfl (by simp) rfl (fun v w h => h)) (enq_Sign) (sq_in 6 rfl rfl (by simp) rfl (fun v w h => h)) (fun v w h => exSign h)
  · exact q_one (F := fun v _ => v = .int .i64 (cmpI (b.den : Int) 0)) hp (free_of rfl) (gq_some rfl rfl (by simp) rfl (fun v w h => h)) (sq_in 7 rfl rfl (by simp) rfl (fun v w h => h)) (fun ρ w hc h => ⟨.bool false, by simp [execOp, go_sem, h, hc, T2.out], rfl⟩)
  · exact q_two (F := fun v _ => v = .bool false) (G := fun v _ => v = .bool false) hp (free_of rfl) trivial (sq_in 4 rfl rfl (by simp) rfl (fun v w h => h)) (sq_in 8 rfl rfl (by simp) rfl (fun v w h => h)) (fun ρ w hc h h' => ⟨_, by simp [execOp, go_sem, h, h'], rfl⟩)
  · exact q_move hp (free_of rfl) trivial (sq_in 9 rfl rfl (by simp) rfl (fun v w h => h))
  · exact q_loadRat hp (free_of rfl) (gq_some rfl rfl (by simp) rfl (fun v w h => h)) (List.mem_iff_getElem?.2 ⟨2, rfl⟩) (.inl rfl) rfl (sq_out rfl rfl (fun _ _ => rfl)) (fun us w hl h => h)
  · exact q_loadRat hp (free_of rfl) (gq_some rfl rfl (by simp) rfl (fun v w h => h)) (List.mem_iff_getElem?.2 ⟨1, rfl⟩) (.inl rfl) rfl (sq_out rfl rfl (fun _ _ => rfl)) (fun us w hl h => h)
  · exact q_call2 (F := (Fq.pair a.num (a.den : Int)).P) (G := (Fq.pair b.num (b.den : Int)).P) hp (free_of rfl) (gq_some rfl rfl (by simp) rfl (fun v w h => h)) (enq_Q_Cmp) (sq_in 11 rfl rfl (by simp) rfl (fun v w h => h)) (sq_in 12 rfl rfl (by simp) rfl (fun v w h => h)) (fun v v' w h h' => exCmpQ h h' (rb_le ha.out (by omega)) (rb_le hb.out (by omega)))
  · exact q_one (F := fun v _ => v = .int .i64 (cmpQ a b)) hp (free_of rfl) (gq_some rfl rfl (by simp) rfl (fun v w h => h)) (sq_in 13 rfl rfl (by simp) rfl (fun v w h => h)) (fun ρ w hc h => ⟨.bool false, by simp [execOp, go_sem, h, hc, T3.out], rfl⟩)
  · exact q_two (F := fun v _ => v = .bool false) (G := fun v _ => v = .bool false) hp (free_of rfl) trivial (sq_in 10 rfl rfl (by simp) rfl (fun v w h => h)) (sq_in 14 rfl rfl (by simp) rfl (fun v w h => h)) (fun ρ w hc h h' => ⟨_, by simp [execOp, go_sem, h, h'], rfl⟩)
  intro L vs w4 nb hL hC hn E4
  have e0 : vs 0 = .pointer (some ⟨b1, 2, none⟩) := hC 0 (by simp)
  have e2 : vs 2 = .int .i64 (cmpI (a.den : Int) 0) := hC 2 (by simp)
  have e3 : vs 3 = .bool false := hC 3 (by simp)
  have e4 : vs 4 = .bool false := hC 4 (by simp)
  have e5 : vs 5 = .pointer (some ⟨b2, 2, none⟩) := hC 5 (by simp)
  have e7 : vs 7 = .int .i64 (cmpI (b.den : Int) 0) := hC 7 (by simp)
  have e8 : vs 8 = .bool false := hC 8 (by simp)
  have e9 : vs 9 = .bool false := hC 9 (by simp)
  have e10 : vs 10 = .bool false := hC 10 (by simp)
  have e13 : vs 13 = .int .i64 (cmpQ a b) := hC 13 (by simp)
  have e14 : vs 14 = .bool false := hC 14 (by simp)
  have e15 : vs 15 = .bool false := hC 15 (by simp)
  have E : Fr w [(b3, 4, Fq.pair 0 0), (b2, 4, Fq.pair b.num (b.den : Int)), (b1, 4, Fq.pair a.num (a.den : Int))] w4 := E4
  rw [lay_all hL]
  simp only [putAll, dstOf, List.length_cons, List.length_nil, Nat.zero_add, Nat.reduceAdd, List.getElem?_toArray, List.getElem?_cons_zero, List.getElem?_cons_succ, Option.bind_some, Act.put, List.setIfInBounds_toArray, List.set_cons_succ, List.set_cons_zero]
  rw [e0, e2, e3, e4, e5, e7, e8, e9, e10, e13, e14, e15]
  generalize vs 1 = u4_1
  generalize vs 6 = u4_6
  generalize vs 11 = u4_11
  generalize vs 12 = u4_12
  clear e0 e2 e3 e4 e5 e7 e8 e9 e10 e13 e14 e15 hC hn E4 hL vs L nb
  go_upto_region 3 with (fail)
  refine region_fr (C := [Fq.pair a.num (a.den : Int), Fq.is (.int .i64 (cmpI a.num 0)), Fq.is (.bool true), Fq.is (.bool true)]) (ks := [none, none, none]) (new := []) E rfl (by kernel_rfl) rfl rfl (fun hp => ⟨?_, ?_, ?_, ?_, trivial⟩) ?_
  · exact q_loadRat hp (free_of rfl) trivial (List.mem_iff_getElem?.2 ⟨2, rfl⟩) (.inl rfl) rfl (sq_out rfl rfl (fun _ _ => rfl)) (fun us w hl h => h)
  · exact q_call1 (F := (Fq.pair a.num (a.den : Int)).P) hp (free_of rfl) trivial (enq_Q_Sign) (sq_in 0 rfl rfl (by simp) rfl (fun v w h => h)) (fun v w h => exSignQ h)
  · exact q_one (F := fun v _ => v = .int .i64 (cmpI a.num 0)) hp (free_of rfl) trivial (sq_in 1 rfl rfl (by simp) rfl (fun v w h => h)) (fun ρ w hc h => ⟨.bool true, by simp [execOp, go_sem, h, hc, T4.out], rfl⟩)
  · exact q_assign hp (free_of rfl) trivial (sq_in 2 rfl rfl (by simp) rfl (fun v w h => h))
  intro L vs w5 nb hL hC hn E5
  have e1 : vs 1 = .int .i64 (cmpI a.num 0) := hC 1 (by simp)
  have e2 : vs 2 = .bool true := hC 2 (by simp)
  have e3 : vs 3 = .bool true := hC 3 (by simp)
  have E : Fr w [(b3, 4, Fq.pair 0 0), (b2, 4, Fq.pair b.num (b.den : Int)), (b1, 4, Fq.pair a.num (a.den : Int))] w5 := E5
  rw [lay_all hL]
  simp only [putAll, dstOf, List.length_cons, List.length_nil, Nat.zero_add, Nat.reduceAdd, List.getElem?_toArray, List.getElem?_cons_zero, List.getElem?_cons_succ, Option.bind_some, Act.put, List.setIfInBounds_toArray, List.set_cons_succ, List.set_cons_zero]
  rw [e1, e2, e3]
  generalize vs 0 = u5_0
  clear e1 e2 e3 hC hn E5 hL vs L nb
  clear T1 T2 T3 T4
  go_upto_region 4 with (fail)
  refine region_fr (C := [Fq.pair a.num (a.den : Int), Fq.pair b.num (b.den : Int), Fq.pair ((simF ((a.den : Int) + (b.den : Int)).toNat a.num a.den b.num b.den).1) ((simF ((a.den : Int) + (b.den : Int)).toNat a.num a.den b.num b.den).2), Fq.any, Fq.is (.int .i64 0)]) (ks := [some (3, Fq.pair ((simF ((a.den : Int) + (b.den : Int)).toNat a.num a.den b.num b.den).1) ((simF ((a.den : Int) + (b.den : Int)).toNat a.num a.den b.num b.den).2)), none, none]) (new := []) E rfl (by kernel_rfl) rfl rfl (fun hp => ⟨?_, ?_, ?_, ?_, ?_, trivial⟩) ?_
  · exact q_loadRat hp (free_of rfl) trivial (List.mem_iff_getElem?.2 ⟨2, rfl⟩) (.inl rfl) rfl (sq_out rfl rfl (fun _ _ => rfl)) (fun us w hl h => h)
  · exact q_loadRat hp (free_of rfl) trivial (List.mem_iff_getElem?.2 ⟨1, rfl⟩) (.inl rfl) rfl (sq_out rfl rfl (fun _ _ => rfl)) (fun us w hl h => h)
  · exact q_call2 (F := (Fq.pair a.num (a.den : Int)).P) (G := (Fq.pair b.num (b.den : Int)).P) hp (free_of rfl) trivial (enq_Q_simplest) (sq_in 0 rfl rfl (by simp) rfl (fun v w h => h)) (sq_in 1 rfl rfl (by simp) rfl (fun v w h => h)) (fun v v' w h h' => exSimplest h h' ha.out hb.out ho)
  · exact q_storeOldRat hp (List.mem_iff_getElem?.2 ⟨0, rfl⟩) rfl rfl (sq_out rfl rfl (fun _ _ => rfl)) (sq_in 2 rfl rfl (by simp) rfl (fun v w h => ratV_pair h)) (fun _ _ => trivial) (newik_ne rfl)
  · exact q_assign hp (free_of rfl) trivial (sq_const (fun _ => rfl))
  intro L vs w6 nb hL hC hn E6
  have e4 : vs 4 = .int .i64 0 := hC 4 (by simp)
  have E : Fr w [(b3, 4, Fq.pair ((simF ((a.den : Int) + (b.den : Int)).toNat a.num a.den b.num b.den).1) ((simF ((a.den : Int) + (b.den : Int)).toNat a.num a.den b.num b.den).2)), (b2, 4, Fq.pair b.num (b.den : Int)), (b1, 4, Fq.pair a.num (a.den : Int))] w6 := E6
  rw [lay_all hL]
  simp only [putAll, dstOf, List.length_cons, List.length_nil, Nat.zero_add, Nat.reduceAdd, List.getElem?_toArray, List.getElem?_cons_zero, List.getElem?_cons_succ, Option.bind_some, Act.put, List.setIfInBounds_toArray, List.set_cons_succ, List.set_cons_zero]
  rw [e4]
  generalize vs 0 = u6_0
  generalize vs 1 = u6_1
  generalize vs 2 = u6_2
  clear e4 hC hn E6 hL vs L nb
  clear ho
  obtain ⟨p0, p1, p2, p3, c0, c1, c2, c3, hP⟩ := box_pair (E.box 0 rfl)
  clear ha hb
  go_wp2
  refine bodyPost_ret (v := .tuple #[.agg #[p0, p1, p2, p3], .int .i64 0]) ?_ rfl ⟨_, rfl, E.below, ⟨_, _, rfl, hP, rfl⟩⟩
  simp [results, Tryz.results42, go_sem, c0, c1, c2, c3]

set_option maxRecDepth 100000 in
set_option maxHeartbeats 4000000 in
theorem exExamples (w : World) :
    Calls Tryz.prog 7 #[] w fun e w' => ∃ v', e = .returned v' ∧ Below w.heap.size w w' ∧ v' = .bool true := by
  go_enter Tryz.func7, Tryz.ntmps7
  go_upto_region 1 with (fail)
  have E := Fr.start w
  have B1 : Hid (Rb (Rat.divInt (1) (2)) 3) := rb_lit (by decide) (by decide) (by decide)
  have B2 : Hid (Rb (Rat.divInt (1) (3)) 3) := rb_lit (by decide) (by decide) (by decide)
  refine region_fr (C := [Fq.pair (Rat.divInt (1) (2)).num ((Rat.divInt (1) (2)).den : Int), Fq.pair (Rat.divInt (1) (3)).num ((Rat.divInt (1) (3)).den : Int), Fq.any, Fq.any, Fq.any, Fq.any]) (ks := []) (new := [⟨2, 4, 4, Fq.pair 0 0, Fq.pair (Rat.divInt (1) (2)).num ((Rat.divInt (1) (2)).den : Int), none⟩, ⟨3, 5, 4, Fq.pair 0 0, Fq.pair (Rat.divInt (1) (3)).num ((Rat.divInt (1) (3)).den : Int), none⟩]) E rfl (by kernel_rfl) rfl rfl (fun hp => ⟨?_, ?_, ?_, ?_, ?_, ?_, trivial⟩) ?_
  · exact q_call2 (F := (Fq.is (.int .i64 1)).P) (G := (Fq.is (.int .i64 2)).P) hp (free_of rfl) trivial (enq_S_Of) (sq_const (fun _ => rfl)) (sq_const (fun _ => rfl)) (fun v v' w h h' => (by subst h; subst h'; exact exSOf (n := 1) (d := 2) (by decide) (of_lit (by decide)) (of_lit (by decide))))
  · exact q_call2 (F := (Fq.is (.int .i64 1)).P) (G := (Fq.is (.int .i64 3)).P) hp (free_of rfl) trivial (enq_S_Of) (sq_const (fun _ => rfl)) (sq_const (fun _ => rfl)) (fun v v' w h h' => (by subst h; subst h'; exact exSOf (n := 1) (d := 3) (by decide) (of_lit (by decide)) (of_lit (by decide))))
  · exact q_allocRat hp (List.mem_iff_getElem?.2 ⟨0, rfl⟩) rfl rfl rfl rfl (Nat.ne_of_beq_eq_false rfl) (fun _ _ => trivial) (old_ne rfl) (newk_ne rfl) (fun w => Pair.zero w)
  · exact q_allocRat hp (List.mem_iff_getElem?.2 ⟨1, rfl⟩) rfl rfl rfl rfl (Nat.ne_of_beq_eq_false rfl) (fun _ _ => trivial) (old_ne rfl) (newk_ne rfl) (fun w => Pair.zero w)
  · exact q_storeNewRat hp (List.mem_iff_getElem?.2 ⟨0, rfl⟩) rfl rfl rfl (own_ptr rfl rfl (by simp) rfl) (sq_in 0 rfl rfl (by simp) rfl (fun v w h => ratV_pair h)) (fun _ _ => trivial) (old_ne rfl) (newi_ne rfl)
  · exact q_storeNewRat hp (List.mem_iff_getElem?.2 ⟨1, rfl⟩) rfl rfl rfl (own_ptr rfl rfl (by simp) rfl) (sq_in 1 rfl rfl (by simp) rfl (fun v w h => ratV_pair h)) (fun _ _ => trivial) (old_ne rfl) (newi_ne rfl)
  intro L vs w3 nb hL hC hn E3
  have e2 : vs 2 = .pointer (some ⟨nb 2, 0, none⟩) := hn _ (List.mem_iff_getElem?.2 ⟨0, rfl⟩)
  have e3 : vs 3 = .pointer (some ⟨nb 3, 0, none⟩) := hn _ (List.mem_iff_getElem?.2 ⟨1, rfl⟩)
  have E : Fr w [(nb 2, 4, Fq.pair (Rat.divInt (1) (2)).num ((Rat.divInt (1) (2)).den : Int)), (nb 3, 4, Fq.pair (Rat.divInt (1) (3)).num ((Rat.divInt (1) (3)).den : Int))] w3 := E3
  rw [lay_all hL]
  simp only [putAll, dstOf, List.length_cons, List.length_nil, Nat.zero_add, Nat.reduceAdd, List.getElem?_toArray, List.getElem?_cons_zero, List.getElem?_cons_succ, Option.bind_some, Act.put, List.setIfInBounds_toArray, List.set_cons_succ, List.set_cons_zero]
  rw [e2, e3]
  generalize nb 2 = b3_2 at E ⊢
  generalize nb 3 = b3_3 at E ⊢
  generalize vs 0 = u3_0
  generalize vs 1 = u3_1
  clear e2 e3 hC hn E3 hL vs L nb
  go_upto_region 2 with (fail)
  have B4 : Hid (ab ((-6)) < pw 3) := ab_lit (by decide)
  have B5 : Hid (ab ((4)) < pw 3) := ab_lit (by decide)
  have B6 : Hid (Rb (Rat.divInt (-6) (4)) 3) := rb_divInt (by decide) (Int.lt_of_lt_of_le B4.out (pw_le (by omega))) (Int.lt_of_lt_of_le B5.out (pw_le (by omega)))
  refine region_fr (C := [Fq.num (-6), Fq.num (4), Fq.tup2 (Fq.pair (Rat.divInt (-6) (4)).num ((Rat.divInt (-6) (4)).den : Int)) (Fq.is (.int .i64 0)), Fq.tup2 (Fq.pair (Rat.divInt (-6) (4)).num ((Rat.divInt (-6) (4)).den : Int)) (Fq.is (.int .i64 0)), Fq.pair (Rat.divInt (-6) (4)).num ((Rat.divInt (-6) (4)).den : Int), Fq.is (.int .i64 0), Fq.any, Fq.any, Fq.is (.int .i64 0)]) (ks := [none, none]) (new := [⟨6, 7, 4, Fq.pair 0 0, Fq.pair (Rat.divInt (-6) (4)).num ((Rat.divInt (-6) (4)).den : Int), none⟩]) E rfl (by kernel_rfl) rfl rfl (fun hp => ⟨?_, ?_, ?_, ?_, ?_, ?_, ?_, ?_, ?_, trivial⟩) ?_
  · exact q_call1 (F := (Fq.is (.int .i64 (-6))).P) hp (free_of rfl) trivial (enq_R_Of) (sq_const (fun _ => rfl)) (fun v w h => (by subst h; exact rOfK w (-6) (by omega) (by omega)))
  · exact q_call1 (F := (Fq.is (.int .i64 4)).P) hp (free_of rfl) trivial (enq_R_Of) (sq_const (fun _ => rfl)) (fun v w h => (by subst h; exact rOfK w (4) (by omega) (by omega)))
  · exact q_call2 (F := (Fq.num (-6)).P) (G := (Fq.num (4)).P) hp (free_of rfl) trivial (enq_Q_New) (sq_in 0 rfl rfl (by simp) rfl (fun v w h => h)) (sq_in 1 rfl rfl (by simp) rfl (fun v w h => h)) (fun v v' w h h' => exNewP h h' (by decide) (Int.lt_of_lt_of_le B4.out (pw_le (by omega))) (Int.lt_of_lt_of_le B5.out (pw_le (by omega))))
  · exact q_move hp (free_of rfl) trivial (sq_in 2 rfl rfl (by simp) rfl (fun v w h => h))
  · exact q_extract2 hp (free_of rfl) trivial (sq_in 3 rfl rfl (by simp) rfl (fun v w h => h)) (fun v1 v2 w h1 h2 => ⟨_, rfl, h1⟩)
  · exact q_extract2 hp (free_of rfl) trivial (sq_in 3 rfl rfl (by simp) rfl (fun v w h => h)) (fun v1 v2 w h1 h2 => ⟨_, rfl, h2⟩)
  · exact q_allocRat hp (List.mem_iff_getElem?.2 ⟨0, rfl⟩) rfl rfl rfl rfl (Nat.ne_of_beq_eq_false rfl) (fun _ _ => trivial) (old_ne rfl) (newk_ne rfl) (fun w => Pair.zero w)
  · exact q_storeNewRat hp (List.mem_iff_getElem?.2 ⟨0, rfl⟩) rfl rfl rfl (own_ptr rfl rfl (by simp) rfl) (sq_in 4 rfl rfl (by simp) rfl (fun v w h => ratV_pair h)) (fun _ _ => trivial) (old_ne rfl) (newi_ne rfl)
  · exact q_assign hp (free_of rfl) trivial (sq_in 5 rfl rfl (by simp) rfl (fun v w h => h))
  intro L vs w7 nb hL hC hn E7
  have e5 : vs 5 = .int .i64 0 := hC 5 (by simp)
  have e8 : vs 8 = .int .i64 0 := hC 8 (by simp)
  have e6 : vs 6 = .pointer (some ⟨nb 6, 0, none⟩) := hn _ (List.mem_iff_getElem?.2 ⟨0, rfl⟩)
  have E : Fr w [(nb 6, 4, Fq.pair (Rat.divInt (-6) (4)).num ((Rat.divInt (-6) (4)).den : Int)), (b3_2, 4, Fq.pair (Rat.divInt (1) (2)).num ((Rat.divInt (1) (2)).den : Int)), (b3_3, 4, Fq.pair (Rat.divInt (1) (3)).num ((Rat.divInt (1) (3)).den : Int))] w7 := E7
  rw [lay_all hL]
  simp only [putAll, dstOf, List.length_cons, List.length_nil, Nat.zero_add, Nat.reduceAdd, List.getElem?_toArray, List.getElem?_cons_zero, List.getElem?_cons_succ, Option.bind_some, Act.put, List.setIfInBounds_toArray, List.set_cons_succ, List.set_cons_zero]
  rw [e5, e8, e6]
  generalize nb 6 = b7_6 at E ⊢
  generalize vs 0 = u7_0
  generalize vs 1 = u7_1
  generalize vs 2 = u7_2
  generalize vs 3 = u7_3
  generalize vs 4 = u7_4
  clear e5 e8 e6 hC hn E7 hL vs L nb
  go_upto_region 3 with (fail)
  have B8 : Hid (ab ((1)) < pw 3) := ab_lit (by decide)
  have B9 : Hid (ab ((0)) < pw 3) := ab_lit (by decide)
  refine region_fr (C := [Fq.num (1), Fq.num (0), Fq.tup2 (Fq.pair 0 0) (Fq.is (.int .i64 4)), Fq.tup2 (Fq.pair 0 0) (Fq.is (.int .i64 4)), Fq.pair 0 0, Fq.is (.int .i64 4), Fq.any, Fq.any, Fq.is (.int .i64 4)]) (ks := [none, none, none]) (new := [⟨6, 7, 4, Fq.pair 0 0, Fq.pair 0 0, none⟩]) E rfl (by kernel_rfl) rfl rfl (fun hp => ⟨?_, ?_, ?_, ?_, ?_, ?_, ?_, ?_, ?_, trivial⟩) ?_
  · exact q_call1 (F := (Fq.is (.int .i64 1)).P) hp (free_of rfl) trivial (enq_R_Of) (sq_const (fun _ => rfl)) (fun v w h => (by subst h; exact rOfK w (1) (by omega) (by omega)))
  · exact q_call1 (F := (Fq.is (.int .i64 0)).P) hp (free_of rfl) trivial (enq_R_Of) (sq_const (fun _ => rfl)) (fun v w h => (by subst h; exact rOfK w (0) (by omega) (by omega)))
  · exact q_call2 (F := (Fq.num (1)).P) (G := (Fq.num (0)).P) hp (free_of rfl) trivial (enq_Q_New) (sq_in 0 rfl rfl (by simp) rfl (fun v w h => h)) (sq_in 1 rfl rfl (by simp) rfl (fun v w h => h)) (fun v v' w h h' => exNewZ h h' rfl (Int.lt_of_lt_of_le B8.out (pw_le (by omega))) (Int.lt_of_lt_of_le B9.out (pw_le (by omega))))
  · exact q_move hp (free_of rfl) trivial (sq_in 2 rfl rfl (by simp) rfl (fun v w h => h))
  · exact q_extract2 hp (free_of rfl) trivial (sq_in 3 rfl rfl (by simp) rfl (fun v w h => h)) (fun v1 v2 w h1 h2 => ⟨_, rfl, h1⟩)
  · exact q_extract2 hp (free_of rfl) trivial (sq_in 3 rfl rfl (by simp) rfl (fun v w h => h)) (fun v1 v2 w h1 h2 => ⟨_, rfl, h2⟩)
  · exact q_allocRat hp (List.mem_iff_getElem?.2 ⟨0, rfl⟩) rfl rfl rfl rfl (Nat.ne_of_beq_eq_false rfl) (fun _ _ => trivial) (old_ne rfl) (newk_ne rfl) (fun w => Pair.zero w)
  · exact q_storeNewRat hp (List.mem_iff_getElem?.2 ⟨0, rfl⟩) rfl rfl rfl (own_ptr rfl rfl (by simp) rfl) (sq_in 4 rfl rfl (by simp) rfl (fun v w h => ratV_pair h)) (fun _ _ => trivial) (old_ne rfl) (newi_ne rfl)
  · exact q_assign hp (free_of rfl) trivial (sq_in 5 rfl rfl (by simp) rfl (fun v w h => h))
  intro L vs w10 nb hL hC hn E10
  have e5 : vs 5 = .int .i64 4 := hC 5 (by simp)
  have e8 : vs 8 = .int .i64 4 := hC 8 (by simp)
  have e6 : vs 6 = .pointer (some ⟨nb 6, 0, none⟩) := hn _ (List.mem_iff_getElem?.2 ⟨0, rfl⟩)
  have E : Fr w [(nb 6, 4, Fq.pair 0 0), (b7_6, 4, Fq.pair (Rat.divInt (-6) (4)).num ((Rat.divInt (-6) (4)).den : Int)), (b3_2, 4, Fq.pair (Rat.divInt (1) (2)).num ((Rat.divInt (1) (2)).den : Int)), (b3_3, 4, Fq.pair (Rat.divInt (1) (3)).num ((Rat.divInt (1) (3)).den : Int))] w10 := E10
  rw [lay_all hL]
  simp only [putAll, dstOf, List.length_cons, List.length_nil, Nat.zero_add, Nat.reduceAdd, List.getElem?_toArray, List.getElem?_cons_zero, List.getElem?_cons_succ, Option.bind_some, Act.put, List.setIfInBounds_toArray, List.set_cons_succ, List.set_cons_zero]
  rw [e5, e8, e6]
  generalize nb 6 = b10_6 at E ⊢
  generalize vs 0 = u10_0
  generalize vs 1 = u10_1
  generalize vs 2 = u10_2
  generalize vs 3 = u10_3
  generalize vs 4 = u10_4
  clear e5 e8 e6 hC hn E10 hL vs L nb
  go_upto_region 4 with (fail)
  refine region_fr (C := [Fq.pair (Rat.divInt (-6) (4)).num ((Rat.divInt (-6) (4)).den : Int), Fq.tup2 (Fq.is (.string (bytesOf (ratText (Rat.divInt (-6) (4)))))) (Fq.is (.int .i64 0)), Fq.tup2 (Fq.is (.string (bytesOf (ratText (Rat.divInt (-6) (4)))))) (Fq.is (.int .i64 0)), Fq.is (.string (bytesOf (ratText (Rat.divInt (-6) (4))))), Fq.is (.int .i64 0), Fq.is (.string (bytesOf (ratText (Rat.divInt (-6) (4))))), Fq.is (.int .i64 0)]) (ks := [none, none, none, none]) (new := []) E rfl (by kernel_rfl) rfl rfl (fun hp => ⟨?_, ?_, ?_, ?_, ?_, ?_, ?_, trivial⟩) ?_
  · exact q_loadRat hp (free_of rfl) trivial (List.mem_iff_getElem?.2 ⟨1, rfl⟩) (.inl rfl) rfl (sq_out rfl rfl (fun _ _ => rfl)) (fun us w hl h => h)
  · exact q_call1 (F := (Fq.pair (Rat.divInt (-6) (4)).num ((Rat.divInt (-6) (4)).den : Int)).P) hp (free_of rfl) trivial (enq_Q_Text) (sq_in 0 rfl rfl (by simp) rfl (fun v w h => h)) (fun v w h => exTextQ h (rb_le B6.out (by omega)))
  · exact q_move hp (free_of rfl) trivial (sq_in 1 rfl rfl (by simp) rfl (fun v w h => h))
  · exact q_extract2 hp (free_of rfl) trivial (sq_in 2 rfl rfl (by simp) rfl (fun v w h => h)) (fun v1 v2 w h1 h2 => ⟨_, rfl, h1⟩)
  · exact q_extract2 hp (free_of rfl) trivial (sq_in 2 rfl rfl (by simp) rfl (fun v w h => h)) (fun v1 v2 w h1 h2 => ⟨_, rfl, h2⟩)
  · exact q_assign hp (free_of rfl) trivial (sq_in 3 rfl rfl (by simp) rfl (fun v w h => h))
  · exact q_assign hp (free_of rfl) trivial (sq_in 4 rfl rfl (by simp) rfl (fun v w h => h))
  intro L vs w11 nb hL hC hn E11
  have e3 : vs 3 = .string (bytesOf (ratText (Rat.divInt (-6) (4)))) := hC 3 (by simp)
  have e4 : vs 4 = .int .i64 0 := hC 4 (by simp)
  have e5 : vs 5 = .string (bytesOf (ratText (Rat.divInt (-6) (4)))) := hC 5 (by simp)
  have e6 : vs 6 = .int .i64 0 := hC 6 (by simp)
  have E : Fr w [(b10_6, 4, Fq.pair 0 0), (b7_6, 4, Fq.pair (Rat.divInt (-6) (4)).num ((Rat.divInt (-6) (4)).den : Int)), (b3_2, 4, Fq.pair (Rat.divInt (1) (2)).num ((Rat.divInt (1) (2)).den : Int)), (b3_3, 4, Fq.pair (Rat.divInt (1) (3)).num ((Rat.divInt (1) (3)).den : Int))] w11 := E11
  rw [lay_all hL]
  simp only [putAll, dstOf, List.length_cons, List.length_nil, Nat.zero_add, Nat.reduceAdd, List.getElem?_toArray, List.getElem?_cons_zero, List.getElem?_cons_succ, Option.bind_some, Act.put, List.setIfInBounds_toArray, List.set_cons_succ, List.set_cons_zero]
  rw [e3, e4, e5, e6]
  generalize vs 0 = u11_0
  generalize vs 1 = u11_1
  generalize vs 2 = u11_2
  clear e3 e4 e5 e6 hC hn E11 hL vs L nb
  go_upto_region 5 with (fail)
  have B12 : Hid (Rb (Rat.divInt (2) (5)) 3) := rb_lit (by decide) (by decide) (by decide)
  refine region_fr (C := [Fq.pair (Rat.divInt (1) (3)).num ((Rat.divInt (1) (3)).den : Int), Fq.pair (Rat.divInt (2) (5)).num ((Rat.divInt (2) (5)).den : Int), Fq.tup2 (Fq.pair ((simF (((Rat.divInt (1) (3)).den : Int) + ((Rat.divInt (2) (5)).den : Int)).toNat (Rat.divInt (1) (3)).num ((Rat.divInt (1) (3)).den : Int) (Rat.divInt (2) (5)).num ((Rat.divInt (2) (5)).den : Int)).1) ((simF (((Rat.divInt (1) (3)).den : Int) + ((Rat.divInt (2) (5)).den : Int)).toNat (Rat.divInt (1) (3)).num ((Rat.divInt (1) (3)).den : Int) (Rat.divInt (2) (5)).num ((Rat.divInt (2) (5)).den : Int)).2)) (Fq.is (.int .i64 0)), Fq.tup2 (Fq.pair ((simF (((Rat.divInt (1) (3)).den : Int) + ((Rat.divInt (2) (5)).den : Int)).toNat (Rat.divInt (1) (3)).num ((Rat.divInt (1) (3)).den : Int) (Rat.divInt (2) (5)).num ((Rat.divInt (2) (5)).den : Int)).1) ((simF (((Rat.divInt (1) (3)).den : Int) + ((Rat.divInt (2) (5)).den : Int)).toNat (Rat.divInt (1) (3)).num ((Rat.divInt (1) (3)).den : Int) (Rat.divInt (2) (5)).num ((Rat.divInt (2) (5)).den : Int)).2)) (Fq.is (.int .i64 0)), Fq.pair ((simF (((Rat.divInt (1) (3)).den : Int) + ((Rat.divInt (2) (5)).den : Int)).toNat (Rat.divInt (1) (3)).num ((Rat.divInt (1) (3)).den : Int) (Rat.divInt (2) (5)).num ((Rat.divInt (2) (5)).den : Int)).1) ((simF (((Rat.divInt (1) (3)).den : Int) + ((Rat.divInt (2) (5)).den : Int)).toNat (Rat.divInt (1) (3)).num ((Rat.divInt (1) (3)).den : Int) (Rat.divInt (2) (5)).num ((Rat.divInt (2) (5)).den : Int)).2), Fq.is (.int .i64 0), Fq.any, Fq.any, Fq.is (.int .i64 0)]) (ks := [none, none, none, none]) (new := [⟨6, 7, 4, Fq.pair 0 0, Fq.pair ((simF (((Rat.divInt (1) (3)).den : Int) + ((Rat.divInt (2) (5)).den : Int)).toNat (Rat.divInt (1) (3)).num ((Rat.divInt (1) (3)).den : Int) (Rat.divInt (2) (5)).num ((Rat.divInt (2) (5)).den : Int)).1) ((simF (((Rat.divInt (1) (3)).den : Int) + ((Rat.divInt (2) (5)).den : Int)).toNat (Rat.divInt (1) (3)).num ((Rat.divInt (1) (3)).den : Int) (Rat.divInt (2) (5)).num ((Rat.divInt (2) (5)).den : Int)).2), none⟩]) E rfl (by kernel_rfl) rfl rfl (fun hp => ⟨?_, ?_, ?_, ?_, ?_, ?_, ?_, ?_, ?_, trivial⟩) ?_
  · exact q_loadRat hp (free_of rfl) trivial (List.mem_iff_getElem?.2 ⟨3, rfl⟩) (.inl rfl) rfl (sq_out rfl rfl (fun _ _ => rfl)) (fun us w hl h => h)
  · exact q_call2 (F := (Fq.is (.int .i64 2)).P) (G := (Fq.is (.int .i64 5)).P) hp (free_of rfl) trivial (enq_S_Of) (sq_const (fun _ => rfl)) (sq_const (fun _ => rfl)) (fun v v' w h h' => (by subst h; subst h'; exact exSOf (n := 2) (d := 5) (by decide) (of_lit (by decide)) (of_lit (by decide))))
  · exact q_call2 (F := (Fq.pair (Rat.divInt (1) (3)).num ((Rat.divInt (1) (3)).den : Int)).P) (G := (Fq.pair (Rat.divInt (2) (5)).num ((Rat.divInt (2) (5)).den : Int)).P) hp (free_of rfl) trivial (enq_Q_Between) (sq_in 0 rfl rfl (by simp) rfl (fun v w h => h)) (sq_in 1 rfl rfl (by simp) rfl (fun v w h => h)) (fun v v' w h h' => exBetP h h' (rb_le B2.out (by omega)) (rb_le B12.out (by omega)) (by decide +kernel) (by decide +kernel))
  · exact q_move hp (free_of rfl) trivial (sq_in 2 rfl rfl (by simp) rfl (fun v w h => h))
  · exact q_extract2 hp (free_of rfl) trivial (sq_in 3 rfl rfl (by simp) rfl (fun v w h => h)) (fun v1 v2 w h1 h2 => ⟨_, rfl, h1⟩)
  · exact q_extract2 hp (free_of rfl) trivial (sq_in 3 rfl rfl (by simp) rfl (fun v w h => h)) (fun v1 v2 w h1 h2 => ⟨_, rfl, h2⟩)
  · exact q_allocRat hp (List.mem_iff_getElem?.2 ⟨0, rfl⟩) rfl rfl rfl rfl (Nat.ne_of_beq_eq_false rfl) (fun _ _ => trivial) (old_ne rfl) (newk_ne rfl) (fun w => Pair.zero w)
  · exact q_storeNewRat hp (List.mem_iff_getElem?.2 ⟨0, rfl⟩) rfl rfl rfl (own_ptr rfl rfl (by simp) rfl) (sq_in 4 rfl rfl (by simp) rfl (fun v w h => ratV_pair h)) (fun _ _ => trivial) (old_ne rfl) (newi_ne rfl)
  · exact q_assign hp (free_of rfl) trivial (sq_in 5 rfl rfl (by simp) rfl (fun v w h => h))
  intro L vs w13 nb hL hC hn E13
  have e5 : vs 5 = .int .i64 0 := hC 5 (by simp)
  have e8 : vs 8 = .int .i64 0 := hC 8 (by simp)
  have e6 : vs 6 = .pointer (some ⟨nb 6, 0, none⟩) := hn _ (List.mem_iff_getElem?.2 ⟨0, rfl⟩)
  have E : Fr w [(nb 6, 4, Fq.pair ((simF (((Rat.divInt (1) (3)).den : Int) + ((Rat.divInt (2) (5)).den : Int)).toNat (Rat.divInt (1) (3)).num ((Rat.divInt (1) (3)).den : Int) (Rat.divInt (2) (5)).num ((Rat.divInt (2) (5)).den : Int)).1) ((simF (((Rat.divInt (1) (3)).den : Int) + ((Rat.divInt (2) (5)).den : Int)).toNat (Rat.divInt (1) (3)).num ((Rat.divInt (1) (3)).den : Int) (Rat.divInt (2) (5)).num ((Rat.divInt (2) (5)).den : Int)).2)), (b10_6, 4, Fq.pair 0 0), (b7_6, 4, Fq.pair (Rat.divInt (-6) (4)).num ((Rat.divInt (-6) (4)).den : Int)), (b3_2, 4, Fq.pair (Rat.divInt (1) (2)).num ((Rat.divInt (1) (2)).den : Int)), (b3_3, 4, Fq.pair (Rat.divInt (1) (3)).num ((Rat.divInt (1) (3)).den : Int))] w13 := E13
  rw [lay_all hL]
  simp only [putAll, dstOf, List.length_cons, List.length_nil, Nat.zero_add, Nat.reduceAdd, List.getElem?_toArray, List.getElem?_cons_zero, List.getElem?_cons_succ, Option.bind_some, Act.put, List.setIfInBounds_toArray, List.set_cons_succ, List.set_cons_zero]
  rw [e5, e8, e6]
  generalize nb 6 = b13_6 at E ⊢
  generalize vs 0 = u13_0
  generalize vs 1 = u13_1
  generalize vs 2 = u13_2
  generalize vs 3 = u13_3
  generalize vs 4 = u13_4
  clear e5 e8 e6 hC hn E13 hL vs L nb
  go_upto_region 6 with (fail)
  have B14 : Hid (Rb (Rat.divInt (17) (50)) 3) := rb_lit (by decide) (by decide) (by decide)
  have B15 : Hid (Rb (Rat.divInt (9) (25)) 3) := rb_lit (by decide) (by decide) (by decide)
  refine region_fr (C := [Fq.pair (Rat.divInt (17) (50)).num ((Rat.divInt (17) (50)).den : Int), Fq.pair (Rat.divInt (9) (25)).num ((Rat.divInt (9) (25)).den : Int), Fq.tup2 (Fq.pair ((simF (((Rat.divInt (17) (50)).den : Int) + ((Rat.divInt (9) (25)).den : Int)).toNat (Rat.divInt (17) (50)).num ((Rat.divInt (17) (50)).den : Int) (Rat.divInt (9) (25)).num ((Rat.divInt (9) (25)).den : Int)).1) ((simF (((Rat.divInt (17) (50)).den : Int) + ((Rat.divInt (9) (25)).den : Int)).toNat (Rat.divInt (17) (50)).num ((Rat.divInt (17) (50)).den : Int) (Rat.divInt (9) (25)).num ((Rat.divInt (9) (25)).den : Int)).2)) (Fq.is (.int .i64 0)), Fq.tup2 (Fq.pair ((simF (((Rat.divInt (17) (50)).den : Int) + ((Rat.divInt (9) (25)).den : Int)).toNat (Rat.divInt (17) (50)).num ((Rat.divInt (17) (50)).den : Int) (Rat.divInt (9) (25)).num ((Rat.divInt (9) (25)).den : Int)).1) ((simF (((Rat.divInt (17) (50)).den : Int) + ((Rat.divInt (9) (25)).den : Int)).toNat (Rat.divInt (17) (50)).num ((Rat.divInt (17) (50)).den : Int) (Rat.divInt (9) (25)).num ((Rat.divInt (9) (25)).den : Int)).2)) (Fq.is (.int .i64 0)), Fq.pair ((simF (((Rat.divInt (17) (50)).den : Int) + ((Rat.divInt (9) (25)).den : Int)).toNat (Rat.divInt (17) (50)).num ((Rat.divInt (17) (50)).den : Int) (Rat.divInt (9) (25)).num ((Rat.divInt (9) (25)).den : Int)).1) ((simF (((Rat.divInt (17) (50)).den : Int) + ((Rat.divInt (9) (25)).den : Int)).toNat (Rat.divInt (17) (50)).num ((Rat.divInt (17) (50)).den : Int) (Rat.divInt (9) (25)).num ((Rat.divInt (9) (25)).den : Int)).2), Fq.is (.int .i64 0), Fq.any, Fq.any, Fq.is (.int .i64 0)]) (ks := [none, none, none, none, none]) (new := [⟨6, 7, 4, Fq.pair 0 0, Fq.pair ((simF (((Rat.divInt (17) (50)).den : Int) + ((Rat.divInt (9) (25)).den : Int)).toNat (Rat.divInt (17) (50)).num ((Rat.divInt (17) (50)).den : Int) (Rat.divInt (9) (25)).num ((Rat.divInt (9) (25)).den : Int)).1) ((simF (((Rat.divInt (17) (50)).den : Int) + ((Rat.divInt (9) (25)).den : Int)).toNat (Rat.divInt (17) (50)).num ((Rat.divInt (17) (50)).den : Int) (Rat.divInt (9) (25)).num ((Rat.divInt (9) (25)).den : Int)).2), none⟩]) E rfl (by kernel_rfl) rfl rfl (fun hp => ⟨?_, ?_, ?_, ?_, ?_, ?_, ?_, ?_, ?_, trivial⟩) ?_
  · exact q_call2 (F := (Fq.is (.int .i64 17)).P) (G := (Fq.is (.int .i64 50)).P) hp (free_of rfl) trivial (enq_S_Of) (sq_const (fun _ => rfl)) (sq_const (fun _ => rfl)) (fun v v' w h h' => (by subst h; subst h'; exact exSOf (n := 17) (d := 50) (by decide) (of_lit (by decide)) (of_lit (by decide))))
  · exact q_call2 (F := (Fq.is (.int .i64 9)).P) (G := (Fq.is (.int .i64 25)).P) hp (free_of rfl) trivial (enq_S_Of) (sq_const (fun _ => rfl)) (sq_const (fun _ => rfl)) (fun v v' w h h' => (by subst h; subst h'; exact exSOf (n := 9) (d := 25) (by decide) (of_lit (by decide)) (of_lit (by decide))))
  · exact q_call2 (F := (Fq.pair (Rat.divInt (17) (50)).num ((Rat.divInt (17) (50)).den : Int)).P) (G := (Fq.pair (Rat.divInt (9) (25)).num ((Rat.divInt (9) (25)).den : Int)).P) hp (free_of rfl) trivial (enq_Q_Between) (sq_in 0 rfl rfl (by simp) rfl (fun v w h => h)) (sq_in 1 rfl rfl (by simp) rfl (fun v w h => h)) (fun v v' w h h' => exBetP h h' (rb_le B14.out (by omega)) (rb_le B15.out (by omega)) (by decide +kernel) (by decide +kernel))
  · exact q_move hp (free_of rfl) trivial (sq_in 2 rfl rfl (by simp) rfl (fun v w h => h))
  · exact q_extract2 hp (free_of rfl) trivial (sq_in 3 rfl rfl (by simp) rfl (fun v w h => h)) (fun v1 v2 w h1 h2 => ⟨_, rfl, h1⟩)
  · exact q_extract2 hp (free_of rfl) trivial (sq_in 3 rfl rfl (by simp) rfl (fun v w h => h)) (fun v1 v2 w h1 h2 => ⟨_, rfl, h2⟩)
  · exact q_allocRat hp (List.mem_iff_getElem?.2 ⟨0, rfl⟩) rfl rfl rfl rfl (Nat.ne_of_beq_eq_false rfl) (fun _ _ => trivial) (old_ne rfl) (newk_ne rfl) (fun w => Pair.zero w)
  · exact q_storeNewRat hp (List.mem_iff_getElem?.2 ⟨0, rfl⟩) rfl rfl rfl (own_ptr rfl rfl (by simp) rfl) (sq_in 4 rfl rfl (by simp) rfl (fun v w h => ratV_pair h)) (fun _ _ => trivial) (old_ne rfl) (newi_ne rfl)
  · exact q_assign hp (free_of rfl) trivial (sq_in 5 rfl rfl (by simp) rfl (fun v w h => h))
  intro L vs w16 nb hL hC hn E16
  have e5 : vs 5 = .int .i64 0 := hC 5 (by simp)
  have e8 : vs 8 = .int .i64 0 := hC 8 (by simp)
  have e6 : vs 6 = .pointer (some ⟨nb 6, 0, none⟩) := hn _ (List.mem_iff_getElem?.2 ⟨0, rfl⟩)
  have E : Fr w [(nb 6, 4, Fq.pair ((simF (((Rat.divInt (17) (50)).den : Int) + ((Rat.divInt (9) (25)).den : Int)).toNat (Rat.divInt (17) (50)).num ((Rat.divInt (17) (50)).den : Int) (Rat.divInt (9) (25)).num ((Rat.divInt (9) (25)).den : Int)).1) ((simF (((Rat.divInt (17) (50)).den : Int) + ((Rat.divInt (9) (25)).den : Int)).toNat (Rat.divInt (17) (50)).num ((Rat.divInt (17) (50)).den : Int) (Rat.divInt (9) (25)).num ((Rat.divInt (9) (25)).den : Int)).2)), (b13_6, 4, Fq.pair ((simF (((Rat.divInt (1) (3)).den : Int) + ((Rat.divInt (2) (5)).den : Int)).toNat (Rat.divInt (1) (3)).num ((Rat.divInt (1) (3)).den : Int) (Rat.divInt (2) (5)).num ((Rat.divInt (2) (5)).den : Int)).1) ((simF (((Rat.divInt (1) (3)).den : Int) + ((Rat.divInt (2) (5)).den : Int)).toNat (Rat.divInt (1) (3)).num ((Rat.divInt (1) (3)).den : Int) (Rat.divInt (2) (5)).num ((Rat.divInt (2) (5)).den : Int)).2)), (b10_6, 4, Fq.pair 0 0), (b7_6, 4, Fq.pair (Rat.divInt (-6) (4)).num ((Rat.divInt (-6) (4)).den : Int)), (b3_2, 4, Fq.pair (Rat.divInt (1) (2)).num ((Rat.divInt (1) (2)).den : Int)), (b3_3, 4, Fq.pair (Rat.divInt (1) (3)).num ((Rat.divInt (1) (3)).den : Int))] w16 := E16
  rw [lay_all hL]
  simp only [putAll, dstOf, List.length_cons, List.length_nil, Nat.zero_add, Nat.reduceAdd, List.getElem?_toArray, List.getElem?_cons_zero, List.getElem?_cons_succ, Option.bind_some, Act.put, List.setIfInBounds_toArray, List.set_cons_succ, List.set_cons_zero]
  rw [e5, e8, e6]
  generalize nb 6 = b16_6 at E ⊢
  generalize vs 0 = u16_0
  generalize vs 1 = u16_1
  generalize vs 2 = u16_2
  generalize vs 3 = u16_3
  generalize vs 4 = u16_4
  clear e5 e8 e6 hC hn E16 hL vs L nb
  go_upto_region 7 with (fail)
  refine region_fr (C := [Fq.pair (Rat.divInt (1) (2)).num ((Rat.divInt (1) (2)).den : Int), Fq.pair (Rat.divInt (1) (3)).num ((Rat.divInt (1) (3)).den : Int), Fq.tup2 (Fq.pair 0 0) (Fq.is (.int .i64 1)), Fq.tup2 (Fq.pair 0 0) (Fq.is (.int .i64 1)), Fq.pair 0 0, Fq.is (.int .i64 1), Fq.any, Fq.any, Fq.is (.int .i64 1)]) (ks := [none, none, none, none, none, none]) (new := [⟨6, 7, 4, Fq.pair 0 0, Fq.pair 0 0, none⟩]) E rfl (by kernel_rfl) rfl rfl (fun hp => ⟨?_, ?_, ?_, ?_, ?_, ?_, ?_, ?_, ?_, trivial⟩) ?_
  · exact q_loadRat hp (free_of rfl) trivial (List.mem_iff_getElem?.2 ⟨4, rfl⟩) (.inl rfl) rfl (sq_out rfl rfl (fun _ _ => rfl)) (fun us w hl h => h)
  · exact q_loadRat hp (free_of rfl) trivial (List.mem_iff_getElem?.2 ⟨5, rfl⟩) (.inl rfl) rfl (sq_out rfl rfl (fun _ _ => rfl)) (fun us w hl h => h)
  · exact q_call2 (F := (Fq.pair (Rat.divInt (1) (2)).num ((Rat.divInt (1) (2)).den : Int)).P) (G := (Fq.pair (Rat.divInt (1) (3)).num ((Rat.divInt (1) (3)).den : Int)).P) hp (free_of rfl) trivial (enq_Q_Between) (sq_in 0 rfl rfl (by simp) rfl (fun v w h => h)) (sq_in 1 rfl rfl (by simp) rfl (fun v w h => h)) (fun v v' w h h' => exBetA h h' (rb_le B1.out (by omega)) (rb_le B2.out (by omega)) (by decide +kernel))
  · exact q_move hp (free_of rfl) trivial (sq_in 2 rfl rfl (by simp) rfl (fun v w h => h))
  · exact q_extract2 hp (free_of rfl) trivial (sq_in 3 rfl rfl (by simp) rfl (fun v w h => h)) (fun v1 v2 w h1 h2 => ⟨_, rfl, h1⟩)
  · exact q_extract2 hp (free_of rfl) trivial (sq_in 3 rfl rfl (by simp) rfl (fun v w h => h)) (fun v1 v2 w h1 h2 => ⟨_, rfl, h2⟩)
  · exact q_allocRat hp (List.mem_iff_getElem?.2 ⟨0, rfl⟩) rfl rfl rfl rfl (Nat.ne_of_beq_eq_false rfl) (fun _ _ => trivial) (old_ne rfl) (newk_ne rfl) (fun w => Pair.zero w)
  · exact q_storeNewRat hp (List.mem_iff_getElem?.2 ⟨0, rfl⟩) rfl rfl rfl (own_ptr rfl rfl (by simp) rfl) (sq_in 4 rfl rfl (by simp) rfl (fun v w h => ratV_pair h)) (fun _ _ => trivial) (old_ne rfl) (newi_ne rfl)
  · exact q_assign hp (free_of rfl) trivial (sq_in 5 rfl rfl (by simp) rfl (fun v w h => h))
  intro L vs w17 nb hL hC hn E17
  have e5 : vs 5 = .int .i64 1 := hC 5 (by simp)
  have e8 : vs 8 = .int .i64 1 := hC 8 (by simp)
  have e6 : vs 6 = .pointer (some ⟨nb 6, 0, none⟩) := hn _ (List.mem_iff_getElem?.2 ⟨0, rfl⟩)
  have E : Fr w [(nb 6, 4, Fq.pair 0 0), (b16_6, 4, Fq.pair ((simF (((Rat.divInt (17) (50)).den : Int) + ((Rat.divInt (9) (25)).den : Int)).toNat (Rat.divInt (17) (50)).num ((Rat.divInt (17) (50)).den : Int) (Rat.divInt (9) (25)).num ((Rat.divInt (9) (25)).den : Int)).1) ((simF (((Rat.divInt (17) (50)).den : Int) + ((Rat.divInt (9) (25)).den : Int)).toNat (Rat.divInt (17) (50)).num ((Rat.divInt (17) (50)).den : Int) (Rat.divInt (9) (25)).num ((Rat.divInt (9) (25)).den : Int)).2)), (b13_6, 4, Fq.pair ((simF (((Rat.divInt (1) (3)).den : Int) + ((Rat.divInt (2) (5)).den : Int)).toNat (Rat.divInt (1) (3)).num ((Rat.divInt (1) (3)).den : Int) (Rat.divInt (2) (5)).num ((Rat.divInt (2) (5)).den : Int)).1) ((simF (((Rat.divInt (1) (3)).den : Int) + ((Rat.divInt (2) (5)).den : Int)).toNat (Rat.divInt (1) (3)).num ((Rat.divInt (1) (3)).den : Int) (Rat.divInt (2) (5)).num ((Rat.divInt (2) (5)).den : Int)).2)), (b10_6, 4, Fq.pair 0 0), (b7_6, 4, Fq.pair (Rat.divInt (-6) (4)).num ((Rat.divInt (-6) (4)).den : Int)), (b3_2, 4, Fq.pair (Rat.divInt (1) (2)).num ((Rat.divInt (1) (2)).den : Int)), (b3_3, 4, Fq.pair (Rat.divInt (1) (3)).num ((Rat.divInt (1) (3)).den : Int))] w17 := E17
  rw [lay_all hL]
  simp only [putAll, dstOf, List.length_cons, List.length_nil, Nat.zero_add, Nat.reduceAdd, List.getElem?_toArray, List.getElem?_cons_zero, List.getElem?_cons_succ, Option.bind_some, Act.put, List.setIfInBounds_toArray, List.set_cons_succ, List.set_cons_zero]
  rw [e5, e8, e6]
  generalize nb 6 = b17_6 at E ⊢
  generalize vs 0 = u17_0
  generalize vs 1 = u17_1
  generalize vs 2 = u17_2
  generalize vs 3 = u17_3
  generalize vs 4 = u17_4
  clear e5 e8 e6 hC hn E17 hL vs L nb
  go_upto_region 8 with (fail)
  refine region_fr (C := [Fq.tup2 (Fq.pair 0 0) (Fq.is (.int .i64 3)), Fq.tup2 (Fq.pair 0 0) (Fq.is (.int .i64 3)), Fq.pair 0 0, Fq.is (.int .i64 3), Fq.any, Fq.any, Fq.is (.int .i64 3)]) (ks := [none, none, none, none, none, none, none]) (new := [⟨4, 5, 4, Fq.pair 0 0, Fq.pair 0 0, none⟩]) E rfl (by kernel_rfl) rfl rfl (fun hp => ⟨?_, ?_, ?_, ?_, ?_, ?_, ?_, trivial⟩) ?_
  · exact q_call1 (F := (Fq.is (.string { data := #[50, 47, 52] })).P) hp (free_of rfl) trivial (enq_Q_Parse) (sq_const (fun _ => rfl)) (fun v w h => (by subst h; exact exParse24 w))
  · exact q_move hp (free_of rfl) trivial (sq_in 0 rfl rfl (by simp) rfl (fun v w h => h))
  · exact q_extract2 hp (free_of rfl) trivial (sq_in 1 rfl rfl (by simp) rfl (fun v w h => h)) (fun v1 v2 w h1 h2 => ⟨_, rfl, h1⟩)
  · exact q_extract2 hp (free_of rfl) trivial (sq_in 1 rfl rfl (by simp) rfl (fun v w h => h)) (fun v1 v2 w h1 h2 => ⟨_, rfl, h2⟩)
  · exact q_allocRat hp (List.mem_iff_getElem?.2 ⟨0, rfl⟩) rfl rfl rfl rfl (Nat.ne_of_beq_eq_false rfl) (fun _ _ => trivial) (old_ne rfl) (newk_ne rfl) (fun w => Pair.zero w)
  · exact q_storeNewRat hp (List.mem_iff_getElem?.2 ⟨0, rfl⟩) rfl rfl rfl (own_ptr rfl rfl (by simp) rfl) (sq_in 2 rfl rfl (by simp) rfl (fun v w h => ratV_pair h)) (fun _ _ => trivial) (old_ne rfl) (newi_ne rfl)
  · exact q_assign hp (free_of rfl) trivial (sq_in 3 rfl rfl (by simp) rfl (fun v w h => h))
  intro L vs w18 nb hL hC hn E18
  have e3 : vs 3 = .int .i64 3 := hC 3 (by simp)
  have e6 : vs 6 = .int .i64 3 := hC 6 (by simp)
  have e4 : vs 4 = .pointer (some ⟨nb 4, 0, none⟩) := hn _ (List.mem_iff_getElem?.2 ⟨0, rfl⟩)
  have E : Fr w [(nb 4, 4, Fq.pair 0 0), (b17_6, 4, Fq.pair 0 0), (b16_6, 4, Fq.pair ((simF (((Rat.divInt (17) (50)).den : Int) + ((Rat.divInt (9) (25)).den : Int)).toNat (Rat.divInt (17) (50)).num ((Rat.divInt (17) (50)).den : Int) (Rat.divInt (9) (25)).num ((Rat.divInt (9) (25)).den : Int)).1) ((simF (((Rat.divInt (17) (50)).den : Int) + ((Rat.divInt (9) (25)).den : Int)).toNat (Rat.divInt (17) (50)).num ((Rat.divInt (17) (50)).den : Int) (Rat.divInt (9) (25)).num ((Rat.divInt (9) (25)).den : Int)).2)), (b13_6, 4, Fq.pair ((simF (((Rat.divInt (1) (3)).den : Int) + ((Rat.divInt (2) (5)).den : Int)).toNat (Rat.divInt (1) (3)).num ((Rat.divInt (1) (3)).den : Int) (Rat.divInt (2) (5)).num ((Rat.divInt (2) (5)).den : Int)).1) ((simF (((Rat.divInt (1) (3)).den : Int) + ((Rat.divInt (2) (5)).den : Int)).toNat (Rat.divInt (1) (3)).num ((Rat.divInt (1) (3)).den : Int) (Rat.divInt (2) (5)).num ((Rat.divInt (2) (5)).den : Int)).2)), (b10_6, 4, Fq.pair 0 0), (b7_6, 4, Fq.pair (Rat.divInt (-6) (4)).num ((Rat.divInt (-6) (4)).den : Int)), (b3_2, 4, Fq.pair (Rat.divInt (1) (2)).num ((Rat.divInt (1) (2)).den : Int)), (b3_3, 4, Fq.pair (Rat.divInt (1) (3)).num ((Rat.divInt (1) (3)).den : Int))] w18 := E18
  rw [lay_all hL]
  simp only [putAll, dstOf, List.length_cons, List.length_nil, Nat.zero_add, Nat.reduceAdd, List.getElem?_toArray, List.getElem?_cons_zero, List.getElem?_cons_succ, Option.bind_some, Act.put, List.setIfInBounds_toArray, List.set_cons_succ, List.set_cons_zero]
  rw [e3, e6, e4]
  generalize nb 4 = b18_4 at E ⊢
  generalize vs 0 = u18_0
  generalize vs 1 = u18_1
  generalize vs 2 = u18_2
  clear e3 e6 e4 hC hn E18 hL vs L nb
  have tx : Hid (bytesOf (ratText (Rat.divInt (-6) 4)) = { data := #[45, 51, 47, 50] }) := text_ex
  go_upto_region 9 with (fail)
  refine region_fr (C := [Fq.is (.int .i64 0), Fq.is (.bool false), Fq.is (.bool false), Fq.is (.int .i64 4), Fq.is (.bool false), Fq.is (.bool false), Fq.is (.bool false), Fq.is (.int .i64 0), Fq.is (.bool false), Fq.is (.bool false), Fq.is (.bool false), Fq.is (.int .i64 0), Fq.is (.bool false), Fq.is (.bool false), Fq.is (.bool false), Fq.is (.int .i64 0), Fq.is (.bool false), Fq.is (.bool false), Fq.is (.bool false), Fq.is (.int .i64 1), Fq.is (.bool false), Fq.is (.bool false), Fq.is (.bool false), Fq.is (.int .i64 3), Fq.is (.bool false), Fq.is (.bool false), Fq.is (.bool false), Fq.is (.string (bytesOf (ratText (Rat.divInt (-6) (4))))), Fq.is (.bool false), Fq.is (.bool false)]) (ks := [none, none, none, none, none, none, none, none]) (new := []) E rfl (by kernel_rfl) rfl rfl (fun hp => ⟨?_, ?_, ?_, ?_, ?_, ?_, ?_, ?_, ?_, ?_, ?_, ?_, ?_, ?_, ?_, ?_, ?_, ?_, ?_, ?_, ?_, ?_, ?_, ?_, ?_, ?_, ?_, ?_, ?_, ?_, trivial⟩) ?_
  · exact q_move hp (free_of rfl) trivial (sq_out rfl rfl (fun _ _ => rfl))
  · exact q_one (F := fun v _ => v = .int .i64 0) hp (free_of rfl) trivial (sq_in 0 rfl rfl (by simp) rfl (fun v w h => h)) (fun ρ w hc h => ⟨.bool false, by simp [execOp, go_sem, h, hc], rfl⟩)
  · exact q_move hp (free_of rfl) trivial (sq_in 1 rfl rfl (by simp) rfl (fun v w h => h))
  · exact q_move hp (free_of rfl) (gq_some rfl rfl (by simp) rfl (fun v w h => h)) (sq_out rfl rfl (fun _ _ => rfl))
  · exact q_one (F := fun v _ => v = .int .i64 4) hp (free_of rfl) (gq_some rfl rfl (by simp) rfl (fun v w h => h)) (sq_in 3 rfl rfl (by simp) rfl (fun v w h => h)) (fun ρ w hc h => ⟨.bool false, by simp [execOp, go_sem, h, hc], rfl⟩)
  · exact q_two (F := fun v _ => v = .bool false) (G := fun v _ => v = .bool false) hp (free_of rfl) trivial (sq_in 2 rfl rfl (by simp) rfl (fun v w h => h)) (sq_in 4 rfl rfl (by simp) rfl (fun v w h => h)) (fun ρ w hc h h' => ⟨_, by simp [execOp, go_sem, h, h'], rfl⟩)
  · exact q_move hp (free_of rfl) trivial (sq_in 5 rfl rfl (by simp) rfl (fun v w h => h))
  · exact q_move hp (free_of rfl) (gq_some rfl rfl (by simp) rfl (fun v w h => h)) (sq_out rfl rfl (fun _ _ => rfl))
  · exact q_one (F := fun v _ => v = .int .i64 0) hp (free_of rfl) (gq_some rfl rfl (by simp) rfl (fun v w h => h)) (sq_in 7 rfl rfl (by simp) rfl (fun v w h => h)) (fun ρ w hc h => ⟨.bool false, by simp [execOp, go_sem, h, hc], rfl⟩)
  · exact q_two (F := fun v _ => v = .bool false) (G := fun v _ => v = .bool false) hp (free_of rfl) trivial (sq_in 6 rfl rfl (by simp) rfl (fun v w h => h)) (sq_in 8 rfl rfl (by simp) rfl (fun v w h => h)) (fun ρ w hc h h' => ⟨_, by simp [execOp, go_sem, h, h'], rfl⟩)
  · exact q_move hp (free_of rfl) trivial (sq_in 9 rfl rfl (by simp) rfl (fun v w h => h))
  · exact q_move hp (free_of rfl) (gq_some rfl rfl (by simp) rfl (fun v w h => h)) (sq_out rfl rfl (fun _ _ => rfl))
  · exact q_one (F := fun v _ => v = .int .i64 0) hp (free_of rfl) (gq_some rfl rfl (by simp) rfl (fun v w h => h)) (sq_in 11 rfl rfl (by simp) rfl (fun v w h => h)) (fun ρ w hc h => ⟨.bool false, by simp [execOp, go_sem, h, hc], rfl⟩)
  · exact q_two (F := fun v _ => v = .bool false) (G := fun v _ => v = .bool false) hp (free_of rfl) trivial (sq_in 10 rfl rfl (by simp) rfl (fun v w h => h)) (sq_in 12 rfl rfl (by simp) rfl (fun v w h => h)) (fun ρ w hc h h' => ⟨_, by simp [execOp, go_sem, h, h'], rfl⟩)
  · exact q_move hp (free_of rfl) trivial (sq_in 13 rfl rfl (by simp) rfl (fun v w h => h))
  · exact q_move hp (free_of rfl) (gq_some rfl rfl (by simp) rfl (fun v w h => h)) (sq_out rfl rfl (fun _ _ => rfl))
  · exact q_one (F := fun v _ => v = .int .i64 0) hp (free_of rfl) (gq_some rfl rfl (by simp) rfl (fun v w h => h)) (sq_in 15 rfl rfl (by simp) rfl (fun v w h => h)) (fun ρ w hc h => ⟨.bool false, by simp [execOp, go_sem, h, hc], rfl⟩)
  · exact q_two (F := fun v _ => v = .bool false) (G := fun v _ => v = .bool false) hp (free_of rfl) trivial (sq_in 14 rfl rfl (by simp) rfl (fun v w h => h)) (sq_in 16 rfl rfl (by simp) rfl (fun v w h => h)) (fun ρ w hc h h' => ⟨_, by simp [execOp, go_sem, h, h'], rfl⟩)
  · exact q_move hp (free_of rfl) trivial (sq_in 17 rfl rfl (by simp) rfl (fun v w h => h))
  · exact q_move hp (free_of rfl) (gq_some rfl rfl (by simp) rfl (fun v w h => h)) (sq_out rfl rfl (fun _ _ => rfl))
  · exact q_one (F := fun v _ => v = .int .i64 1) hp (free_of rfl) (gq_some rfl rfl (by simp) rfl (fun v w h => h)) (sq_in 19 rfl rfl (by simp) rfl (fun v w h => h)) (fun ρ w hc h => ⟨.bool false, by simp [execOp, go_sem, h, hc], rfl⟩)
  · exact q_two (F := fun v _ => v = .bool false) (G := fun v _ => v = .bool false) hp (free_of rfl) trivial (sq_in 18 rfl rfl (by simp) rfl (fun v w h => h)) (sq_in 20 rfl rfl (by simp) rfl (fun v w h => h)) (fun ρ w hc h h' => ⟨_, by simp [execOp, go_sem, h, h'], rfl⟩)
  · exact q_move hp (free_of rfl) trivial (sq_in 21 rfl rfl (by simp) rfl (fun v w h => h))
  · exact q_move hp (free_of rfl) (gq_some rfl rfl (by simp) rfl (fun v w h => h)) (sq_out rfl rfl (fun _ _ => rfl))
  · exact q_one (F := fun v _ => v = .int .i64 3) hp (free_of rfl) (gq_some rfl rfl (by simp) rfl (fun v w h => h)) (sq_in 23 rfl rfl (by simp) rfl (fun v w h => h)) (fun ρ w hc h => ⟨.bool false, by simp [execOp, go_sem, h, hc], rfl⟩)
  · exact q_two (F := fun v _ => v = .bool false) (G := fun v _ => v = .bool false) hp (free_of rfl) trivial (sq_in 22 rfl rfl (by simp) rfl (fun v w h => h)) (sq_in 24 rfl rfl (by simp) rfl (fun v w h => h)) (fun ρ w hc h h' => ⟨_, by simp [execOp, go_sem, h, h'], rfl⟩)
  · exact q_move hp (free_of rfl) trivial (sq_in 25 rfl rfl (by simp) rfl (fun v w h => h))
  · exact q_move hp (free_of rfl) (gq_some rfl rfl (by simp) rfl (fun v w h => h)) (sq_out rfl rfl (fun _ _ => rfl))
  · exact q_one (F := fun v _ => v = .string (bytesOf (ratText (Rat.divInt (-6) (4))))) hp (free_of rfl) (gq_some rfl rfl (by simp) rfl (fun v w h => h)) (sq_in 27 rfl rfl (by simp) rfl (fun v w h => h)) (fun ρ w hc h => ⟨.bool false, by simp [execOp, go_sem, h, hc, tx.out], rfl⟩)
  · exact q_two (F := fun v _ => v = .bool false) (G := fun v _ => v = .bool false) hp (free_of rfl) trivial (sq_in 26 rfl rfl (by simp) rfl (fun v w h => h)) (sq_in 28 rfl rfl (by simp) rfl (fun v w h => h)) (fun ρ w hc h h' => ⟨_, by simp [execOp, go_sem, h, h'], rfl⟩)
  intro L vs w19 nb hL hC hn E19
  have e0 : vs 0 = .int .i64 0 := hC 0 (by simp)
  have e1 : vs 1 = .bool false := hC 1 (by simp)
  have e2 : vs 2 = .bool false := hC 2 (by simp)
  have e3 : vs 3 = .int .i64 4 := hC 3 (by simp)
  have e4 : vs 4 = .bool false := hC 4 (by simp)
  have e5 : vs 5 = .bool false := hC 5 (by simp)
  have e6 : vs 6 = .bool false := hC 6 (by simp)
  have e7 : vs 7 = .int .i64 0 := hC 7 (by simp)
  have e8 : vs 8 = .bool false := hC 8 (by simp)
  have e9 : vs 9 = .bool false := hC 9 (by simp)
  have e10 : vs 10 = .bool false := hC 10 (by simp)
  have e11 : vs 11 = .int .i64 0 := hC 11 (by simp)
  have e12 : vs 12 = .bool false := hC 12 (by simp)
  have e13 : vs 13 = .bool false := hC 13 (by simp)
  have e14 : vs 14 = .bool false := hC 14 (by simp)
  have e15 : vs 15 = .int .i64 0 := hC 15 (by simp)
  have e16 : vs 16 = .bool false := hC 16 (by simp)
  have e17 : vs 17 = .bool false := hC 17 (by simp)
  have e18 : vs 18 = .bool false := hC 18 (by simp)
  have e19 : vs 19 = .int .i64 1 := hC 19 (by simp)
  have e20 : vs 20 = .bool false := hC 20 (by simp)
  have e21 : vs 21 = .bool false := hC 21 (by simp)
  have e22 : vs 22 = .bool false := hC 22 (by simp)
  have e23 : vs 23 = .int .i64 3 := hC 23 (by simp)
  have e24 : vs 24 = .bool false := hC 24 (by simp)
  have e25 : vs 25 = .bool false := hC 25 (by simp)
  have e26 : vs 26 = .bool false := hC 26 (by simp)
  have e27 : vs 27 = .string (bytesOf (ratText (Rat.divInt (-6) (4)))) := hC 27 (by simp)
  have e28 : vs 28 = .bool false := hC 28 (by simp)
  have e29 : vs 29 = .bool false := hC 29 (by simp)
  have E : Fr w [(b18_4, 4, Fq.pair 0 0), (b17_6, 4, Fq.pair 0 0), (b16_6, 4, Fq.pair ((simF (((Rat.divInt (17) (50)).den : Int) + ((Rat.divInt (9) (25)).den : Int)).toNat (Rat.divInt (17) (50)).num ((Rat.divInt (17) (50)).den : Int) (Rat.divInt (9) (25)).num ((Rat.divInt (9) (25)).den : Int)).1) ((simF (((Rat.divInt (17) (50)).den : Int) + ((Rat.divInt (9) (25)).den : Int)).toNat (Rat.divInt (17) (50)).num ((Rat.divInt (17) (50)).den : Int) (Rat.divInt (9) (25)).num ((Rat.divInt (9) (25)).den : Int)).2)), (b13_6, 4, Fq.pair ((simF (((Rat.divInt (1) (3)).den : Int) + ((Rat.divInt (2) (5)).den : Int)).toNat (Rat.divInt (1) (3)).num ((Rat.divInt (1) (3)).den : Int) (Rat.divInt (2) (5)).num ((Rat.divInt (2) (5)).den : Int)).1) ((simF (((Rat.divInt (1) (3)).den : Int) + ((Rat.divInt (2) (5)).den : Int)).toNat (Rat.divInt (1) (3)).num ((Rat.divInt (1) (3)).den : Int) (Rat.divInt (2) (5)).num ((Rat.divInt (2) (5)).den : Int)).2)), (b10_6, 4, Fq.pair 0 0), (b7_6, 4, Fq.pair (Rat.divInt (-6) (4)).num ((Rat.divInt (-6) (4)).den : Int)), (b3_2, 4, Fq.pair (Rat.divInt (1) (2)).num ((Rat.divInt (1) (2)).den : Int)), (b3_3, 4, Fq.pair (Rat.divInt (1) (3)).num ((Rat.divInt (1) (3)).den : Int))] w19 := E19
  rw [lay_all hL]
  simp only [putAll, dstOf, List.length_cons, List.length_nil, Nat.zero_add, Nat.reduceAdd, List.getElem?_toArray, List.getElem?_cons_zero, List.getElem?_cons_succ, Option.bind_some, Act.put, List.setIfInBounds_toArray, List.set_cons_succ, List.set_cons_zero]
  rw [e0, e1, e2, e3, e4, e5, e6, e7, e8, e9, e10, e11, e12, e13, e14, e15, e16, e17, e18, e19, e20, e21, e22, e23, e24, e25, e26, e27, e28, e29]
  clear e0 e1 e2 e3 e4 e5 e6 e7 e8 e9 e10 e11 e12 e13 e14 e15 e16 e17 e18 e19 e20 e21 e22 e23 e24 e25 e26 e27 e28 e29 hC hn E19 hL vs L nb
  go_upto_region 11 with (fail)
  have B20 : Hid (Rb (Rat.divInt (-3) (2)) 3) := rb_lit (by decide) (by decide) (by decide)
  have B21 : Hid (Rb ((Rat.divInt (1) (2)) + (Rat.divInt (1) (3))) 7) := rb_le (rb_add B1.out B2.out) (by omega)
  have B22 : Hid (Rb (Rat.divInt (5) (6)) 3) := rb_lit (by decide) (by decide) (by decide)
  have B23 : Hid (Rb (Rat.divInt (5) (14)) 3) := rb_lit (by decide) (by decide) (by decide)
  have B24 : Hid (Rb (Rat.divInt (-1) (2)) 3) := rb_lit (by decide) (by decide) (by decide)
  have B25 : Hid (ab ((Rat.divInt (-1) (2)).floor) < pw 4) := Int.lt_of_lt_of_le (rb_floor B24.out) (pw_le (by omega))
  have B26 : Hid (ab ((-1)) < pw 3) := ab_lit (by decide)
  refine region_fr (C := [Fq.pair (Rat.divInt (-6) (4)).num ((Rat.divInt (-6) (4)).den : Int), Fq.pair (Rat.divInt (-3) (2)).num ((Rat.divInt (-3) (2)).den : Int), Fq.is (.bool true), Fq.is (.bool true), Fq.pair (Rat.divInt (1) (2)).num ((Rat.divInt (1) (2)).den : Int), Fq.pair (Rat.divInt (1) (3)).num ((Rat.divInt (1) (3)).den : Int), Fq.pair ((Rat.divInt (1) (2)) + (Rat.divInt (1) (3))).num (((Rat.divInt (1) (2)) + (Rat.divInt (1) (3))).den : Int), Fq.pair (Rat.divInt (5) (6)).num ((Rat.divInt (5) (6)).den : Int), Fq.is (.bool true), Fq.is (.bool true), Fq.is (.bool true), Fq.pair ((simF (((Rat.divInt (1) (3)).den : Int) + ((Rat.divInt (2) (5)).den : Int)).toNat (Rat.divInt (1) (3)).num ((Rat.divInt (1) (3)).den : Int) (Rat.divInt (2) (5)).num ((Rat.divInt (2) (5)).den : Int)).1) ((simF (((Rat.divInt (1) (3)).den : Int) + ((Rat.divInt (2) (5)).den : Int)).toNat (Rat.divInt (1) (3)).num ((Rat.divInt (1) (3)).den : Int) (Rat.divInt (2) (5)).num ((Rat.divInt (2) (5)).den : Int)).2), Fq.pair (Rat.divInt (1) (3)).num ((Rat.divInt (1) (3)).den : Int), Fq.is (.bool true), Fq.is (.bool true), Fq.is (.bool true), Fq.pair ((simF (((Rat.divInt (17) (50)).den : Int) + ((Rat.divInt (9) (25)).den : Int)).toNat (Rat.divInt (17) (50)).num ((Rat.divInt (17) (50)).den : Int) (Rat.divInt (9) (25)).num ((Rat.divInt (9) (25)).den : Int)).1) ((simF (((Rat.divInt (17) (50)).den : Int) + ((Rat.divInt (9) (25)).den : Int)).toNat (Rat.divInt (17) (50)).num ((Rat.divInt (17) (50)).den : Int) (Rat.divInt (9) (25)).num ((Rat.divInt (9) (25)).den : Int)).2), Fq.pair (Rat.divInt (5) (14)).num ((Rat.divInt (5) (14)).den : Int), Fq.is (.bool true), Fq.is (.bool true), Fq.is (.bool true), Fq.pair (Rat.divInt (-1) (2)).num ((Rat.divInt (-1) (2)).den : Int), Fq.num ((Rat.divInt (-1) (2)).floor), Fq.num (-1), Fq.is (.bool true), Fq.is (.bool true), Fq.is (.bool true), Fq.pair (Rat.divInt (1) (2)).num ((Rat.divInt (1) (2)).den : Int), Fq.is (.bool true), Fq.is (.bool true), Fq.is (.bool true), Fq.pair 0 0, Fq.is (.bool false), Fq.is (.bool true), Fq.is (.bool true), Fq.is (.bool true)]) (ks := [none, none, none, none, none, none, none, none]) (new := []) E rfl (by kernel_rfl) rfl rfl (fun hp => ⟨?_, ?_, ?_, ?_, ?_, ?_, ?_, ?_, ?_, ?_, ?_, ?_, ?_, ?_, ?_, ?_, ?_, ?_, ?_, ?_, ?_, ?_, ?_, ?_, ?_, ?_, ?_, ?_, ?_, ?_, ?_, ?_, ?_, ?_, ?_, ?_, trivial⟩) ?_
  · exact q_loadRat hp (free_of rfl) trivial (List.mem_iff_getElem?.2 ⟨5, rfl⟩) (.inl rfl) rfl (sq_out rfl rfl (fun _ _ => rfl)) (fun us w hl h => h)
  · exact q_call2 (F := (Fq.is (.int .i64 (-3))).P) (G := (Fq.is (.int .i64 2)).P) hp (free_of rfl) trivial (enq_S_Of) (sq_const (fun _ => rfl)) (sq_const (fun _ => rfl)) (fun v v' w h h' => (by subst h; subst h'; exact exSOf (n := -3) (d := 2) (by decide) (of_lit (by decide)) (of_lit (by decide))))
  · exact q_call2 (F := (Fq.pair (Rat.divInt (-6) (4)).num ((Rat.divInt (-6) (4)).den : Int)).P) (G := (Fq.pair (Rat.divInt (-3) (2)).num ((Rat.divInt (-3) (2)).den : Int)).P) hp (free_of rfl) trivial (enq_S_Same) (sq_in 0 rfl rfl (by simp) rfl (fun v w h => h)) (sq_in 1 rfl rfl (by simp) rfl (fun v w h => h)) (fun v v' w h h' => exSSameQ h h' (by decide +kernel))
  · exact q_move hp (free_of rfl) trivial (sq_in 2 rfl rfl (by simp) rfl (fun v w h => h))
  · exact q_loadRat hp (free_of rfl) (gq_some rfl rfl (by simp) rfl (fun v w h => h)) (List.mem_iff_getElem?.2 ⟨6, rfl⟩) (.inl rfl) rfl (sq_out rfl rfl (fun _ _ => rfl)) (fun us w hl h => h)
  · exact q_loadRat hp (free_of rfl) (gq_some rfl rfl (by simp) rfl (fun v w h => h)) (List.mem_iff_getElem?.2 ⟨7, rfl⟩) (.inl rfl) rfl (sq_out rfl rfl (fun _ _ => rfl)) (fun us w hl h => h)
  · exact q_call2 (F := (Fq.pair (Rat.divInt (1) (2)).num ((Rat.divInt (1) (2)).den : Int)).P) (G := (Fq.pair (Rat.divInt (1) (3)).num ((Rat.divInt (1) (3)).den : Int)).P) hp (free_of rfl) (gq_some rfl rfl (by simp) rfl (fun v w h => h)) (enq_Q_Add) (sq_in 4 rfl rfl (by simp) rfl (fun v w h => h)) (sq_in 5 rfl rfl (by simp) rfl (fun v w h => h)) (fun v v' w h h' => exAddQ h h' (rb_le B1.out (by omega)) (rb_le B2.out (by omega)))
  · exact q_call2 (F := (Fq.is (.int .i64 5)).P) (G := (Fq.is (.int .i64 6)).P) hp (free_of rfl) (gq_some rfl rfl (by simp) rfl (fun v w h => h)) (enq_S_Of) (sq_const (fun _ => rfl)) (sq_const (fun _ => rfl)) (fun v v' w h h' => (by subst h; subst h'; exact exSOf (n := 5) (d := 6) (by decide) (of_lit (by decide)) (of_lit (by decide))))
  · exact q_call2 (F := (Fq.pair ((Rat.divInt (1) (2)) + (Rat.divInt (1) (3))).num (((Rat.divInt (1) (2)) + (Rat.divInt (1) (3))).den : Int)).P) (G := (Fq.pair (Rat.divInt (5) (6)).num ((Rat.divInt (5) (6)).den : Int)).P) hp (free_of rfl) (gq_some rfl rfl (by simp) rfl (fun v w h => h)) (enq_S_Same) (sq_in 6 rfl rfl (by simp) rfl (fun v w h => h)) (sq_in 7 rfl rfl (by simp) rfl (fun v w h => h)) (fun v v' w h h' => exSSameQ h h' (by decide +kernel))
  · exact q_two (F := fun v _ => v = .bool true) (G := fun v _ => v = .bool true) hp (free_of rfl) trivial (sq_in 3 rfl rfl (by simp) rfl (fun v w h => h)) (sq_in 8 rfl rfl (by simp) rfl (fun v w h => h)) (fun ρ w hc h h' => ⟨_, by simp [execOp, go_sem, h, h'], rfl⟩)
  · exact q_move hp (free_of rfl) trivial (sq_in 9 rfl rfl (by simp) rfl (fun v w h => h))
  · exact q_loadRat hp (free_of rfl) (gq_some rfl rfl (by simp) rfl (fun v w h => h)) (List.mem_iff_getElem?.2 ⟨3, rfl⟩) (.inl rfl) rfl (sq_out rfl rfl (fun _ _ => rfl)) (fun us w hl h => h)
  · exact q_loadRat hp (free_of rfl) (gq_some rfl rfl (by simp) rfl (fun v w h => h)) (List.mem_iff_getElem?.2 ⟨7, rfl⟩) (.inl rfl) rfl (sq_out rfl rfl (fun _ _ => rfl)) (fun us w hl h => h)
  · exact q_call2 (F := (Fq.pair ((simF (((Rat.divInt (1) (3)).den : Int) + ((Rat.divInt (2) (5)).den : Int)).toNat (Rat.divInt (1) (3)).num ((Rat.divInt (1) (3)).den : Int) (Rat.divInt (2) (5)).num ((Rat.divInt (2) (5)).den : Int)).1) ((simF (((Rat.divInt (1) (3)).den : Int) + ((Rat.divInt (2) (5)).den : Int)).toNat (Rat.divInt (1) (3)).num ((Rat.divInt (1) (3)).den : Int) (Rat.divInt (2) (5)).num ((Rat.divInt (2) (5)).den : Int)).2)).P) (G := (Fq.pair (Rat.divInt (1) (3)).num ((Rat.divInt (1) (3)).den : Int)).P) hp (free_of rfl) (gq_some rfl rfl (by simp) rfl (fun v w h => h)) (enq_S_Same) (sq_in 11 rfl rfl (by simp) rfl (fun v w h => h)) (sq_in 12 rfl rfl (by simp) rfl (fun v w h => h)) (fun v v' w h h' => exSSameT h h' (by decide +kernel) (by decide +kernel))
  · exact q_two (F := fun v _ => v = .bool true) (G := fun v _ => v = .bool true) hp (free_of rfl) trivial (sq_in 10 rfl rfl (by simp) rfl (fun v w h => h)) (sq_in 13 rfl rfl (by simp) rfl (fun v w h => h)) (fun ρ w hc h h' => ⟨_, by simp [execOp, go_sem, h, h'], rfl⟩)
  · exact q_move hp (free_of rfl) trivial (sq_in 14 rfl rfl (by simp) rfl (fun v w h => h))
  · exact q_loadRat hp (free_of rfl) (gq_some rfl rfl (by simp) rfl (fun v w h => h)) (List.mem_iff_getElem?.2 ⟨2, rfl⟩) (.inl rfl) rfl (sq_out rfl rfl (fun _ _ => rfl)) (fun us w hl h => h)
  · exact q_call2 (F := (Fq.is (.int .i64 5)).P) (G := (Fq.is (.int .i64 14)).P) hp (free_of rfl) (gq_some rfl rfl (by simp) rfl (fun v w h => h)) (enq_S_Of) (sq_const (fun _ => rfl)) (sq_const (fun _ => rfl)) (fun v v' w h h' => (by subst h; subst h'; exact exSOf (n := 5) (d := 14) (by decide) (of_lit (by decide)) (of_lit (by decide))))
  · exact q_call2 (F := (Fq.pair ((simF (((Rat.divInt (17) (50)).den : Int) + ((Rat.divInt (9) (25)).den : Int)).toNat (Rat.divInt (17) (50)).num ((Rat.divInt (17) (50)).den : Int) (Rat.divInt (9) (25)).num ((Rat.divInt (9) (25)).den : Int)).1) ((simF (((Rat.divInt (17) (50)).den : Int) + ((Rat.divInt (9) (25)).den : Int)).toNat (Rat.divInt (17) (50)).num ((Rat.divInt (17) (50)).den : Int) (Rat.divInt (9) (25)).num ((Rat.divInt (9) (25)).den : Int)).2)).P) (G := (Fq.pair (Rat.divInt (5) (14)).num ((Rat.divInt (5) (14)).den : Int)).P) hp (free_of rfl) (gq_some rfl rfl (by simp) rfl (fun v w h => h)) (enq_S_Same) (sq_in 16 rfl rfl (by simp) rfl (fun v w h => h)) (sq_in 17 rfl rfl (by simp) rfl (fun v w h => h)) (fun v v' w h h' => exSSameT h h' (by decide +kernel) (by decide +kernel))
  · exact q_two (F := fun v _ => v = .bool true) (G := fun v _ => v = .bool true) hp (free_of rfl) trivial (sq_in 15 rfl rfl (by simp) rfl (fun v w h => h)) (sq_in 18 rfl rfl (by simp) rfl (fun v w h => h)) (fun ρ w hc h h' => ⟨_, by simp [execOp, go_sem, h, h'], rfl⟩)
  · exact q_move hp (free_of rfl) trivial (sq_in 19 rfl rfl (by simp) rfl (fun v w h => h))
  · exact q_call2 (F := (Fq.is (.int .i64 (-1))).P) (G := (Fq.is (.int .i64 2)).P) hp (free_of rfl) (gq_some rfl rfl (by simp) rfl (fun v w h => h)) (enq_S_Of) (sq_const (fun _ => rfl)) (sq_const (fun _ => rfl)) (fun v v' w h h' => (by subst h; subst h'; exact exSOf (n := -1) (d := 2) (by decide) (of_lit (by decide)) (of_lit (by decide))))
  · exact q_call1 (F := (Fq.pair (Rat.divInt (-1) (2)).num ((Rat.divInt (-1) (2)).den : Int)).P) hp (free_of rfl) (gq_some rfl rfl (by simp) rfl (fun v w h => h)) (enq_Q_Floor) (sq_in 21 rfl rfl (by simp) rfl (fun v w h => h)) (fun v w h => exFloorQ h (rb_le B24.out (by omega)))
  · exact q_call1 (F := (Fq.is (.int .i64 (-1))).P) hp (free_of rfl) (gq_some rfl rfl (by simp) rfl (fun v w h => h)) (enq_R_Of) (sq_const (fun _ => rfl)) (fun v w h => (by subst h; exact rOfK w (-1) (by omega) (by omega)))
  · exact q_call2 (F := (Fq.num ((Rat.divInt (-1) (2)).floor)).P) (G := (Fq.num (-1)).P) hp (free_of rfl) (gq_some rfl rfl (by simp) rfl (fun v w h => h)) (enq_R_Same) (sq_in 22 rfl rfl (by simp) rfl (fun v w h => h)) (sq_in 23 rfl rfl (by simp) rfl (fun v w h => h)) (fun v v' w h h' => exRSameB h h' (by decide +kernel))
  · exact q_two (F := fun v _ => v = .bool true) (G := fun v _ => v = .bool true) hp (free_of rfl) trivial (sq_in 20 rfl rfl (by simp) rfl (fun v w h => h)) (sq_in 24 rfl rfl (by simp) rfl (fun v w h => h)) (fun ρ w hc h h' => ⟨_, by simp [execOp, go_sem, h, h'], rfl⟩)
  · exact q_move hp (free_of rfl) trivial (sq_in 25 rfl rfl (by simp) rfl (fun v w h => h))
  · exact q_loadRat hp (free_of rfl) (gq_some rfl rfl (by simp) rfl (fun v w h => h)) (List.mem_iff_getElem?.2 ⟨6, rfl⟩) (.inl rfl) rfl (sq_out rfl rfl (fun _ _ => rfl)) (fun us w hl h => h)
  · exact q_call1 (F := (Fq.pair (Rat.divInt (1) (2)).num ((Rat.divInt (1) (2)).den : Int)).P) hp (free_of rfl) (gq_some rfl rfl (by simp) rfl (fun v w h => h)) (enq_Q_Valid) (sq_in 27 rfl rfl (by simp) rfl (fun v w h => h)) (fun v w h => exValidQ h (rb_le B1.out (by omega)))
  · exact q_two (F := fun v _ => v = .bool true) (G := fun v _ => v = .bool true) hp (free_of rfl) trivial (sq_in 26 rfl rfl (by simp) rfl (fun v w h => h)) (sq_in 28 rfl rfl (by simp) rfl (fun v w h => h)) (fun ρ w hc h h' => ⟨_, by simp [execOp, go_sem, h, h'], rfl⟩)
  · exact q_move hp (free_of rfl) trivial (sq_in 29 rfl rfl (by simp) rfl (fun v w h => h))
  · exact q_zeroRat hp (free_of rfl) (gq_some rfl rfl (by simp) rfl (fun v w h => h)) (fun v w h => h)
  · exact q_call1 (F := (Fq.pair 0 0).P) hp (free_of rfl) (gq_some rfl rfl (by simp) rfl (fun v w h => h)) (enq_Q_Valid) (sq_in 31 rfl rfl (by simp) rfl (fun v w h => h)) (fun v w h => exValidN h (by decide))
  · exact q_one (F := fun v _ => v = .bool false) hp (free_of rfl) (gq_some rfl rfl (by simp) rfl (fun v w h => h)) (sq_in 32 rfl rfl (by simp) rfl (fun v w h => h)) (fun ρ w _ h => ⟨.bool true, by simp [execOp, go_sem, h], rfl⟩)
  · exact q_two (F := fun v _ => v = .bool true) (G := fun v _ => v = .bool true) hp (free_of rfl) trivial (sq_in 30 rfl rfl (by simp) rfl (fun v w h => h)) (sq_in 33 rfl rfl (by simp) rfl (fun v w h => h)) (fun ρ w hc h h' => ⟨_, by simp [execOp, go_sem, h, h'], rfl⟩)
  · exact q_assign hp (free_of rfl) trivial (sq_in 34 rfl rfl (by simp) rfl (fun v w h => h))
  intro L vs w27 nb hL hC hn E27
  have e2 : vs 2 = .bool true := hC 2 (by simp)
  have e3 : vs 3 = .bool true := hC 3 (by simp)
  have e8 : vs 8 = .bool true := hC 8 (by simp)
  have e9 : vs 9 = .bool true := hC 9 (by simp)
  have e10 : vs 10 = .bool true := hC 10 (by simp)
  have e13 : vs 13 = .bool true := hC 13 (by simp)
  have e14 : vs 14 = .bool true := hC 14 (by simp)
  have e15 : vs 15 = .bool true := hC 15 (by simp)
  have e18 : vs 18 = .bool true := hC 18 (by simp)
  have e19 : vs 19 = .bool true := hC 19 (by simp)
  have e20 : vs 20 = .bool true := hC 20 (by simp)
  have e24 : vs 24 = .bool true := hC 24 (by simp)
  have e25 : vs 25 = .bool true := hC 25 (by simp)
  have e26 : vs 26 = .bool true := hC 26 (by simp)
  have e28 : vs 28 = .bool true := hC 28 (by simp)
  have e29 : vs 29 = .bool true := hC 29 (by simp)
  have e30 : vs 30 = .bool true := hC 30 (by simp)
  have e32 : vs 32 = .bool false := hC 32 (by simp)
  have e33 : vs 33 = .bool true := hC 33 (by simp)
  have e34 : vs 34 = .bool true := hC 34 (by simp)
  have e35 : vs 35 = .bool true := hC 35 (by simp)
  have E : Fr w [(b18_4, 4, Fq.pair 0 0), (b17_6, 4, Fq.pair 0 0), (b16_6, 4, Fq.pair ((simF (((Rat.divInt (17) (50)).den : Int) + ((Rat.divInt (9) (25)).den : Int)).toNat (Rat.divInt (17) (50)).num ((Rat.divInt (17) (50)).den : Int) (Rat.divInt (9) (25)).num ((Rat.divInt (9) (25)).den : Int)).1) ((simF (((Rat.divInt (17) (50)).den : Int) + ((Rat.divInt (9) (25)).den : Int)).toNat (Rat.divInt (17) (50)).num ((Rat.divInt (17) (50)).den : Int) (Rat.divInt (9) (25)).num ((Rat.divInt (9) (25)).den : Int)).2)), (b13_6, 4, Fq.pair ((simF (((Rat.divInt (1) (3)).den : Int) + ((Rat.divInt (2) (5)).den : Int)).toNat (Rat.divInt (1) (3)).num ((Rat.divInt (1) (3)).den : Int) (Rat.divInt (2) (5)).num ((Rat.divInt (2) (5)).den : Int)).1) ((simF (((Rat.divInt (1) (3)).den : Int) + ((Rat.divInt (2) (5)).den : Int)).toNat (Rat.divInt (1) (3)).num ((Rat.divInt (1) (3)).den : Int) (Rat.divInt (2) (5)).num ((Rat.divInt (2) (5)).den : Int)).2)), (b10_6, 4, Fq.pair 0 0), (b7_6, 4, Fq.pair (Rat.divInt (-6) (4)).num ((Rat.divInt (-6) (4)).den : Int)), (b3_2, 4, Fq.pair (Rat.divInt (1) (2)).num ((Rat.divInt (1) (2)).den : Int)), (b3_3, 4, Fq.pair (Rat.divInt (1) (3)).num ((Rat.divInt (1) (3)).den : Int))] w27 := E27
  rw [lay_all hL]
  simp only [putAll, dstOf, List.length_cons, List.length_nil, Nat.zero_add, Nat.reduceAdd, List.getElem?_toArray, List.getElem?_cons_zero, List.getElem?_cons_succ, Option.bind_some, Act.put, List.setIfInBounds_toArray, List.set_cons_succ, List.set_cons_zero]
  rw [e2, e3, e8, e9, e10, e13, e14, e15, e18, e19, e20, e24, e25, e26, e28, e29, e30, e32, e33, e34, e35]
  generalize vs 0 = u27_0
  generalize vs 1 = u27_1
  generalize vs 4 = u27_4
  generalize vs 5 = u27_5
  generalize vs 6 = u27_6
  generalize vs 7 = u27_7
  generalize vs 11 = u27_11
  generalize vs 12 = u27_12
  generalize vs 16 = u27_16
  generalize vs 17 = u27_17
  generalize vs 21 = u27_21
  generalize vs 22 = u27_22
  generalize vs 23 = u27_23
  generalize vs 27 = u27_27
  generalize vs 31 = u27_31
  clear e2 e3 e8 e9 e10 e13 e14 e15 e18 e19 e20 e24 e25 e26 e28 e29 e30 e32 e33 e34 e35 hC hn E27 hL vs L nb
  clear tx
  clear B1 B2 B4 B5 B6 B8 B9 B12 B14 B15 B20 B21 B22 B23 B24 B25 B26
  go_wp2
  refine bodyPost_ret (v := .bool true) ?_ rfl (by first | exact ⟨_, rfl, E.below, rfl⟩ | exact ⟨_, rfl, E.below⟩ | exact ⟨rfl, E.below⟩)
  simp [results, Tryz.results7, go_sem]

end Go.Proofs.YtoimphnhmpmipaaGreat

/- Walk of the law on the field of fractions. -/
namespace Go.Proofs.YtoimphnhmpmipaaGreat
open Go Go.RowKit

theorem enq_K_examples (args : Array Value) (w : World) : (callFunc 7 args).run Tryz.prog w = .ok (.enter 7 args) w := enter_of Tryz.func7 (by kernel_rfl) rfl args w

section
variable {os : List Oper} {Q : Exit → Act → World → Prop} {a : Act} {p : Pq} {B B0 : Nat} {w0 : World}
variable {i s : Nat} {d : Option Tmp} {ty : TypeId} {ps : String} {af : Array Edge} {gd : Option (Nat × Bool)}
/-- Two signs and words, loaded out of their box. -/
theorem q_loadRaw2 {o : Ob} {x : Operand} (hp : p.Ok B B0) (hF : p.Free i) (hg : GdQ os a p B B0 w0 af gd) (ho : o ∈ p.old) (hk : o.F1 = o.F0 ∨ leadsB os 9 o.k i = true) (hm : o.m = 4)
    (hx : SrcQ os a p B B0 w0 af x fun u _ => u = .pointer (some ⟨o.b, 0, none⟩)) (hC : ∀ (us : List Value) (w : World), us.length = o.m → o.F0.P (.agg us.toArray) w → (p.c i).P (.agg us.toArray) w) :
    StepQ os Q a p B B0 w0 i { dst := d, op := .load 26 x, type := ty, pos := ps, after := af, guard := gd } := by
  refine stq_val hp hF hg fun L vs w hG hL hc hd => ?_
  obtain ⟨us, hl, h0, hat, ht, hP⟩ := box_now ho hk hG hL hc
  have e := hx L vs w hG hd
  refine ⟨_, ?_, hC us w hl hP⟩
  rw [hm] at hl
  match us, hl, hat with
  | [p, q, r, s], _, hat =>
    have c0 := (hat 0 (by simp)).1
    have c1 := (hat 1 (by simp)).1
    have c2 := (hat 2 (by simp)).1
    have c3 := (hat 3 (by simp)).1
    simp at c0 c1 c2 c3
    generalize (lay os.toArray L vs os.toArray.size a).eval = ρ at e
    simp [execOp, go_sem, e, c0, c1, c2, c3]
end

end Go.Proofs.YtoimphnhmpmipaaGreat

/- Steps of a region over slices of fractions. -/
namespace Go.Proofs.YtoimphnhmpmipaaGreat
open Go Go.RowKit

/-- Fractions, one behind the other. -/
def Rats (w : World) (us : List Value) (qs : List (Int × Int)) : Prop :=
  us.length = qs.length * 4 ∧ ∀ i n d, qs[i]? = some (n, d) → Pair w (.agg #[us.getD (i * 4) undef, us.getD (i * 4 + 1) undef, us.getD (i * 4 + 2) undef, us.getD (i * 4 + 3) undef]) n d
def Fq.rats (qs : List (Int × Int)) : Fq := ⟨fun v w => ∃ us : List Value, v = .agg us.toArray ∧ Rats w us qs,
  fun ⟨us, e, hl, h⟩ hb => ⟨us, e, hl, fun i n d hi => (h i n d hi).mono hb⟩, fun ⟨us, e, hl, h⟩ ha ht hl2 => ⟨us, e, hl, fun i n d hi => (Fq.pair n d).put (h i n d hi) ha ht hl2⟩⟩

section
variable {os : List Oper} {Q : Exit → Act → World → Prop} {a : Act} {p : Pq} {B B0 : Nat} {w0 : World}
variable {i s : Nat} {d : Option Tmp} {ty : TypeId} {ps : String} {af : Array Edge} {gd : Option (Nat × Bool)}

theorem q_lenR {x : Operand} {ad : Option Addr} {k c : Nat} (hp : p.Ok B B0) (hF : p.Free i) (hg : GdQ os a p B B0 w0 af gd) (hx : SrcQ os a p B B0 w0 af x fun v _ => v = .slice ad k c) (hC : ∀ w, (p.c i).P (.int .i64 k) w) :
    StepQ os Q a p B B0 w0 i { dst := d, op := .call { callee := .builtin .len, args := #[x], argTypes := #[74] }, type := ty, pos := ps, after := af, guard := gd } :=
  q_one hp hF hg hx fun ρ w _ h => ⟨.int .i64 k, by simp [go_sem, h], hC w⟩

/-- An element's address. -/
theorem q_index {b l k : Nat} {x y : Operand} (hp : p.Ok B B0) (hF : p.Free i) (hg : GdQ os a p B B0 w0 af gd) (hx : SrcQ os a p B B0 w0 af x fun v _ => v = .slice (some ⟨b, 0, none⟩) l l) (hy : SrcQ os a p B B0 w0 af y fun v _ => v = .int .i64 k) (hk : k < l)
    (hC : ∀ w, (p.c i).P (.pointer (some ⟨b, k * 4, none⟩)) w) :
    StepQ os Q a p B B0 w0 i { dst := d, op := .indexAddr 74 x y, type := ty, pos := ps, after := af, guard := gd } :=
  q_two hp hF hg hx hy fun ρ w _ h h' => ⟨_, by
    have h0 : (k : Int) < (l : Int) := by omega
    have h1 : (0 : Int) ≤ (k : Int) := by omega
    simp [execOp, go_sem, h, h', h0, h1], hC w⟩

/-- A fraction, loaded out of a part of a box. -/
theorem q_loadRatAt {o : Ob} {off : Nat} {x : Operand} (hp : p.Ok B B0) (hF : p.Free i) (hg : GdQ os a p B B0 w0 af gd) (ho : o ∈ p.old) (hk : o.F1 = o.F0 ∨ leadsB os 9 o.k i = true) (hoff : off + 4 ≤ o.m)
    (hx : SrcQ os a p B B0 w0 af x fun u _ => u = .pointer (some ⟨o.b, off, none⟩)) (hC : ∀ (us : List Value) (w : World), us.length = o.m → o.F0.P (.agg us.toArray) w → (p.c i).P (.agg #[us.getD off undef, us.getD (off + 1) undef, us.getD (off + 2) undef, us.getD (off + 3) undef]) w) :
    StepQ os Q a p B B0 w0 i { dst := d, op := .load 31 x, type := ty, pos := ps, after := af, guard := gd } := by
  refine stq_val hp hF hg fun L vs w hG hL hc hd => ?_
  obtain ⟨us, hl, h0, hat, ht, hP⟩ := box_now ho hk hG hL hc
  have e := hx L vs w hG hd
  have c0 := (hat off (by omega)).1
  have c1 := (hat (off + 1) (by omega)).1
  have c2 := (hat (off + 2) (by omega)).1
  have c3 := (hat (off + 3) (by omega)).1
  refine ⟨_, ?_, hC us w hl hP⟩
  generalize (lay os.toArray L vs os.toArray.size a).eval = ρ at e
  generalize us.getD off undef = u0 at c0 ⊢
  generalize us.getD (off + 1) undef = u1 at c1 ⊢
  generalize us.getD (off + 2) undef = u2 at c2 ⊢
  generalize us.getD (off + 3) undef = u3 at c3 ⊢
  simp [execOp, go_sem, e, c0, c1, c2, c3]

theorem ld_rats {qs : List (Int × Int)} {k : Nat} {n d : Int} {us : List Value} {w : World} (hk : qs[k]? = some (n, d)) (h : (Fq.rats qs).P (.agg us.toArray) w) : Pair w (.agg #[us.getD (k * 4) undef, us.getD (k * 4 + 1) undef, us.getD (k * 4 + 2) undef, us.getD (k * 4 + 3) undef]) n d := by
  obtain ⟨us', e, _, h⟩ := h
  injection e with e
  have e2 := congrArg Array.toList e
  simp at e2
  subst e2
  exact h k n d hk

/-- A value is passed on inside the region. -/
theorem stepS_assign {same : List (Nat × Nat)} {j : Nat} (hp : p.Ok B B0) (hF : p.Free i) (ha : apartB (os.map (·.dst)) = true) (hj : (os.map (·.dst))[j]? = some (some s)) (hs : s < a.tmps.size) (hdep : depA af j = true) (hC : ∀ v w, (p.c i).P v w)
    (hsm : same.all (fun x => x.1 != i || x.2 == j) = true) (hne : j ≠ i) : StepS os Q a p B B0 w0 same i { dst := d, op := .assign (.tmp s), type := ty, pos := ps, after := af, guard := none } := by
  intro hio L vs w hG hL hd hc
  have hLj := depA_of hdep hd
  have he := lay_in (vs := vs) ha hLj hj hs
  refine wpOp_step hio fun K' hK => ?_
  have hwn : Region.wanted ({ dst := d, op := .assign (.tmp s), type := ty, pos := ps, after := af, guard := none } : Oper) (yielded os.toArray (lay os.toArray L vs os.toArray.size a).tmps) = true := rfl
  rw [if_pos hwn]
  have e : (execOp (lay os.toArray L vs os.toArray.size a).eval ({ dst := d, op := .assign (.tmp s), type := ty, pos := ps, after := af, guard := none } : Oper)).run Tryz.prog w = .ok (.value (vs j)) w := by
    generalize (lay os.toArray L vs os.toArray.size a).eval = ρ at he
    simp [execOp, go_sem, he]
  unfold Oper.wp
  rw [e]
  refine hK _ _ ⟨_, rfl, hG.1.plain hp hF (Below.refl _ _) (hC _ _), fun x hx h1 => ?_⟩
  by_cases hx1 : x.1 = i
  · have h2 : x.2 = j := by
      have := List.all_eq_true.1 hsm x hx
      simpa [hx1] using this
    rw [hx1, h2, up_same, up_ne _ _ hne, up_ne _ _ hne]
    exact ⟨hLj, rfl⟩
  · rw [up_ne _ _ hx1] at h1
    obtain ⟨h2, h3⟩ := hG.2 x hx h1
    have hx2 : x.2 ≠ i := fun e => by rw [e, hL] at h2; cases h2
    rw [up_ne _ _ hx1, up_ne _ _ hx2, up_ne _ _ hx2]
    exact ⟨h2, h3⟩

end

theorem newks_ne {C : List Fq} {bs : List (Nat × Nat × Fq)} {ks : List (Option (Nat × Fq))} {new : List Nb} {len i : Nat} (h : new.all (fun n => n.i == i || n.k != i) = true) : ∀ n ∈ (plq C bs ks new len).new, n.i ≠ i → n.k ≠ i := fun n hn hi e => by
  have := List.all_eq_true.1 h n hn
  simp [e, hi] at this

end Go.Proofs.YtoimphnhmpmipaaGreat

/- Walks: the reference's arithmetic of fractions. -/
namespace Go.Proofs.YtoimphnhmpmipaaGreat
open Go Go.RowKit

theorem exRCmpN {w : World} {v v' : Value} {z z' : Int} (h : Num w v z) (h' : Num w v' z') : Calls Tryz.prog 44 #[v, v'] w fun e w' => ∃ v', e = .returned v' ∧ Below w.heap.size w w' ∧ v' = .int .i64 (cmpI z z') :=
  (RCmpV h h').mono fun _ _ hh => ⟨_, hh.1, hh.2, rfl⟩

set_option maxRecDepth 100000 in
set_option maxHeartbeats 4000000 in
theorem exSCmpQ {w : World} {v v' : Value} {a b : Rat} (h : Pair w v a.num a.den) (h' : Pair w v' b.num b.den) (ha : Rb a 300) (hb : Rb b 300) :
    Calls Tryz.prog 21 #[v, v'] w fun e w' => ∃ v', e = .returned v' ∧ Below w.heap.size w w' ∧ v' = .int .i64 (cmpQ a b) := by
  replace ha := hidd ha
  replace hb := hidd hb
  obtain ⟨n0, ao0, k0, c0, n0', ao0', k0', c0', rfl, _⟩ := ratV_pair h
  obtain ⟨n1, ao1, k1, c1, n1', ao1', k1', c1', rfl, _⟩ := ratV_pair h'
  obtain ⟨w1, b1, hw1, hb1, hs1, E⟩ := fr_start w (F := Fq.pair a.num (a.den : Int)) (us := [.bool n0, .slice ao0 k0 c0, .bool n0', .slice ao0' k0' c0']) 31 rfl (by simp) (tame_rat _ _ _ _ _ _ _ _) h
  obtain ⟨w2, b2, hw2, hb2, hs2, E⟩ := fr_more E hs1 (F := Fq.pair b.num (b.den : Int)) (us := [.bool n1, .slice ao1 k1 c1, .bool n1', .slice ao1' k1' c1']) 31 rfl (by simp) (tame_rat _ _ _ _ _ _ _ _) (h'.mono E.below)
  go_enter Tryz.func21, Tryz.ntmps21
  go_upto_region 1 with (fail)
  rw [← hw1]
  rw [← hw2]
  rw [← hb2]
  rw [← hb1]
  clear hw1 hw2 hb1 hb2 hs2 hs1
  have B3 : Hid (ab ((a.num * (b.den : Int))) < pw 600) := ab_mulM ha.out.1 hb.out.2 (by omega)
  have B4 : Hid (ab ((b.num * (a.den : Int))) < pw 600) := ab_mulM hb.out.1 ha.out.2 (by omega)
  refine region_fr (C := [Fq.is (.pointer (some ⟨b1, 0, none⟩)), Fq.num a.num, Fq.is (.pointer (some ⟨b2, 2, none⟩)), Fq.num (b.den : Int), Fq.num (a.num * (b.den : Int)), Fq.is (.pointer (some ⟨b2, 0, none⟩)), Fq.num b.num, Fq.is (.pointer (some ⟨b1, 2, none⟩)), Fq.num (a.den : Int), Fq.num (b.num * (a.den : Int)), Fq.is (.int .i64 (cmpI (a.num * (b.den : Int)) (b.num * (a.den : Int)))), Fq.is (.int .i64 (cmpI (a.num * (b.den : Int)) (b.num * (a.den : Int))))]) (ks := [none, none]) (new := []) E rfl (by kernel_rfl) rfl rfl (fun hp => ⟨?_, ?_, ?_, ?_, ?_, ?_, ?_, ?_, ?_, ?_, ?_, ?_, trivial⟩) ?_
  · exact q_addr (b := b1) (off := 0) (off' := 0) hp (free_of rfl) trivial (sq_out rfl rfl (fun _ _ => rfl)) (fun ρ w h => by simp [execOp, go_sem, h]) (fun _ => rfl)
  · exact q_loadInt (off := 0) hp (free_of rfl) trivial (List.mem_iff_getElem?.2 ⟨1, rfl⟩) (.inl rfl) (Nat.le_of_ble_eq_true rfl) (sq_in 0 rfl rfl (by simp) rfl (fun v w h => h)) (fun us w hl h => ld_pn hl h)
  · exact q_addr (b := b2) (off := 0) (off' := 2) hp (free_of rfl) trivial (sq_out rfl rfl (fun _ _ => rfl)) (fun ρ w h => by simp [execOp, go_sem, h]) (fun _ => rfl)
  · exact q_loadInt (off := 2) hp (free_of rfl) trivial (List.mem_iff_getElem?.2 ⟨0, rfl⟩) (.inl rfl) (Nat.le_of_ble_eq_true rfl) (sq_in 2 rfl rfl (by simp) rfl (fun v w h => h)) (fun us w hl h => ld_pd hl h)
  · exact q_call2 (F := (Fq.num a.num).P) (G := (Fq.num (b.den : Int)).P) hp (free_of rfl) trivial (enq_R_Mul) (sq_in 1 rfl rfl (by simp) rfl (fun v w h => h)) (sq_in 3 rfl rfl (by simp) rfl (fun v w h => h)) (fun v v' w h h' => exK (RMulV h h') B3.out (by omega))
  · exact q_addr (b := b2) (off := 0) (off' := 0) hp (free_of rfl) trivial (sq_out rfl rfl (fun _ _ => rfl)) (fun ρ w h => by simp [execOp, go_sem, h]) (fun _ => rfl)
  · exact q_loadInt (off := 0) hp (free_of rfl) trivial (List.mem_iff_getElem?.2 ⟨0, rfl⟩) (.inl rfl) (Nat.le_of_ble_eq_true rfl) (sq_in 5 rfl rfl (by simp) rfl (fun v w h => h)) (fun us w hl h => ld_pn hl h)
  · exact q_addr (b := b1) (off := 0) (off' := 2) hp (free_of rfl) trivial (sq_out rfl rfl (fun _ _ => rfl)) (fun ρ w h => by simp [execOp, go_sem, h]) (fun _ => rfl)
  · exact q_loadInt (off := 2) hp (free_of rfl) trivial (List.mem_iff_getElem?.2 ⟨1, rfl⟩) (.inl rfl) (Nat.le_of_ble_eq_true rfl) (sq_in 7 rfl rfl (by simp) rfl (fun v w h => h)) (fun us w hl h => ld_pd hl h)
  · exact q_call2 (F := (Fq.num b.num).P) (G := (Fq.num (a.den : Int)).P) hp (free_of rfl) trivial (enq_R_Mul) (sq_in 6 rfl rfl (by simp) rfl (fun v w h => h)) (sq_in 8 rfl rfl (by simp) rfl (fun v w h => h)) (fun v v' w h h' => exK (RMulV h h') B4.out (by omega))
  · exact q_call2 (F := (Fq.num (a.num * (b.den : Int))).P) (G := (Fq.num (b.num * (a.den : Int))).P) hp (free_of rfl) trivial (enq_R_Cmp) (sq_in 4 rfl rfl (by simp) rfl (fun v w h => h)) (sq_in 9 rfl rfl (by simp) rfl (fun v w h => h)) (fun v v' w h h' => exRCmpN h h')
  · exact q_assign hp (free_of rfl) trivial (sq_in 10 rfl rfl (by simp) rfl (fun v w h => h))
  intro L vs w5 nb hL hC hn E5
  have e0 : vs 0 = .pointer (some ⟨b1, 0, none⟩) := hC 0 (by simp)
  have e2 : vs 2 = .pointer (some ⟨b2, 2, none⟩) := hC 2 (by simp)
  have e5 : vs 5 = .pointer (some ⟨b2, 0, none⟩) := hC 5 (by simp)
  have e7 : vs 7 = .pointer (some ⟨b1, 2, none⟩) := hC 7 (by simp)
  have e10 : vs 10 = .int .i64 (cmpI (a.num * (b.den : Int)) (b.num * (a.den : Int))) := hC 10 (by simp)
  have e11 : vs 11 = .int .i64 (cmpI (a.num * (b.den : Int)) (b.num * (a.den : Int))) := hC 11 (by simp)
  have E : Fr w [(b2, 4, Fq.pair b.num (b.den : Int)), (b1, 4, Fq.pair a.num (a.den : Int))] w5 := E5
  rw [lay_all hL]
  simp only [putAll, dstOf, List.length_cons, List.length_nil, Nat.zero_add, Nat.reduceAdd, List.getElem?_toArray, List.getElem?_cons_zero, List.getElem?_cons_succ, Option.bind_some, Act.put, List.setIfInBounds_toArray, List.set_cons_succ, List.set_cons_zero]
  rw [e0, e2, e5, e7, e10, e11]
  generalize vs 1 = u5_1
  generalize vs 3 = u5_3
  generalize vs 4 = u5_4
  generalize vs 6 = u5_6
  generalize vs 8 = u5_8
  generalize vs 9 = u5_9
  clear e0 e2 e5 e7 e10 e11 hC hn E5 hL vs L nb
  clear B3 B4 ha hb
  go_wp2
  refine bodyPost_ret (v := .int .i64 (cmpI (a.num * (b.den : Int)) (b.num * (a.den : Int)))) ?_ rfl (by first | exact ⟨_, rfl, E.below, rfl⟩ | exact ⟨_, rfl, E.below⟩ | exact ⟨rfl, E.below⟩)
  simp [results, Tryz.results21, go_sem]

end Go.Proofs.YtoimphnhmpmipaaGreat

/- Steps of a region over intervals, over slices that are passed on, over arrays of descriptions. -/
namespace Go.Proofs.YtoimphnhmpmipaaGreat
open Go Go.RowKit

/-- Two fractions, one behind the other. -/
def Ivl (w : World) (v : Value) (n1 d1 n2 d2 : Int) : Prop := ∃ p q r s p' q' r' s', v = .agg #[p, q, r, s, p', q', r', s'] ∧ Pair w (.agg #[p, q, r, s]) n1 d1 ∧ Pair w (.agg #[p', q', r', s']) n2 d2
def Fq.ivl (n1 d1 n2 d2 : Int) : Fq := ⟨fun v w => Ivl w v n1 d1 n2 d2, fun ⟨p, q, r, s, p', q', r', s', e, h1, h2⟩ hb => ⟨p, q, r, s, p', q', r', s', e, h1.mono hb, h2.mono hb⟩,
  fun ⟨p, q, r, s, p', q', r', s', e, h1, h2⟩ ha ht hl => ⟨p, q, r, s, p', q', r', s', e, (Fq.pair n1 d1).put h1 ha ht hl, (Fq.pair n2 d2).put h2 ha ht hl⟩⟩
def IvlV (F : Fq) (v : Value) (w : World) : Prop := ∃ n1 a1 k1 c1 n2 a2 k2 c2 n3 a3 k3 c3 n4 a4 k4 c4, v = .agg #[.bool n1, .slice a1 k1 c1, .bool n2, .slice a2 k2 c2, .bool n3, .slice a3 k3 c3, .bool n4, .slice a4 k4 c4] ∧ F.P v w

theorem agg4 {p q r s p' q' r' s' : Value} (h : (Value.agg #[p, q, r, s]) = .agg #[p', q', r', s']) : p = p' ∧ q = q' ∧ r = r' ∧ s = s' := by
  injection h with h
  have := congrArg Array.toList h
  simpa using this

theorem Ivl.parts {w : World} {v : Value} {n1 d1 n2 d2 : Int} (h : Ivl w v n1 d1 n2 d2) : IvlV (Fq.ivl n1 d1 n2 d2) v w := by
  have h0 := h
  obtain ⟨p, q, r, s, p', q', r', s', rfl, h1, h2⟩ := h
  obtain ⟨m1, b1, j1, e1, m2, b2, j2, e2, eq1, _⟩ := ratV_pair h1
  obtain ⟨m3, b3, j3, e3, m4, b4, j4, e4, eq2, _⟩ := ratV_pair h2
  obtain ⟨rfl, rfl, rfl, rfl⟩ := agg4 eq1
  obtain ⟨rfl, rfl, rfl, rfl⟩ := agg4 eq2
  exact ⟨_, _, _, _, _, _, _, _, _, _, _, _, _, _, _, _, rfl, h0⟩

def zeroIvl : List Value := [.bool false, .slice none 0 0, .bool false, .slice none 0 0, .bool false, .slice none 0 0, .bool false, .slice none 0 0]
theorem Ivl.zero (w : World) : Ivl w (.agg zeroIvl.toArray) 0 0 0 0 := ⟨_, _, _, _, _, _, _, _, rfl, Pair.zero w, Pair.zero w⟩
theorem tame_ivl (n1 : Bool) (a1 : Option Addr) (k1 c1 : Nat) (n2 : Bool) (a2 : Option Addr) (k2 c2 : Nat) (n3 : Bool) (a3 : Option Addr) (k3 c3 : Nat) (n4 : Bool) (a4 : Option Addr) (k4 c4 : Nat) : Tame [.bool n1, .slice a1 k1 c1, .bool n2, .slice a2 k2 c2, .bool n3, .slice a3 k3 c3, .bool n4, .slice a4 k4 c4] := by
  intro u hu q e
  simp at hu
  rcases hu with rfl | rfl | rfl | rfl | rfl | rfl | rfl | rfl <;> cases e

section
variable {os : List Oper} {Q : Exit → Act → World → Prop} {a : Act} {p : Pq} {B B0 : Nat} {w0 : World}
variable {i s : Nat} {d : Option Tmp} {ty : TypeId} {ps : String} {af : Array Edge} {gd : Option (Nat × Bool)}

/-- An interval, loaded out of its box. -/
theorem q_loadIvl {o : Ob} {x : Operand} (hp : p.Ok B B0) (hF : p.Free i) (hg : GdQ os a p B B0 w0 af gd) (ho : o ∈ p.old) (hk : o.F1 = o.F0 ∨ leadsB os 9 o.k i = true) (hm : o.m = 8)
    (hx : SrcQ os a p B B0 w0 af x fun u _ => u = .pointer (some ⟨o.b, 0, none⟩)) (hC : ∀ (us : List Value) (w : World), us.length = o.m → o.F0.P (.agg us.toArray) w → (p.c i).P (.agg us.toArray) w) :
    StepQ os Q a p B B0 w0 i { dst := d, op := .load 47 x, type := ty, pos := ps, after := af, guard := gd } := by
  refine stq_val hp hF hg fun L vs w hG hL hc hd => ?_
  obtain ⟨us, hl, h0, hat, ht, hP⟩ := box_now ho hk hG hL hc
  have e := hx L vs w hG hd
  refine ⟨_, ?_, hC us w hl hP⟩
  rw [hm] at hl
  match us, hl, hat with
  | [u0, u1, u2, u3, u4, u5, u6, u7], _, hat =>
    have c0 := (hat 0 (by simp)).1
    have c1 := (hat 1 (by simp)).1
    have c2 := (hat 2 (by simp)).1
    have c3 := (hat 3 (by simp)).1
    have c4 := (hat 4 (by simp)).1
    have c5 := (hat 5 (by simp)).1
    have c6 := (hat 6 (by simp)).1
    have c7 := (hat 7 (by simp)).1
    simp at c0 c1 c2 c3 c4 c5 c6 c7
    generalize (lay os.toArray L vs os.toArray.size a).eval = ρ at e
    simp [execOp, go_sem, e, c0, c1, c2, c3, c4, c5, c6, c7]

theorem ld_ivl0 {us : List Value} {w : World} {n1 d1 n2 d2 : Int} (hl : us.length = 8) (h : (Fq.ivl n1 d1 n2 d2).P (.agg us.toArray) w) : Pair w (.agg #[us.getD 0 undef, us.getD (0 + 1) undef, us.getD (0 + 2) undef, us.getD (0 + 3) undef]) n1 d1 := by
  match us, hl with
  | [u0, u1, u2, u3, u4, u5, u6, u7], _ =>
    obtain ⟨p, q, r, s, p', q', r', s', e, h1, h2⟩ := h
    injection e with e
    have e2 := congrArg Array.toList e
    simp at e2
    obtain ⟨rfl, rfl, rfl, rfl, rfl, rfl, rfl, rfl⟩ := e2
    exact h1
theorem ld_ivl1 {us : List Value} {w : World} {n1 d1 n2 d2 : Int} (hl : us.length = 8) (h : (Fq.ivl n1 d1 n2 d2).P (.agg us.toArray) w) : Pair w (.agg #[us.getD 4 undef, us.getD (4 + 1) undef, us.getD (4 + 2) undef, us.getD (4 + 3) undef]) n2 d2 := by
  match us, hl with
  | [u0, u1, u2, u3, u4, u5, u6, u7], _ =>
    obtain ⟨p, q, r, s, p', q', r', s', e, h1, h2⟩ := h
    injection e with e
    have e2 := congrArg Array.toList e
    simp at e2
    obtain ⟨rfl, rfl, rfl, rfl, rfl, rfl, rfl, rfl⟩ := e2
    exact h2

/-- An interval is put together. -/
theorem q_buildIvl {x y : Operand} {n1 d1 n2 d2 : Int} (hp : p.Ok B B0) (hF : p.Free i) (hg : GdQ os a p B B0 w0 af gd) (hx : SrcQ os a p B B0 w0 af x fun v w => Pair w v n1 d1) (hy : SrcQ os a p B B0 w0 af y fun v w => Pair w v n2 d2) (hC : ∀ v w, Ivl w v n1 d1 n2 d2 → (p.c i).P v w) :
    StepQ os Q a p B B0 w0 i { dst := d, op := .build 47 #[(0, x), (1, y)], type := ty, pos := ps, after := af, guard := gd } := by
  refine stq_val hp hF hg fun L vs w hG hL hc hd => ?_
  have h1 := hx L vs w hG hd
  have h2 := hy L vs w hG hd
  obtain ⟨m1, b1, j1, g1, m2, b2, j2, g2, e1, _⟩ := ratV_pair h1
  obtain ⟨m3, b3, j3, g3, m4, b4, j4, g4, e2, _⟩ := ratV_pair h2
  refine ⟨.agg #[.bool m1, .slice b1 j1 g1, .bool m2, .slice b2 j2 g2, .bool m3, .slice b3 j3 g3, .bool m4, .slice b4 j4 g4], ?_, hC _ _ ⟨_, _, _, _, _, _, _, _, rfl, by rw [← e1]; exact h1, by rw [← e2]; exact h2⟩⟩
  generalize (lay os.toArray L vs os.toArray.size a).eval = ρ at e1 e2
  simp [execOp, go_sem, e1, e2]
theorem q_zeroIvl (hp : p.Ok B B0) (hF : p.Free i) (hg : GdQ os a p B B0 w0 af gd) (hC : ∀ v w, Ivl w v 0 0 0 0 → (p.c i).P v w) : StepQ os Q a p B B0 w0 i { dst := d, op := .build 47 #[], type := ty, pos := ps, after := af, guard := gd } := by
  refine stq_val hp hF hg fun L vs w hG hL hc hd => ⟨.agg zeroIvl.toArray, ?_, hC _ _ (Ivl.zero w)⟩
  generalize (lay os.toArray L vs os.toArray.size a).eval = ρ
  simp [execOp, go_sem, zeroIvl]
/-- An end of an interval. -/
theorem q_field0 {x : Operand} {n1 d1 n2 d2 : Int} (hp : p.Ok B B0) (hF : p.Free i) (hg : GdQ os a p B B0 w0 af gd) (hx : SrcQ os a p B B0 w0 af x fun v w => Ivl w v n1 d1 n2 d2) (hC : ∀ v w, Pair w v n1 d1 → (p.c i).P v w) :
    StepQ os Q a p B B0 w0 i { dst := d, op := .field 47 x 0, type := ty, pos := ps, after := af, guard := gd } := by
  refine stq_val hp hF hg fun L vs w hG hL hc hd => ?_
  obtain ⟨u0, u1, u2, u3, u4, u5, u6, u7, e, h1, h2⟩ := hx L vs w hG hd
  refine ⟨_, ?_, hC _ _ h1⟩
  generalize (lay os.toArray L vs os.toArray.size a).eval = ρ at e
  have hf : (Instr.field 47 (.agg #[u0, u1, u2, u3, u4, u5, u6, u7]) 0).run Tryz.prog w = .ok (.agg #[u0, u1, u2, u3]) w := by kernel_rfl
  simp [execOp, go_sem, e, hf]
theorem q_field1 {x : Operand} {n1 d1 n2 d2 : Int} (hp : p.Ok B B0) (hF : p.Free i) (hg : GdQ os a p B B0 w0 af gd) (hx : SrcQ os a p B B0 w0 af x fun v w => Ivl w v n1 d1 n2 d2) (hC : ∀ v w, Pair w v n2 d2 → (p.c i).P v w) :
    StepQ os Q a p B B0 w0 i { dst := d, op := .field 47 x 1, type := ty, pos := ps, after := af, guard := gd } := by
  refine stq_val hp hF hg fun L vs w hG hL hc hd => ?_
  obtain ⟨u0, u1, u2, u3, u4, u5, u6, u7, e, h1, h2⟩ := hx L vs w hG hd
  refine ⟨_, ?_, hC _ _ h2⟩
  generalize (lay os.toArray L vs os.toArray.size a).eval = ρ at e
  have hf : (Instr.field 47 (.agg #[u0, u1, u2, u3, u4, u5, u6, u7]) 1).run Tryz.prog w = .ok (.agg #[u4, u5, u6, u7]) w := by kernel_rfl
  simp [execOp, go_sem, e, hf]

theorem op_allocIvl {ops : Array Oper} {K : Act → World → Prop} {w : World} (ho : ops[i]? = some { dst := d, op := .alloc 47, type := ty, pos := ps, after := af, guard := none })
    (h : K (a.put d (.pointer (some ⟨w.heap.size, 0, none⟩))) (w.alloc (.cells zeroIvl.toArray 47))) : wpOp Tryz.prog ops Q i K a w := by
  refine wpOp_step ho fun K' hK => ?_
  have e : (execOp a.eval ({ dst := d, op := .alloc 47, type := ty, pos := ps, after := af, guard := none } : Oper)).run Tryz.prog w = (.ok (.value (.pointer (some ⟨w.heap.size, 0, none⟩))) (w.alloc (.cells zeroIvl.toArray 47))) := by
    generalize a.eval = ρ
    simp [execOp, go_sem, zeroIvl]
  have hwn : Region.wanted ({ dst := d, op := .alloc 47, type := ty, pos := ps, after := af, guard := none } : Oper) (yielded ops a.tmps) = true := rfl
  rw [if_pos hwn]
  unfold Oper.wp
  rw [e]
  exact hK _ _ h
theorem q_allocIvl {n0 : Nb} (hp : p.Ok B B0) (hi : n0 ∈ p.new) (hii : n0.i = i) (hsl : n0.s = none) (hm : n0.m = 8) (hk : leadsB os 9 n0.k i = true) (hki : n0.k ≠ i) (hC : ∀ v w', (p.c i).P v w') (h1 : ∀ o ∈ p.old, o.k ≠ i) (h2 : ∀ n ∈ p.new, n.k ≠ i) (hF : ∀ w', n0.F0.P (.agg zeroIvl.toArray) w') :
    StepQ os Q a p B B0 w0 i { dst := d, op := .alloc 47, type := ty, pos := ps, after := af, guard := none } := by
  subst hii
  intro hio L vs w hG hL hd hc
  exact op_allocIvl hio ⟨_, rfl, hG.alloc hp hi hsl (not_yet hc hk hL) hki hC h1 h2 _ (us := zeroIvl) hm.symm (by omega) (tame_ivl _ _ _ _ _ _ _ _ _ _ _ _ _ _ _ _) hF⟩

theorem op_storeIvl {ops : Array Oper} {K : Act → World → Prop} {w : World} {x y : Operand} {b : Nat} {us : List Value} {n1 : Bool} {a1 : Option Addr} {k1 c1 : Nat} {n2 : Bool} {a2 : Option Addr} {k2 c2 : Nat} {n3 : Bool} {a3 : Option Addr} {k3 c3 : Nat} {n4 : Bool} {a4 : Option Addr} {k4 c4 : Nat} (ho : ops[i]? = some { dst := d, op := .store 47 x y, type := ty, pos := ps, after := af, guard := none }) (hx : a.eval x = .pointer (some ⟨b, 0, none⟩)) (hy : a.eval y = .agg #[.bool n1, .slice a1 k1 c1, .bool n2, .slice a2 k2 c2, .bool n3, .slice a3 k3 c3, .bool n4, .slice a4 k4 c4]) (hat : At w b us) (hl : us.length = 8)
    (h : K (a.put d undef) (putFrom w b 0 [.bool n1, .slice a1 k1 c1, .bool n2, .slice a2 k2 c2, .bool n3, .slice a3 k3 c3, .bool n4, .slice a4 k4 c4])) : wpOp Tryz.prog ops Q i K a w := by
  refine wpOp_step ho fun K' hK => ?_
  obtain ⟨e0, f0⟩ := hat 0 (by omega)
  obtain ⟨e1, f1⟩ := hat 1 (by omega)
  obtain ⟨e2, f2⟩ := hat 2 (by omega)
  obtain ⟨e3, f3⟩ := hat 3 (by omega)
  obtain ⟨e4, f4⟩ := hat 4 (by omega)
  obtain ⟨e5, f5⟩ := hat 5 (by omega)
  obtain ⟨e6, f6⟩ := hat 6 (by omega)
  obtain ⟨e7, f7⟩ := hat 7 (by omega)
  generalize us.getD 0 undef = u0 at e0
  generalize us.getD 1 undef = u1 at e1
  generalize us.getD 2 undef = u2 at e2
  generalize us.getD 3 undef = u3 at e3
  generalize us.getD 4 undef = u4 at e4
  generalize us.getD 5 undef = u5 at e5
  generalize us.getD 6 undef = u6 at e6
  generalize us.getD 7 undef = u7 at e7
  have e : (execOp a.eval ({ dst := d, op := .store 47 x y, type := ty, pos := ps, after := af, guard := none } : Oper)).run Tryz.prog w = (.ok .skip (putFrom w b 0 [.bool n1, .slice a1 k1 c1, .bool n2, .slice a2 k2 c2, .bool n3, .slice a3 k3 c3, .bool n4, .slice a4 k4 c4])) := by
    generalize a.eval = ρ at hx hy
    simp [execOp, go_sem, hx, hy, e0, f0, e1, f1, e2, f2, e3, f3, e4, f4, e5, f5, e6, f6, e7, f7, putFrom]
  have hwn : Region.wanted ({ dst := d, op := .store 47 x y, type := ty, pos := ps, after := af, guard := none } : Oper) (yielded ops a.tmps) = true := rfl
  rw [if_pos hwn]
  unfold Oper.wp
  rw [e]
  exact hK _ _ h

theorem q_storeNewIvl {n0 : Nb} {x y : Operand} (hp : p.Ok B B0) (hi : n0 ∈ p.new) (hki : n0.k = i) (hsl : n0.s = none) (hm : n0.m = 8) (hx : ∀ L vs w, p.G B B0 w0 L vs w → (∀ e ∈ af, Region.binds .any e = true → L e.on = true) → L n0.i = true ∧ (lay os.toArray L vs os.toArray.size a).eval x = vs n0.i) (hy : SrcQ os a p B B0 w0 af y (IvlV n0.F1))
    (hC : ∀ v w', (p.c i).P v w') (h1 : ∀ o ∈ p.old, o.k ≠ i) (h2 : ∀ n ∈ p.new, n.i ≠ i) : StepQ os Q a p B B0 w0 i { dst := none, op := .store 47 x y, type := ty, pos := ps, after := af, guard := none } := by
  subst hki
  intro hio L vs w hG hL hd hc
  obtain ⟨hLi, hxe⟩ := hx L vs w hG hd
  obtain ⟨n1, a1, k1, c1, n2, a2, k2, c2, n3, a3, k3, c3, n4, a4, k4, c4, e, hP⟩ := hy L vs w hG hd
  obtain ⟨b, e1', e2, us, g1, g2, g3, g4, g5⟩ := hG.new _ hi hLi
  have e1 : vs n0.i = .pointer (some ⟨b, 0, none⟩) := by rw [e1']; unfold Nb.ptr; rw [hsl]
  rw [e] at hP
  exact op_storeIvl hio (hxe.trans e1) e g3 (by omega) ⟨undef, rfl, hG.storeNew hp hi hLi (us := [.bool n1, .slice a1 k1 c1, .bool n2, .slice a2 k2 c2, .bool n3, .slice a3 k3 c3, .bool n4, .slice a4 k4 c4]) hm.symm (tame_ivl _ _ _ _ _ _ _ _ _ _ _ _ _ _ _ _) hP hC h1 h2 e1' _⟩

theorem q_storeOldIvl {o0 : Ob} {x y : Operand} (hp : p.Ok B B0) (hi : o0 ∈ p.old) (hki : o0.k = i) (hm : o0.m = 8) (hx : SrcQ os a p B B0 w0 af x fun u _ => u = .pointer (some ⟨o0.b, 0, none⟩)) (hy : SrcQ os a p B B0 w0 af y (IvlV o0.F1))
    (hC : ∀ v w', (p.c i).P v w') (h2 : ∀ n ∈ p.new, n.i ≠ i ∧ n.k ≠ i) : StepQ os Q a p B B0 w0 i { dst := none, op := .store 47 x y, type := ty, pos := ps, after := af, guard := none } := by
  subst hki
  intro hio L vs w hG hL hd hc
  obtain ⟨n1, a1, k1, c1, n2, a2, k2, c2, n3, a3, k3, c3, n4, a4, k4, c4, e, hP⟩ := hy L vs w hG hd
  obtain ⟨us, g1, g2, g3, g4, g5⟩ := hG.old _ hi
  rw [e] at hP
  exact op_storeIvl hio (hx L vs w hG hd) e g3 (by omega) ⟨undef, rfl, hG.storeOld hp hi (us := [.bool n1, .slice a1 k1 c1, .bool n2, .slice a2 k2 c2, .bool n3, .slice a3 k3 c3, .bool n4, .slice a4 k4 c4]) hm.symm (tame_ivl _ _ _ _ _ _ _ _ _ _ _ _ _ _ _ _) hP hC h2 _⟩

theorem q_buildRats1 {n0 : Nb} {x : Operand} {n1 d1 : Int} (hp : p.Ok B B0) (hi : n0 ∈ p.new) (hii : n0.i = i) (hki : n0.k = i) (hsl : n0.s = some 1) (hm : n0.m = 4) (hF1 : n0.F1 = Fq.rats [(n1, d1)])
    (hx : SrcQ os a p B B0 w0 af x fun v w => Pair w v n1 d1)
    (hC : ∀ v w', (p.c i).P v w') (h1 : ∀ o ∈ p.old, o.k ≠ i) (h2 : ∀ n ∈ p.new, n.i ≠ i → n.k ≠ i) :
    StepQ os Q a p B B0 w0 i { dst := d, op := .buildSlice 74 1 #[(0, x)], type := ty, pos := ps, after := af, guard := none } := by
  intro hio L vs w hG hL hd hc
  have p1 := hx L vs w hG hd
  obtain ⟨m1, a1, k1, c1, m1', a1', k1', c1', e1, _⟩ := ratV_pair p1
  rw [e1] at p1
  obtain ⟨us, hus⟩ : ∃ us : List Value, us = [.bool m1, .slice a1 k1 c1, .bool m1', .slice a1' k1' c1'] := ⟨_, rfl⟩
  have hwn : Region.wanted ({ dst := d, op := .buildSlice 74 1 #[(0, x)], type := ty, pos := ps, after := af, guard := none } : Oper) (yielded os.toArray (lay os.toArray L vs os.toArray.size a).tmps) = true := rfl
  refine wpOp_step hio fun K' hK => ?_
  rw [if_pos hwn]
  have e : (execOp (lay os.toArray L vs os.toArray.size a).eval ({ dst := d, op := .buildSlice 74 1 #[(0, x)], type := ty, pos := ps, after := af, guard := none } : Oper)).run Tryz.prog w = .ok (.value (.slice (some ⟨w.heap.size, 0, none⟩) 1 1)) (w.alloc (.cells us.toArray 31)) := by
    generalize (lay os.toArray L vs os.toArray.size a).eval = ρ at e1
    simp [execOp, go_sem, e1, hus]
  unfold Oper.wp
  rw [e]
  have hb := alloc_below w (.cells us.toArray 31)
  subst hii
  have hnow : n0.now (up L n0.i true) = n0.F1 := by
    unfold Nb.now
    rw [hsl]
    rfl
  have hlay := hG.lay hp hi (F := n0.F1) hnow hC h1 h2 31 (us := us) (by rw [hus, hm]; rfl) (by omega) (by
      rw [hus]
      intro u hu q e
      simp at hu
      rcases hu with rfl | rfl | rfl | rfl <;> cases e) (by
      rw [hF1]
      refine ⟨us, rfl, by rw [hus]; rfl, fun k n d hk => ?_⟩
      match k, hk with
      | 0, hk => injection hk with hk; injection hk with q1 q2; subst q1; subst q2; have hm := p1.mono hb; rw [hus] at hm; rw [hus]; exact hm
      | k + 1, hk => simp at hk)
  have hptr : n0.ptr w.heap.size = .slice (some ⟨w.heap.size, 0, none⟩) 1 1 := by unfold Nb.ptr; rw [hsl]
  rw [hptr] at hlay
  exact hK _ _ ⟨_, rfl, hlay⟩

theorem q_buildRats2 {n0 : Nb} {x y : Operand} {n1 d1 n2 d2 : Int} (hp : p.Ok B B0) (hi : n0 ∈ p.new) (hii : n0.i = i) (hki : n0.k = i) (hsl : n0.s = some 2) (hm : n0.m = 8) (hF1 : n0.F1 = Fq.rats [(n1, d1), (n2, d2)])
    (hx : SrcQ os a p B B0 w0 af x fun v w => Pair w v n1 d1) (hy : SrcQ os a p B B0 w0 af y fun v w => Pair w v n2 d2)
    (hC : ∀ v w', (p.c i).P v w') (h1 : ∀ o ∈ p.old, o.k ≠ i) (h2 : ∀ n ∈ p.new, n.i ≠ i → n.k ≠ i) :
    StepQ os Q a p B B0 w0 i { dst := d, op := .buildSlice 74 2 #[(0, x), (1, y)], type := ty, pos := ps, after := af, guard := none } := by
  intro hio L vs w hG hL hd hc
  have p1 := hx L vs w hG hd
  obtain ⟨m1, a1, k1, c1, m1', a1', k1', c1', e1, _⟩ := ratV_pair p1
  rw [e1] at p1
  have p2 := hy L vs w hG hd
  obtain ⟨m2, a2, k2, c2, m2', a2', k2', c2', e2, _⟩ := ratV_pair p2
  rw [e2] at p2
  obtain ⟨us, hus⟩ : ∃ us : List Value, us = [.bool m1, .slice a1 k1 c1, .bool m1', .slice a1' k1' c1', .bool m2, .slice a2 k2 c2, .bool m2', .slice a2' k2' c2'] := ⟨_, rfl⟩
  have hwn : Region.wanted ({ dst := d, op := .buildSlice 74 2 #[(0, x), (1, y)], type := ty, pos := ps, after := af, guard := none } : Oper) (yielded os.toArray (lay os.toArray L vs os.toArray.size a).tmps) = true := rfl
  refine wpOp_step hio fun K' hK => ?_
  rw [if_pos hwn]
  have e : (execOp (lay os.toArray L vs os.toArray.size a).eval ({ dst := d, op := .buildSlice 74 2 #[(0, x), (1, y)], type := ty, pos := ps, after := af, guard := none } : Oper)).run Tryz.prog w = .ok (.value (.slice (some ⟨w.heap.size, 0, none⟩) 2 2)) (w.alloc (.cells us.toArray 31)) := by
    generalize (lay os.toArray L vs os.toArray.size a).eval = ρ at e1 e2
    simp [execOp, go_sem, e1, e2, hus]
  unfold Oper.wp
  rw [e]
  have hb := alloc_below w (.cells us.toArray 31)
  subst hii
  have hnow : n0.now (up L n0.i true) = n0.F1 := by
    unfold Nb.now
    rw [hsl]
    rfl
  have hlay := hG.lay hp hi (F := n0.F1) hnow hC h1 h2 31 (us := us) (by rw [hus, hm]; rfl) (by omega) (by
      rw [hus]
      intro u hu q e
      simp at hu
      rcases hu with rfl | rfl | rfl | rfl | rfl | rfl | rfl | rfl <;> cases e) (by
      rw [hF1]
      refine ⟨us, rfl, by rw [hus]; rfl, fun k n d hk => ?_⟩
      match k, hk with
      | 0, hk => injection hk with hk; injection hk with q1 q2; subst q1; subst q2; have hm := p1.mono hb; rw [hus] at hm; rw [hus]; exact hm
      | 1, hk => injection hk with hk; injection hk with q1 q2; subst q1; subst q2; have hm := p2.mono hb; rw [hus] at hm; rw [hus]; exact hm
      | k + 2, hk => simp at hk)
  have hptr : n0.ptr w.heap.size = .slice (some ⟨w.heap.size, 0, none⟩) 2 2 := by unfold Nb.ptr; rw [hsl]
  rw [hptr] at hlay
  exact hK _ _ ⟨_, rfl, hlay⟩

/-- A slice of a box from before is passed on. -/
theorem q_callSl {o : Ob} {x : Operand} {u : Value} {f : FuncId} {ts : Array TypeId} (hp : p.Ok B B0) (hF : p.Free i) (hg : GdQ os a p B B0 w0 af gd) (hen : ∀ args w, (callFunc f args).run Tryz.prog w = .ok (.enter f args) w) (ho : o ∈ p.old) (hk : o.F1 = o.F0)
    (hx : SrcQ os a p B B0 w0 af x fun v _ => v = u) (hC : ∀ w, Bq w o.b o.m o.F0 → Calls Tryz.prog f #[u] w fun e w' => ∃ v', e = .returned v' ∧ Below w.heap.size w w' ∧ (p.c i).P v' w') :
    StepQ os Q a p B B0 w0 i { dst := d, op := .call { callee := .value (.func f), args := #[x], argTypes := ts }, type := ty, pos := ps, after := af, guard := gd } :=
  stq_call hp hF hg hen fun L vs w hG hd => ⟨#[(lay os.toArray L vs os.toArray.size a).eval x], by simp, by
    have hb := hG.old o ho
    rw [hk] at hb
    rw [hx L vs w hG hd]
    exact hC w (by simpa using hb)⟩

/-- A slice of the region is passed on behind another value. -/
theorem q_callPSl {n0 : Nb} {x y : Operand} {l : Nat} {F : Value → World → Prop} {f : FuncId} {ts : Array TypeId} (hp : p.Ok B B0) (hF : p.Free i) (hg : GdQ os a p B B0 w0 af gd) (hen : ∀ args w, (callFunc f args).run Tryz.prog w = .ok (.enter f args) w) (hi : n0 ∈ p.new) (hsl : n0.s = some l)
    (hx : SrcQ os a p B B0 w0 af x F) (hy : ∀ L vs w, p.G B B0 w0 L vs w → (∀ e ∈ af, Region.binds .any e = true → L e.on = true) → L n0.i = true ∧ (lay os.toArray L vs os.toArray.size a).eval y = vs n0.i)
    (hC : ∀ v b w, F v w → Bq w b n0.m n0.F1 → Calls Tryz.prog f #[v, .slice (some ⟨b, 0, none⟩) l l] w fun e w' => ∃ v', e = .returned v' ∧ Below w.heap.size w w' ∧ (p.c i).P v' w') :
    StepQ os Q a p B B0 w0 i { dst := d, op := .call { callee := .value (.func f), args := #[x, y], argTypes := ts }, type := ty, pos := ps, after := af, guard := gd } :=
  stq_call hp hF hg hen fun L vs w hG hd => by
    obtain ⟨hLi, hye⟩ := hy L vs w hG hd
    obtain ⟨b, e1, _, hb⟩ := hG.new _ hi hLi
    have hptr : n0.ptr b = .slice (some ⟨b, 0, none⟩) l l := by unfold Nb.ptr; rw [hsl]
    have hnow : n0.now L = n0.F1 := by
      unfold Nb.now
      rw [hsl]
      rfl
    rw [hnow] at hb
    refine ⟨#[(lay os.toArray L vs os.toArray.size a).eval x, .slice (some ⟨b, 0, none⟩) l l], ?_, hC _ b w (hx L vs w hG hd) hb⟩
    have hm : #[x, y].map (lay os.toArray L vs os.toArray.size a).eval = #[(lay os.toArray L vs os.toArray.size a).eval x, (lay os.toArray L vs os.toArray.size a).eval y] := by
      generalize (lay os.toArray L vs os.toArray.size a).eval = ρ
      simp
    rw [hm, hye, e1, hptr]

/-- A fraction out of a box that was there before the call. -/
theorem q_loadRatOut {b m off : Nat} {F : Fq} {x : Operand} (hp : p.Ok B B0) (hF : p.Free i) (hg : GdQ os a p B B0 w0 af gd) (hb : Bq w0 b m F) (hB : B = w0.heap.size) (hoff : off + 4 ≤ m)
    (hx : SrcQ os a p B B0 w0 af x fun u _ => u = .pointer (some ⟨b, off, none⟩)) (hC : ∀ (us : List Value) (w : World), us.length = m → F.P (.agg us.toArray) w → (p.c i).P (.agg #[us.getD off undef, us.getD (off + 1) undef, us.getD (off + 2) undef, us.getD (off + 3) undef]) w) :
    StepQ os Q a p B B0 w0 i { dst := d, op := .load 31 x, type := ty, pos := ps, after := af, guard := gd } := by
  subst hB
  refine stq_val hp hF hg fun L vs w hG hL hc hd => ?_
  obtain ⟨us, hl, h0, hat, ht, hP⟩ := hb.mono hG.below
  have e := hx L vs w hG hd
  have c0 := (hat off (by omega)).1
  have c1 := (hat (off + 1) (by omega)).1
  have c2 := (hat (off + 2) (by omega)).1
  have c3 := (hat (off + 3) (by omega)).1
  refine ⟨_, ?_, hC us w hl hP⟩
  generalize (lay os.toArray L vs os.toArray.size a).eval = ρ at e
  generalize us.getD off undef = u0 at c0 ⊢
  generalize us.getD (off + 1) undef = u1 at c1 ⊢
  generalize us.getD (off + 2) undef = u2 at c2 ⊢
  generalize us.getD (off + 3) undef = u3 at c3 ⊢
  simp [execOp, go_sem, e, c0, c1, c2, c3]

/-- The length of a number's words: 0 for the number 0. -/
theorem q_loadMag0 {o : Ob} {off : Nat} {x : Operand} (hp : p.Ok B B0) (hF : p.Free i) (hg : GdQ os a p B B0 w0 af gd) (ho : o ∈ p.old) (hk : o.F1 = o.F0 ∨ leadsB os 9 o.k i = true) (hoff : off + 1 ≤ o.m)
    (hx : SrcQ os a p B B0 w0 af x fun u _ => u = .pointer (some ⟨o.b, off, none⟩)) (hC : ∀ (us : List Value) (w : World), us.length = o.m → o.F0.P (.agg us.toArray) w → ∃ ad c, us.getD off undef = .slice ad 0 c ∧ (p.c i).P (.slice ad 0 c) w) :
    StepQ os Q a p B B0 w0 i { dst := d, op := .load 22 x, type := ty, pos := ps, after := af, guard := gd } := by
  refine stq_val hp hF hg fun L vs w hG hL hc hd => ?_
  obtain ⟨us, hl, h0, hat, ht, hP⟩ := box_now ho hk hG hL hc
  have e := hx L vs w hG hd
  have c0 := (hat off (by omega)).1
  obtain ⟨ad, c, e2, hP2⟩ := hC us w hl hP
  refine ⟨_, ?_, hP2⟩
  rw [e2] at c0
  generalize (lay os.toArray L vs os.toArray.size a).eval = ρ at e
  simp [execOp, go_sem, e, c0]
end

end Go.Proofs.YtoimphnhmpmipaaGreat

/- Walks: a fraction copied. -/
namespace Go.Proofs.YtoimphnhmpmipaaGreat
open Go Go.RowKit

set_option maxRecDepth 100000 in
set_option maxHeartbeats 1000000 in
theorem exClone (w : World) (ao : Option Addr) (k c : Nat) (xs : List Int) (hS : Sl w ao k c xs) (hk : k ≤ 900000) : Calls Tryz.prog 112 #[.slice ao k c] w fun e w' => ∃ ao' c', e = .returned (.slice ao' k c') ∧ Below w.heap.size w w' ∧ Sl w' ao' k c' xs := by
  have hk' : k ≤ 1000000 := by omega
  have hx := run_eql_slice_nil (P := Tryz.prog) w 22 79 ao k c Tryz.underlying22
  cases ao with
  | none =>
    have h0 : k = 0 ∧ xs = [] := by
      have h1 := hS.len
      rcases hS with ⟨_, _, _, h | ⟨b, off, h, _⟩⟩
      · rw [h] at h1
        exact ⟨by simpa using h1.symm, h⟩
      · cases h
    obtain ⟨rfl, rfl⟩ := h0
    simp only [Option.isNone_none] at hx
    go_enter Tryz.func112, Tryz.ntmps112
    go_wp2
    go_ret
    exact ⟨none, 0, rfl, Below.refl _ _, Sl.nil w⟩
  | some a =>
    simp only [Option.isNone_some] at hx
    go_enter Tryz.func112, Tryz.ntmps112
    go_wp2_with (at_builtin; refine wpList_copy_arg _ rfl _ _ rfl _ (some a) k c xs rfl rfl (hS.mono (alloc_below _ _)) hk' ?_; intro ar cr w1 hb1 hS1 hM1)
    have hb := (alloc_below w (.cells #[] 79)).trans (hb1.mono (alloc_below w (.cells #[] 79)).size)
    go_wp2
    go_ret
    exact ⟨ar, cr, rfl, hb, hS1⟩

end Go.Proofs.YtoimphnhmpmipaaGreat

/- Arrays of descriptions; the least and the greatest of fractions. -/
namespace Go.Proofs.YtoimphnhmpmipaaGreat
open Go Go.RowKit

/-- Four signs and words. -/
def Fq.raws2 (n1 : Bool) (a1 : Option Addr) (k1 c1 : Nat) (xs1 : List Int) (n2 : Bool) (a2 : Option Addr) (k2 c2 : Nat) (xs2 : List Int) (n3 : Bool) (a3 : Option Addr) (k3 c3 : Nat) (xs3 : List Int) (n4 : Bool) (a4 : Option Addr) (k4 c4 : Nat) (xs4 : List Int) : Fq :=
  ⟨fun v w => v = .agg #[.bool n1, .slice a1 k1 c1, .bool n2, .slice a2 k2 c2, .bool n3, .slice a3 k3 c3, .bool n4, .slice a4 k4 c4] ∧ Sl w a1 k1 c1 xs1 ∧ Sl w a2 k2 c2 xs2 ∧ Sl w a3 k3 c3 xs3 ∧ Sl w a4 k4 c4 xs4,
    fun h hb => ⟨h.1, h.2.1.mono hb, h.2.2.1.mono hb, h.2.2.2.1.mono hb, h.2.2.2.2.mono hb⟩, fun h ha ht hl => ⟨h.1, h.2.1.putAt ha ht hl, h.2.2.1.putAt ha ht hl, h.2.2.2.1.putAt ha ht hl, h.2.2.2.2.putAt ha ht hl⟩⟩
/-- A slice without words. -/
def Fq.mag0 : Fq := Fq.pre fun v => ∃ ad c, v = .slice ad 0 c
section
variable {n1 n2 n3 n4 : Bool} {a1 a2 a3 a4 : Option Addr} {k1 c1 k2 c2 k3 c3 k4 c4 : Nat} {xs1 xs2 xs3 xs4 : List Int}
theorem ld_raws0 {us : List Value} {w : World} (hl : us.length = 8) (h : (Fq.raws2 n1 a1 k1 c1 xs1 n2 a2 k2 c2 xs2 n3 a3 k3 c3 xs3 n4 a4 k4 c4 xs4).P (.agg us.toArray) w) : (Fq.raw2 n1 a1 k1 c1 xs1 n2 a2 k2 c2 xs2).P (.agg #[us.getD 0 undef, us.getD (0 + 1) undef, us.getD (0 + 2) undef, us.getD (0 + 3) undef]) w := by
  match us, hl with
  | [u0, u1, u2, u3, u4, u5, u6, u7], _ =>
    obtain ⟨e, h1, h2, h3, h4⟩ := h
    injection e with e
    have e2 := congrArg Array.toList e
    simp at e2
    obtain ⟨rfl, rfl, rfl, rfl, rfl, rfl, rfl, rfl⟩ := e2
    exact ⟨rfl, h1, h2⟩
theorem ld_raws1 {us : List Value} {w : World} (hl : us.length = 8) (h : (Fq.raws2 n1 a1 k1 c1 xs1 n2 a2 k2 c2 xs2 n3 a3 k3 c3 xs3 n4 a4 k4 c4 xs4).P (.agg us.toArray) w) : (Fq.raw2 n3 a3 k3 c3 xs3 n4 a4 k4 c4 xs4).P (.agg #[us.getD 4 undef, us.getD (4 + 1) undef, us.getD (4 + 2) undef, us.getD (4 + 3) undef]) w := by
  match us, hl with
  | [u0, u1, u2, u3, u4, u5, u6, u7], _ =>
    obtain ⟨e, h1, h2, h3, h4⟩ := h
    injection e with e
    have e2 := congrArg Array.toList e
    simp at e2
    obtain ⟨rfl, rfl, rfl, rfl, rfl, rfl, rfl, rfl⟩ := e2
    exact ⟨rfl, h3, h4⟩
end
theorem num0_slice {w : World} {p q : Value} (h : Num w (.agg #[p, q]) 0) : ∃ ad c, q = .slice ad 0 c := by
  obtain ⟨n, ao, k, c, e⟩ := h.parts
  have e2 := congrArg (fun v => match v with | Value.agg us => us.toList | _ => []) e
  simp at e2
  obtain ⟨rfl, rfl⟩ := e2
  have h0 := h.len_zero.1.2 rfl
  subst h0
  exact ⟨ao, c, rfl⟩
theorem ld_mag3 {us : List Value} {w : World} (hl : us.length = 8) (h : (Fq.ivl 0 0 0 0).P (.agg us.toArray) w) : ∃ ad c, us.getD 3 undef = .slice ad 0 c ∧ Fq.mag0.P (.slice ad 0 c) w := by
  match us, hl with
  | [u0, u1, u2, u3, u4, u5, u6, u7], _ =>
    obtain ⟨p, q, r, s, p', q', r', s', e, ⟨_, _, _, _, g1, _, h2⟩, _⟩ := h
    injection e with e
    have e2 := congrArg Array.toList e
    simp at e2
    obtain ⟨rfl, rfl, rfl, rfl, rfl, rfl, rfl, rfl⟩ := e2
    obtain ⟨rfl, rfl, rfl, rfl⟩ := agg4 g1
    obtain ⟨ad, c, e3⟩ := num0_slice h2
    exact ⟨ad, c, e3, ad, c, rfl⟩
theorem ld_mag7 {us : List Value} {w : World} (hl : us.length = 8) (h : (Fq.ivl 0 0 0 0).P (.agg us.toArray) w) : ∃ ad c, us.getD 7 undef = .slice ad 0 c ∧ Fq.mag0.P (.slice ad 0 c) w := by
  match us, hl with
  | [u0, u1, u2, u3, u4, u5, u6, u7], _ =>
    obtain ⟨p, q, r, s, p', q', r', s', e, _, ⟨_, _, _, _, g1, _, h2⟩⟩ := h
    injection e with e
    have e2 := congrArg Array.toList e
    simp at e2
    obtain ⟨rfl, rfl, rfl, rfl, rfl, rfl, rfl, rfl⟩ := e2
    obtain ⟨rfl, rfl, rfl, rfl⟩ := agg4 g1
    obtain ⟨ad, c, e3⟩ := num0_slice h2
    exact ⟨ad, c, e3, ad, c, rfl⟩

section
variable {os : List Oper} {Q : Exit → Act → World → Prop} {a : Act} {p : Pq} {B B0 : Nat} {w0 : World}
variable {i s : Nat} {d : Option Tmp} {ty : TypeId} {ps : String} {af : Array Edge} {gd : Option (Nat × Bool)}
theorem q_loadRaw2At {o : Ob} {off : Nat} {x : Operand} (hp : p.Ok B B0) (hF : p.Free i) (hg : GdQ os a p B B0 w0 af gd) (ho : o ∈ p.old) (hk : o.F1 = o.F0 ∨ leadsB os 9 o.k i = true) (hoff : off + 4 ≤ o.m)
    (hx : SrcQ os a p B B0 w0 af x fun u _ => u = .pointer (some ⟨o.b, off, none⟩)) (hC : ∀ (us : List Value) (w : World), us.length = o.m → o.F0.P (.agg us.toArray) w → (p.c i).P (.agg #[us.getD off undef, us.getD (off + 1) undef, us.getD (off + 2) undef, us.getD (off + 3) undef]) w) :
    StepQ os Q a p B B0 w0 i { dst := d, op := .load 26 x, type := ty, pos := ps, after := af, guard := gd } := by
  refine stq_val hp hF hg fun L vs w hG hL hc hd => ?_
  obtain ⟨us, hl, h0, hat, ht, hP⟩ := box_now ho hk hG hL hc
  have e := hx L vs w hG hd
  have c0 := (hat off (by omega)).1
  have c1 := (hat (off + 1) (by omega)).1
  have c2 := (hat (off + 2) (by omega)).1
  have c3 := (hat (off + 3) (by omega)).1
  refine ⟨_, ?_, hC us w hl hP⟩
  generalize (lay os.toArray L vs os.toArray.size a).eval = ρ at e
  generalize us.getD off undef = u0 at c0 ⊢
  generalize us.getD (off + 1) undef = u1 at c1 ⊢
  generalize us.getD (off + 2) undef = u2 at c2 ⊢
  generalize us.getD (off + 3) undef = u3 at c3 ⊢
  simp [execOp, go_sem, e, c0, c1, c2, c3]
theorem q_lenMag0 {x : Operand} (hp : p.Ok B B0) (hF : p.Free i) (hg : GdQ os a p B B0 w0 af gd) (hx : SrcQ os a p B B0 w0 af x Fq.mag0.P) (hC : ∀ w, (p.c i).P (.int .i64 0) w) :
    StepQ os Q a p B B0 w0 i { dst := d, op := .call { callee := .builtin .len, args := #[x], argTypes := #[22] }, type := ty, pos := ps, after := af, guard := gd } :=
  q_one hp hF hg hx fun ρ w _ h => ⟨.int .i64 0, by obtain ⟨ad, c, h⟩ := h; simp [go_sem, h], hC w⟩
end

/-- The least and the greatest of some fractions. -/
def leastQ (a : Rat) (l : List Rat) : Rat := l.foldl (fun m q => if q < m then q else m) a
def greatQ (a : Rat) (l : List Rat) : Rat := l.foldl (fun m q => if m < q then q else m) a
def prQ (q : Rat) : Int × Int := (q.num, (q.den : Int))

theorem least_mem (l : List Rat) : ∀ a, leastQ a l = a ∨ leastQ a l ∈ l := by
  induction l with
  | nil => intro a; exact .inl rfl
  | cons q r ih =>
    intro a
    show leastQ (if q < a then q else a) r = a ∨ leastQ (if q < a then q else a) r ∈ q :: r
    rcases ih (if q < a then q else a) with h | h
    · rw [h]
      split
      · exact .inr (by simp)
      · exact .inl rfl
    · exact .inr (List.mem_cons_of_mem _ h)
theorem great_mem (l : List Rat) : ∀ a, greatQ a l = a ∨ greatQ a l ∈ l := by
  induction l with
  | nil => intro a; exact .inl rfl
  | cons q r ih =>
    intro a
    show greatQ (if a < q then q else a) r = a ∨ greatQ (if a < q then q else a) r ∈ q :: r
    rcases ih (if a < q then q else a) with h | h
    · rw [h]
      split
      · exact .inr (by simp)
      · exact .inl rfl
    · exact .inr (List.mem_cons_of_mem _ h)
theorem least_le (l : List Rat) : ∀ a, leastQ a l ≤ a ∧ ∀ q ∈ l, leastQ a l ≤ q := by
  induction l with
  | nil => intro a; exact ⟨Rat.le_refl, fun _ h => by simp at h⟩
  | cons q r ih =>
    intro a
    show leastQ (if q < a then q else a) r ≤ a ∧ ∀ x ∈ q :: r, leastQ (if q < a then q else a) r ≤ x
    obtain ⟨h1, h2⟩ := ih (if q < a then q else a)
    have h3 : (if q < a then q else a) ≤ a ∧ (if q < a then q else a) ≤ q := by
      split
      · rename_i h; exact ⟨Rat.le_of_lt h, Rat.le_refl⟩
      · rename_i h; exact ⟨Rat.le_refl, Rat.not_lt.1 h⟩
    refine ⟨Rat.le_trans h1 h3.1, fun x hx => ?_⟩
    rcases List.mem_cons.1 hx with rfl | hx
    · exact Rat.le_trans h1 h3.2
    · exact h2 x hx
theorem le_great (l : List Rat) : ∀ a, a ≤ greatQ a l ∧ ∀ q ∈ l, q ≤ greatQ a l := by
  induction l with
  | nil => intro a; exact ⟨Rat.le_refl, fun _ h => by simp at h⟩
  | cons q r ih =>
    intro a
    show a ≤ greatQ (if a < q then q else a) r ∧ ∀ x ∈ q :: r, x ≤ greatQ (if a < q then q else a) r
    obtain ⟨h1, h2⟩ := ih (if a < q then q else a)
    have h3 : a ≤ (if a < q then q else a) ∧ q ≤ (if a < q then q else a) := by
      split
      · rename_i h; exact ⟨Rat.le_of_lt h, Rat.le_refl⟩
      · rename_i h; exact ⟨Rat.le_refl, Rat.not_lt.1 h⟩
    refine ⟨Rat.le_trans h3.1 h1, fun x hx => ?_⟩
    rcases List.mem_cons.1 hx with rfl | hx
    · exact Rat.le_trans h3.2 h1
    · exact h2 x hx
theorem least_snoc (a : Rat) (l : List Rat) (q : Rat) : leastQ a (l ++ [q]) = if q < leastQ a l then q else leastQ a l := by unfold leastQ; rw [List.foldl_append]; rfl
theorem great_snoc (a : Rat) (l : List Rat) (q : Rat) : greatQ a (l ++ [q]) = if greatQ a l < q then q else greatQ a l := by unfold greatQ; rw [List.foldl_append]; rfl
theorem rb_least {a : Rat} {l : List Rat} {k : Nat} (ha : Rb a k) (hl : ∀ q ∈ l, Rb q k) : Rb (leastQ a l) k := by
  rcases least_mem l a with h | h
  · rw [h]; exact ha
  · exact hl _ h
theorem rb_great {a : Rat} {l : List Rat} {k : Nat} (ha : Rb a k) (hl : ∀ q ∈ l, Rb q k) : Rb (greatQ a l) k := by
  rcases great_mem l a with h | h
  · rw [h]; exact ha
  · exact hl _ h
theorem at_map {l : List Rat} {k : Nat} (h : k < l.length) : ∃ q, l[k]? = some q ∧ (l.map prQ)[k]? = some (q.num, (q.den : Int)) ∧ q ∈ l :=
  ⟨l[k], by simp [h], by simp [h, prQ], List.getElem_mem h⟩
theorem take_snoc {l : List Rat} {k : Nat} {q : Rat} (h : l[k]? = some q) : l.take (k + 1) = l.take k ++ [q] := by
  rw [List.take_add_one, h]
  rfl

theorem setCell_same {w : World} {a : Addr} {v : Value} (h : w.cell? a = some v) : w.setCell a v = w := by
  have e : (w.setCell a v).heap = w.heap := by
    unfold World.cell? at h
    unfold World.setCell
    apply Array.ext
    · simp
    · intro j h1 h2
      simp only [Array.getElem_modify]
      split
      · rename_i hj
        subst hj
        rw [Array.getElem?_eq_getElem h2] at h
        cases hc : w.heap[a.block] with
        | cells c el fr =>
          rw [hc] at h
          simp only at h
          split at h
          · cases h
          · rename_i hs
            simp only [hs, Bool.false_eq_true, if_false]
            congr 1
            apply Array.ext
            · simp
            · intro k g1 g2
              rw [Array.getElem_setIfInBounds]
              split
              · rename_i hk
                subst hk
                rw [Array.getElem?_eq_getElem g2] at h
                exact (Option.some.inj h).symm
              · rfl
        | _ => rfl
      · rfl
  have e2 : w.setCell a v = { w with heap := (w.setCell a v).heap } := rfl
  rw [e2, e]

/-- One cell of a box is stored to. -/
theorem cell_put1 {w : World} {b : Nat} {u0 u1 u2 u3 : Value} (h : At w b [u0, u1, u2, u3]) (x : Value) : w.setCell ⟨b, 1, none⟩ x = putFrom w b 0 [u0, x, u2, u3] := by
  have c0 := (h 0 (by simp)).1
  have c2 := (h 2 (by simp)).1
  have c3 := (h 3 (by simp)).1
  simp at c0 c2 c3
  simp only [putFrom, Nat.zero_add, Nat.reduceAdd]
  rw [setCell_same c0]
  rw [setCell_same (a := ⟨b, 2, none⟩) (v := u2) (by rw [World.cell?_setCell_other _ _ _ _ (by intro e; injection e with e1 e2; omega)]; exact c2)]
  rw [setCell_same (a := ⟨b, 3, none⟩) (v := u3) (by rw [World.cell?_setCell_other _ _ _ _ (by intro e; injection e with e1 e2; omega)]; exact c3)]
theorem cell_put3 {w : World} {b : Nat} {u0 u1 u2 u3 : Value} (h : At w b [u0, u1, u2, u3]) (x : Value) : w.setCell ⟨b, 3, none⟩ x = putFrom w b 0 [u0, u1, u2, x] := by
  have c0 := (h 0 (by simp)).1
  have c1 := (h 1 (by simp)).1
  have c2 := (h 2 (by simp)).1
  simp at c0 c1 c2
  simp only [putFrom, Nat.zero_add, Nat.reduceAdd]
  rw [setCell_same c0, setCell_same c1, setCell_same c2]

theorem box_raw2 {w : World} {b : Nat} {n n' : Bool} {a a' : Option Addr} {k c k' c' : Nat} {xs xs' : List Int} (h : Bq w b 4 (Fq.raw2 n a k c xs n' a' k' c' xs')) : At w b [.bool n, .slice a k c, .bool n', .slice a' k' c'] ∧ Sl w a k c xs ∧ Sl w a' k' c' xs' := by
  obtain ⟨us, hl, _, hat, _, hP⟩ := h
  match us, hl, hat, hP with
  | [p, q, r, s], _, hat, hP =>
    obtain ⟨e, h1, h2⟩ := hP
    injection e with e
    have e2 := congrArg Array.toList e
    simp at e2
    obtain ⟨rfl, rfl, rfl, rfl⟩ := e2
    exact ⟨hat, h1, h2⟩
theorem Fr.swap {w0 W : World} {x y : Nat × Nat × Fq} {bs : List (Nat × Nat × Fq)} (h : Fr w0 (x :: y :: bs) W) : Fr w0 (y :: x :: bs) W := by
  refine ⟨h.below, fun z hz => h.boxes z ?_, ?_⟩
  · simp at hz ⊢
    rcases hz with h | h | h
    · exact .inr (.inl h)
    · exact .inl h
    · exact .inr (.inr h)
  · have := h.apart
    simp at this ⊢
    exact ⟨⟨fun e => this.1.1 e.symm, this.2.1⟩, this.1.2, this.2.2⟩

set_option maxRecDepth 100000 in
set_option maxHeartbeats 2000000 in
/-- A fraction copied. -/
theorem exCopied {w : World} {v : Value} {n d : Int} (h : Pair w v n d) : Calls Tryz.prog 99 #[v] w fun e w' => ∃ v', e = .returned v' ∧ Below w.heap.size w w' ∧ Pair w' v' n d := by
  obtain ⟨p, q, r, s, rfl, hN, hD⟩ := h
  obtain ⟨m1, a1, k1, c1, xs1, e1, hS1, hk1, hz1, hc1, hn1⟩ := hN
  obtain ⟨m2, a2, k2, c2, xs2, e2, hS2, hk2, hz2, hc2, hn2⟩ := hD
  have g1 := congrArg (fun v => match v with | Value.agg us => us.toList | _ => []) e1
  have g2 := congrArg (fun v => match v with | Value.agg us => us.toList | _ => []) e2
  simp at g1 g2
  obtain ⟨rfl, rfl⟩ := g1
  obtain ⟨rfl, rfl⟩ := g2
  clear e1 e2
  have HZ1 := hidd hz1
  have HZ2 := hidd hz2
  have HC1 := hidd hc1
  have HC2 := hidd hc2
  have HN1 := hidd hn1
  have HN2 := hidd hn2
  clear hz1 hz2 hc1 hc2 hn1 hn2
  obtain ⟨w1, b1, hw1, hb1, hs1, E⟩ := fr_start w (F := Fq.raw2 m1 a1 k1 c1 xs1 m2 a2 k2 c2 xs2) (us := [.bool m1, .slice a1 k1 c1, .bool m2, .slice a2 k2 c2]) 31 rfl (by simp) (tame_rat _ _ _ _ _ _ _ _) ⟨rfl, hS1, hS2⟩
  obtain ⟨w2, b2, hw2, hb2, hs2, E⟩ := fr_more E hs1 (F := Fq.pair 0 0) (us := [.bool false, .slice none 0 0, .bool false, .slice none 0 0]) 31 rfl (by simp) (tame_rat _ _ _ _ _ _ _ _) (Pair.zero _)
  clear hS1 hS2
  go_enter Tryz.func99, Tryz.ntmps99
  go_upto_region 1 with (fail)
  rw [← hw1]
  rw [← hw2]
  rw [← hb2]
  rw [← hb1]
  clear hw1 hw2 hb1 hb2 hs2 hs1
  replace E := E.swap
  obtain ⟨hat, hS, hS'⟩ := box_raw2 (E.box 0 rfl)
  have d1 := (hat 1 (by simp)).1
  simp at d1
  go_wp2_with fail
  refine (exClone _ _ _ _ _ hS hk1).mono ?_
  rintro e w3 ⟨a1', c1', rfl, hb, hT⟩
  replace E := E.mono hb
  clear d1 hb hat hS hS'
  obtain ⟨hat, hS, hS'⟩ := box_raw2 (E.box 0 rfl)
  obtain ⟨d1, f1⟩ := hat 1 (by simp)
  simp at d1
  go_upto_region 2 with (fail)
  rw [cell_put1 hat]
  replace E := E.put (us := [.bool m1, .slice a1' k1 c1', .bool m2, .slice a2 k2 c2]) (F' := Fq.raw2 m1 a1' k1 c1' xs1 m2 a2 k2 c2 xs2) rfl (tame_rat _ _ _ _ _ _ _ _) ⟨rfl, hT, hS'⟩
  generalize putFrom w3 b1 0 _ = w4 at E ⊢
  clear d1 f1 hat hS hS' hT
  obtain ⟨hat, hS, hS'⟩ := box_raw2 (E.box 0 rfl)
  have d3 := (hat 3 (by simp)).1
  simp at d3
  go_wp2_with fail
  refine (exClone _ _ _ _ _ hS' hk2).mono ?_
  rintro e w5 ⟨a2', c2', rfl, hb, hT⟩
  replace E := E.mono hb
  clear d3 hb hat hS hS'
  obtain ⟨hat, hS, hS'⟩ := box_raw2 (E.box 0 rfl)
  obtain ⟨d3, f3⟩ := hat 3 (by simp)
  simp at d3
  go_upto_region 3 with (fail)
  rw [cell_put3 hat]
  replace E := E.put (us := [.bool m1, .slice a1' k1 c1', .bool m2, .slice a2' k2 c2']) (F' := Fq.raw2 m1 a1' k1 c1' xs1 m2 a2' k2 c2' xs2) rfl (tame_rat _ _ _ _ _ _ _ _) ⟨rfl, hS, hT⟩
  generalize putFrom w5 b1 0 _ = w6 at E ⊢
  clear d3 f3 hat hS hS' hT
  refine region_fr (C := [Fq.raw2 m1 a1' k1 c1' xs1 m2 a2' k2 c2' xs2, Fq.any]) (ks := [none, some (1, Fq.raw2 m1 a1' k1 c1' xs1 m2 a2' k2 c2' xs2)]) (new := []) E rfl (by kernel_rfl) rfl rfl (fun hp => ⟨?_, ?_, trivial⟩) ?_
  · exact q_loadRat hp (free_of rfl) trivial (List.mem_iff_getElem?.2 ⟨0, rfl⟩) (.inl rfl) rfl (sq_out rfl rfl (fun _ _ => rfl)) (fun us w hl h => h)
  · exact q_storeOldRat hp (List.mem_iff_getElem?.2 ⟨1, rfl⟩) rfl rfl (sq_out rfl rfl (fun _ _ => rfl)) (sq_in 0 rfl rfl (by simp) rfl (fun v w h => ⟨_, _, _, _, _, _, _, _, h.1, h⟩)) (fun _ _ => trivial) (newik_ne rfl)
  intro L vs w7 nb hL hC hn E7
  have E : Fr w [(b1, 4, Fq.raw2 m1 a1' k1 c1' xs1 m2 a2' k2 c2' xs2), (b2, 4, Fq.raw2 m1 a1' k1 c1' xs1 m2 a2' k2 c2' xs2)] w7 := E7
  rw [lay_all hL]
  simp only [putAll, dstOf, List.length_cons, List.length_nil, Nat.zero_add, Nat.reduceAdd, List.getElem?_toArray, List.getElem?_cons_zero, List.getElem?_cons_succ, Option.bind_some, Act.put, List.setIfInBounds_toArray, List.set_cons_succ, List.set_cons_zero]
  generalize vs 0 = u7
  clear hC hn E7 hL vs L nb
  obtain ⟨hat, hS, hS'⟩ := box_raw2 (E.box 1 rfl)
  have c0 := (hat 0 (by simp)).1
  have c1 := (hat 1 (by simp)).1
  have c2 := (hat 2 (by simp)).1
  have c3 := (hat 3 (by simp)).1
  simp at c0 c1 c2 c3
  go_wp2
  refine bodyPost_ret (v := .agg #[.bool m1, .slice a1' k1 c1', .bool m2, .slice a2' k2 c2']) ?_ rfl ⟨_, rfl, E.below, _, _, _, _, rfl, ⟨_, _, _, _, _, rfl, hS, hk1, HZ1.out, HC1.out, HN1.out⟩, ⟨_, _, _, _, _, rfl, hS', hk2, HZ2.out, HC2.out, HN2.out⟩⟩
  simp [results, Tryz.results99, go_sem, c0, c1, c2, c3]

end Go.Proofs.YtoimphnhmpmipaaGreat

/- Walks: the least and the greatest of some fractions, in the code and in the reference. -/
namespace Go.Proofs.YtoimphnhmpmipaaGreat
open Go Go.RowKit

theorem enq_Q_hull (args : Array Value) (w : World) : (callFunc 73 args).run Tryz.prog w = .ok (.enter 73 args) w := enter_of Tryz.func73 (by kernel_rfl) rfl args w
theorem enq_Q_copied (args : Array Value) (w : World) : (callFunc 99 args).run Tryz.prog w = .ok (.enter 99 args) w := enter_of Tryz.func99 (by kernel_rfl) rfl args w
theorem enq_Q_Has (args : Array Value) (w : World) : (callFunc 39 args).run Tryz.prog w = .ok (.enter 39 args) w := enter_of Tryz.func39 (by kernel_rfl) rfl args w
theorem enq_Q_Meet (args : Array Value) (w : World) : (callFunc 40 args).run Tryz.prog w = .ok (.enter 40 args) w := enter_of Tryz.func40 (by kernel_rfl) rfl args w
theorem enq_Q_Inside (args : Array Value) (w : World) : (callFunc 41 args).run Tryz.prog w = .ok (.enter 41 args) w := enter_of Tryz.func41 (by kernel_rfl) rfl args w
theorem measJ {n k : Nat} (h : k + 1 < n) : n - (intOf (.int .i64 ((k : Int) + 1 + 1))).toNat < n - (intOf (.int .i64 ((k : Int) + 1))).toNat := by simp [intOf]; omega
theorem measI {n k : Nat} (h : k < n) : n - (intOf (.int .i64 ((k : Int) + 1))).toNat < n - (intOf (.int .i64 (k : Int))).toNat := by simp [intOf]; omega

theorem box_ivl {w : World} {b : Nat} {n1 d1 n2 d2 : Int} (h : Bq w b 8 (Fq.ivl n1 d1 n2 d2)) : ∃ p q r s p' q' r' s', w.cell? ⟨b, 0, none⟩ = some p ∧ w.cell? ⟨b, 1, none⟩ = some q ∧ w.cell? ⟨b, 2, none⟩ = some r ∧ w.cell? ⟨b, 3, none⟩ = some s ∧ w.cell? ⟨b, 4, none⟩ = some p' ∧ w.cell? ⟨b, 5, none⟩ = some q' ∧ w.cell? ⟨b, 6, none⟩ = some r' ∧ w.cell? ⟨b, 7, none⟩ = some s' ∧ Ivl w (.agg #[p, q, r, s, p', q', r', s']) n1 d1 n2 d2 := by
  obtain ⟨us, hl, _, hat, _, hP⟩ := h
  match us, hl, hat with
  | [p, q, r, s, p', q', r', s'], _, hat => exact ⟨p, q, r, s, p', q', r', s', (hat 0 (by simp)).1, (hat 1 (by simp)).1, (hat 2 (by simp)).1, (hat 3 (by simp)).1, (hat 4 (by simp)).1, (hat 5 (by simp)).1, (hat 6 (by simp)).1, (hat 7 (by simp)).1, hP⟩

set_option maxRecDepth 100000 in
set_option maxHeartbeats 4000000 in
theorem exSLeast {w : World} {b l : Nat} {a : Rat} {r : List Rat} (hb : Bq w b (l * 4) (Fq.rats ((a :: r).map prQ))) (hl : l = r.length + 1) (hl2 : l ≤ 100) (hR : ∀ q ∈ a :: r, Rb q 300) :
    Calls Tryz.prog 71 #[.slice (some ⟨b, 0, none⟩) l l] w fun e w' => ∃ v', e = .returned v' ∧ Below w.heap.size w w' ∧ Pair w' v' (leastQ a r).num ((leastQ a r).den : Int) := by
  have HB := hidd hb
  have HR := hidd hR
  have HL := hidd hl2
  have HE := hidd hl
  clear hb hR hl2 hl
  obtain ⟨w1, b1, hw1, hb1, hs1, E⟩ := fr_start w (F := Fq.pair 0 0) (us := [.bool false, .slice none 0 0, .bool false, .slice none 0 0]) 31 rfl (by simp) (tame_rat _ _ _ _ _ _ _ _) (Pair.zero _)
  go_enter Tryz.func71, Tryz.ntmps71
  go_upto_region 1 with (fail)
  rw [← hw1]
  rw [← hb1]
  clear hw1 hb1 hs1
  refine region_fr (C := [Fq.is (.slice (some ⟨b, 0, none⟩) l l), Fq.is (.pointer (some ⟨b, 0 * 4, none⟩)), Fq.pair a.num (a.den : Int), Fq.any, Fq.any]) (ks := [none]) (new := [⟨3, 4, 4, Fq.pair 0 0, Fq.pair a.num (a.den : Int), none⟩]) E rfl (by kernel_rfl) rfl rfl (fun hp => ⟨?_, ?_, ?_, ?_, ?_, trivial⟩) ?_
  · exact q_move hp (free_of rfl) trivial (sq_out rfl rfl (fun _ _ => rfl))
  · exact q_index (b := b) (l := l) (k := 0) hp (free_of rfl) trivial (sq_in 0 rfl rfl (by simp) rfl (fun v w h => h)) (sq_const (fun _ => rfl)) (by have := HE.out; omega) (fun _ => rfl)
  · exact q_loadRatOut (off := 0 * 4) hp (free_of rfl) trivial HB.out rfl (by have := HE.out; omega) (sq_in 1 rfl rfl (by simp) rfl (fun v w h => h)) (fun us w hl h => ld_rats (qs := (a :: r).map prQ) (k := 0) rfl h)
  · exact q_allocRat hp (List.mem_iff_getElem?.2 ⟨0, rfl⟩) rfl rfl rfl rfl (Nat.ne_of_beq_eq_false rfl) (fun _ _ => trivial) (old_ne rfl) (newk_ne rfl) (fun w => Pair.zero w)
  · exact q_storeNewRat hp (List.mem_iff_getElem?.2 ⟨0, rfl⟩) rfl rfl rfl (own_ptr rfl rfl (by simp) rfl) (sq_in 2 rfl rfl (by simp) rfl (fun v w h => ratV_pair h)) (fun _ _ => trivial) (old_ne rfl) (newi_ne rfl)
  intro L vs w2 nb hL hC hn E2
  have e0 : vs 0 = .slice (some ⟨b, 0, none⟩) l l := hC 0 (by simp)
  have e1 : vs 1 = .pointer (some ⟨b, 0 * 4, none⟩) := hC 1 (by simp)
  have e3 : vs 3 = .pointer (some ⟨nb 3, 0, none⟩) := hn _ (List.mem_iff_getElem?.2 ⟨0, rfl⟩)
  have E : Fr w [(nb 3, 4, Fq.pair a.num (a.den : Int)), (b1, 4, Fq.pair 0 0)] w2 := E2
  rw [lay_all hL]
  simp only [putAll, dstOf, List.length_cons, List.length_nil, Nat.zero_add, Nat.reduceAdd, List.getElem?_toArray, List.getElem?_cons_zero, List.getElem?_cons_succ, Option.bind_some, Act.put, List.setIfInBounds_toArray, List.set_cons_succ, List.set_cons_zero]
  rw [e0, e1, e3]
  generalize nb 3 = b2_3 at E ⊢
  generalize vs 2 = u2_2
  clear e0 e1 e3 hC hn E2 hL vs L nb
  go_upto_region 2 with (fail)
  refine region_fr (C := [Fq.is (.int .i64 1)]) (ks := [none, none]) (new := []) E rfl (by kernel_rfl) rfl rfl (fun hp => ⟨?_, trivial⟩) ?_
  · exact q_assign hp (free_of rfl) trivial (sq_const (fun _ => rfl))
  intro L vs w3 nb hL hC hn E3
  have e0 : vs 0 = .int .i64 1 := hC 0 (by simp)
  have E : Fr w [(b2_3, 4, Fq.pair a.num (a.den : Int)), (b1, 4, Fq.pair 0 0)] w3 := E3
  rw [lay_all hL]
  simp only [putAll, dstOf, List.length_cons, List.length_nil, Nat.zero_add, List.getElem?_toArray, List.getElem?_cons_zero, Option.bind_some, Act.put, List.setIfInBounds_toArray, List.set_cons_succ, List.set_cons_zero]
  rw [e0]
  clear e0 hC hn E3 hL vs L nb
  have HS := hidd E
  go_upto_region 3 with (fail)
  go_loopw [4] (fun vi W => ∃ j : Nat, j ≤ r.length ∧ vi = .int .i64 ((j : Int) + 1) ∧ Fr w [(b2_3, 4, Fq.pair (leastQ a (r.take j)).num ((leastQ a (r.take j)).den : Int)), (b1, 4, Fq.pair 0 0)] W) (fun vi _ => l - (intOf vi).toNat)
  case atStart => exact ⟨0, Nat.zero_le _, rfl, HS.out⟩
  case round =>
    obtain ⟨j, hj, rfl, E⟩ := hrel
    clear HS
    obtain ⟨m, hm⟩ : ∃ m, m = leastQ a (r.take j) := ⟨_, rfl⟩
    rw [← hm] at E
    have Bm : Hid (Rb m 300) := by rw [hm]; exact rb_least (HR.out a (by simp)) (fun q hq => HR.out q (List.mem_cons_of_mem _ (List.mem_of_mem_take hq)))
    have HM := hidd hm
    clear hm
    by_cases hjl : j < r.length
    · obtain ⟨q, hq1, hq2, hq3⟩ := at_map hjl
      have Bq : Hid (Rb q 300) := HR.out q (List.mem_cons_of_mem _ hq3)
      have TL : Hid ((j : Int) + 1 < ((l : Nat) : Int)) := by have := HE.out; show _ < _; omega
      have HJ := hidd hjl
      have hw : wrap64 ((j : Int) + 1 + 1) = (j : Int) + 1 + 1 := by have := HL.out; have := HE.out; simp only [wrap64]; omega
      have HQ1 := hidd hq1
      have HQ2 := hidd hq2
      clear hq1 hq2 hq3 hjl hj
      go_upto_region 3 with (fail)
      refine region_fr (C := [Fq.is (.int .i64 ((j : Int) + 1)), Fq.is (.slice (some ⟨b, 0, none⟩) l l), Fq.is (.int .i64 ((l : Nat) : Int)), Fq.is (.bool true)]) (ks := [none, none]) (new := []) E rfl (by kernel_rfl) rfl rfl (fun hp => ⟨?_, ?_, ?_, ?_, trivial⟩) ?_
      · exact q_move hp (free_of rfl) trivial (sq_out rfl rfl (fun _ _ => rfl))
      · exact q_move hp (free_of rfl) trivial (sq_out rfl rfl (fun _ _ => rfl))
      · exact q_lenR hp (free_of rfl) trivial (sq_in 1 rfl rfl (by simp) rfl (fun v w h => h)) (fun _ => rfl)
      · exact q_two (F := fun v _ => v = .int .i64 ((j : Int) + 1)) (G := fun v _ => v = .int .i64 ((l : Nat) : Int)) hp (free_of rfl) trivial (sq_in 0 rfl rfl (by simp) rfl (fun v w h => h)) (sq_in 2 rfl rfl (by simp) rfl (fun v w h => h)) (fun ρ w hc h h' => ⟨.bool true, by simp [execOp, go_sem, h, h', TL.out], rfl⟩)
      intro L vs w4 nb hL hC hn E4
      have e0 : vs 0 = .int .i64 ((j : Int) + 1) := hC 0 (by simp)
      have e1 : vs 1 = .slice (some ⟨b, 0, none⟩) l l := hC 1 (by simp)
      have e2 : vs 2 = .int .i64 ((l : Nat) : Int) := hC 2 (by simp)
      have e3 : vs 3 = .bool true := hC 3 (by simp)
      have E : Fr w [(b2_3, 4, Fq.pair m.num (m.den : Int)), (b1, 4, Fq.pair 0 0)] w4 := E4
      rw [lay_all hL]
      simp only [putAll, dstOf, List.length_cons, List.length_nil, Nat.zero_add, Nat.reduceAdd, List.getElem?_toArray, List.getElem?_cons_zero, List.getElem?_cons_succ, Option.bind_some, Act.put, List.setIfInBounds_toArray, List.set_cons_succ, List.set_cons_zero]
      rw [e0, e1, e2, e3]
      clear e0 e1 e2 e3 hC hn E4 hL vs L nb
      clear TL
      by_cases hlt : q < m
      · have TC := hidd (cmpQ_lt.2 hlt)
        have hm2 : Hid (leastQ a (r.take (j + 1)) = q) := by show _ = _; rw [take_snoc HQ1.out, least_snoc, ← HM.out, if_pos hlt]
        clear hlt
        go_upto_region 5 with (fail)
        refine region_fr (C := [Fq.is (.slice (some ⟨b, 0, none⟩) l l), Fq.is (.int .i64 ((j : Int) + 1)), Fq.is (.pointer (some ⟨b, (j + 1) * 4, none⟩)), Fq.pair q.num (q.den : Int), Fq.pair m.num (m.den : Int), Fq.is (.int .i64 (cmpQ q m)), Fq.is (.bool true)]) (ks := [none, none]) (new := []) E rfl (by kernel_rfl) rfl rfl (fun hp => ⟨?_, ?_, ?_, ?_, ?_, ?_, ?_, trivial⟩) ?_
        · exact q_move hp (free_of rfl) trivial (sq_out rfl rfl (fun _ _ => rfl))
        · exact q_move hp (free_of rfl) trivial (sq_out rfl rfl (fun _ _ => rfl))
        · exact q_index (b := b) (l := l) (k := (j + 1)) hp (free_of rfl) trivial (sq_in 0 rfl rfl (by simp) rfl (fun v w h => h)) (sq_in 1 rfl rfl (by simp) rfl (fun v w h => h)) (by have := HE.out; have := HJ.out; omega) (fun _ => rfl)
        · exact q_loadRatOut (off := (j + 1) * 4) hp (free_of rfl) trivial HB.out rfl (by have := HE.out; have := HJ.out; omega) (sq_in 2 rfl rfl (by simp) rfl (fun v w h => h)) (fun us w hl h => ld_rats (qs := (a :: r).map prQ) (k := j + 1) HQ2.out h)
        · exact q_loadRat hp (free_of rfl) trivial (List.mem_iff_getElem?.2 ⟨0, rfl⟩) (.inl rfl) rfl (sq_out rfl rfl (fun _ _ => rfl)) (fun us w hl h => h)
        · exact q_call2 (F := (Fq.pair q.num (q.den : Int)).P) (G := (Fq.pair m.num (m.den : Int)).P) hp (free_of rfl) trivial (enq_S_Cmp) (sq_in 3 rfl rfl (by simp) rfl (fun v w h => h)) (sq_in 4 rfl rfl (by simp) rfl (fun v w h => h)) (fun v v' w h h' => exSCmpQ h h' (rb_le Bq.out (by omega)) (rb_le Bm.out (by omega)))
        · exact q_one (F := fun v _ => v = .int .i64 (cmpQ q m)) hp (free_of rfl) trivial (sq_in 5 rfl rfl (by simp) rfl (fun v w h => h)) (fun ρ w hc h => ⟨.bool true, by simp [execOp, go_sem, h, hc, TC.out], rfl⟩)
        intro L vs w5 nb hL hC hn E5
        have e0 : vs 0 = .slice (some ⟨b, 0, none⟩) l l := hC 0 (by simp)
        have e1 : vs 1 = .int .i64 ((j : Int) + 1) := hC 1 (by simp)
        have e2 : vs 2 = .pointer (some ⟨b, (j + 1) * 4, none⟩) := hC 2 (by simp)
        have e5 : vs 5 = .int .i64 (cmpQ q m) := hC 5 (by simp)
        have e6 : vs 6 = .bool true := hC 6 (by simp)
        have E : Fr w [(b2_3, 4, Fq.pair m.num (m.den : Int)), (b1, 4, Fq.pair 0 0)] w5 := E5
        rw [lay_all hL]
        simp only [putAll, dstOf, List.length_cons, List.length_nil, Nat.zero_add, Nat.reduceAdd, List.getElem?_toArray, List.getElem?_cons_zero, List.getElem?_cons_succ, Option.bind_some, Act.put, List.setIfInBounds_toArray, List.set_cons_succ, List.set_cons_zero]
        rw [e0, e1, e2, e5, e6]
        generalize vs 3 = u5_3
        generalize vs 4 = u5_4
        clear e0 e1 e2 e5 e6 hC hn E5 hL vs L nb
        clear TC
        go_upto_region 6 with (fail)
        refine region_fr (C := [Fq.is (.slice (some ⟨b, 0, none⟩) l l), Fq.is (.int .i64 ((j : Int) + 1)), Fq.is (.pointer (some ⟨b, (j + 1) * 4, none⟩)), Fq.pair q.num (q.den : Int), Fq.any]) (ks := [some (4, Fq.pair q.num (q.den : Int)), none]) (new := []) E rfl (by kernel_rfl) rfl rfl (fun hp => ⟨?_, ?_, ?_, ?_, ?_, trivial⟩) ?_
        · exact q_move hp (free_of rfl) trivial (sq_out rfl rfl (fun _ _ => rfl))
        · exact q_move hp (free_of rfl) trivial (sq_out rfl rfl (fun _ _ => rfl))
        · exact q_index (b := b) (l := l) (k := (j + 1)) hp (free_of rfl) trivial (sq_in 0 rfl rfl (by simp) rfl (fun v w h => h)) (sq_in 1 rfl rfl (by simp) rfl (fun v w h => h)) (by have := HE.out; have := HJ.out; omega) (fun _ => rfl)
        · exact q_loadRatOut (off := (j + 1) * 4) hp (free_of rfl) trivial HB.out rfl (by have := HE.out; have := HJ.out; omega) (sq_in 2 rfl rfl (by simp) rfl (fun v w h => h)) (fun us w hl h => ld_rats (qs := (a :: r).map prQ) (k := j + 1) HQ2.out h)
        · exact q_storeOldRat hp (List.mem_iff_getElem?.2 ⟨0, rfl⟩) rfl rfl (sq_out rfl rfl (fun _ _ => rfl)) (sq_in 3 rfl rfl (by simp) rfl (fun v w h => ratV_pair h)) (fun _ _ => trivial) (newik_ne rfl)
        intro L vs w6 nb hL hC hn E6
        have e0 : vs 0 = .slice (some ⟨b, 0, none⟩) l l := hC 0 (by simp)
        have e1 : vs 1 = .int .i64 ((j : Int) + 1) := hC 1 (by simp)
        have e2 : vs 2 = .pointer (some ⟨b, (j + 1) * 4, none⟩) := hC 2 (by simp)
        have E : Fr w [(b2_3, 4, Fq.pair q.num (q.den : Int)), (b1, 4, Fq.pair 0 0)] w6 := E6
        rw [lay_all hL]
        simp only [putAll, dstOf, List.length_cons, List.length_nil, Nat.zero_add, Nat.reduceAdd, List.getElem?_toArray, List.getElem?_cons_zero, List.getElem?_cons_succ, Option.bind_some, Act.put, List.setIfInBounds_toArray, List.set_cons_succ, List.set_cons_zero]
        rw [e0, e1, e2]
        generalize vs 3 = u6_3
        clear e0 e1 e2 hC hn E6 hL vs L nb
        go_wp2
        go_roundw
        case rel => exact ⟨j + 1, by have := HJ.out; omega, by first | go_num | (rw [hw]; go_num), by rw [hm2.out]; exact E⟩
        case measure => first | exact measJ (by have := HE.out; have := HJ.out; omega) | (rw [hw]; exact measJ (by have := HE.out; have := HJ.out; omega))
      · have TC := hidd (mt cmpQ_lt.1 hlt)
        have hm2 : Hid (leastQ a (r.take (j + 1)) = m) := by show _ = _; rw [take_snoc HQ1.out, least_snoc, ← HM.out, if_neg hlt]
        clear hlt
        go_upto_region 5 with (fail)
        refine region_fr (C := [Fq.is (.slice (some ⟨b, 0, none⟩) l l), Fq.is (.int .i64 ((j : Int) + 1)), Fq.is (.pointer (some ⟨b, (j + 1) * 4, none⟩)), Fq.pair q.num (q.den : Int), Fq.pair m.num (m.den : Int), Fq.is (.int .i64 (cmpQ q m)), Fq.is (.bool false)]) (ks := [none, none]) (new := []) E rfl (by kernel_rfl) rfl rfl (fun hp => ⟨?_, ?_, ?_, ?_, ?_, ?_, ?_, trivial⟩) ?_
        · exact q_move hp (free_of rfl) trivial (sq_out rfl rfl (fun _ _ => rfl))
        · exact q_move hp (free_of rfl) trivial (sq_out rfl rfl (fun _ _ => rfl))
        · exact q_index (b := b) (l := l) (k := (j + 1)) hp (free_of rfl) trivial (sq_in 0 rfl rfl (by simp) rfl (fun v w h => h)) (sq_in 1 rfl rfl (by simp) rfl (fun v w h => h)) (by have := HE.out; have := HJ.out; omega) (fun _ => rfl)
        · exact q_loadRatOut (off := (j + 1) * 4) hp (free_of rfl) trivial HB.out rfl (by have := HE.out; have := HJ.out; omega) (sq_in 2 rfl rfl (by simp) rfl (fun v w h => h)) (fun us w hl h => ld_rats (qs := (a :: r).map prQ) (k := j + 1) HQ2.out h)
        · exact q_loadRat hp (free_of rfl) trivial (List.mem_iff_getElem?.2 ⟨0, rfl⟩) (.inl rfl) rfl (sq_out rfl rfl (fun _ _ => rfl)) (fun us w hl h => h)
        · exact q_call2 (F := (Fq.pair q.num (q.den : Int)).P) (G := (Fq.pair m.num (m.den : Int)).P) hp (free_of rfl) trivial (enq_S_Cmp) (sq_in 3 rfl rfl (by simp) rfl (fun v w h => h)) (sq_in 4 rfl rfl (by simp) rfl (fun v w h => h)) (fun v v' w h h' => exSCmpQ h h' (rb_le Bq.out (by omega)) (rb_le Bm.out (by omega)))
        · exact q_one (F := fun v _ => v = .int .i64 (cmpQ q m)) hp (free_of rfl) trivial (sq_in 5 rfl rfl (by simp) rfl (fun v w h => h)) (fun ρ w hc h => ⟨.bool false, by simp [execOp, go_sem, h, hc, TC.out], rfl⟩)
        intro L vs w7 nb hL hC hn E7
        have e0 : vs 0 = .slice (some ⟨b, 0, none⟩) l l := hC 0 (by simp)
        have e1 : vs 1 = .int .i64 ((j : Int) + 1) := hC 1 (by simp)
        have e2 : vs 2 = .pointer (some ⟨b, (j + 1) * 4, none⟩) := hC 2 (by simp)
        have e5 : vs 5 = .int .i64 (cmpQ q m) := hC 5 (by simp)
        have e6 : vs 6 = .bool false := hC 6 (by simp)
        have E : Fr w [(b2_3, 4, Fq.pair m.num (m.den : Int)), (b1, 4, Fq.pair 0 0)] w7 := E7
        rw [lay_all hL]
        simp only [putAll, dstOf, List.length_cons, List.length_nil, Nat.zero_add, Nat.reduceAdd, List.getElem?_toArray, List.getElem?_cons_zero, List.getElem?_cons_succ, Option.bind_some, Act.put, List.setIfInBounds_toArray, List.set_cons_succ, List.set_cons_zero]
        rw [e0, e1, e2, e5, e6]
        generalize vs 3 = u7_3
        generalize vs 4 = u7_4
        clear e0 e1 e2 e5 e6 hC hn E7 hL vs L nb
        clear TC
        go_wp2
        go_roundw
        case rel => exact ⟨j + 1, by have := HJ.out; omega, by first | go_num | (rw [hw]; go_num), by rw [hm2.out]; exact E⟩
        case measure => first | exact measJ (by have := HE.out; have := HJ.out; omega) | (rw [hw]; exact measJ (by have := HE.out; have := HJ.out; omega))
    · have TL : Hid (¬ (j : Int) + 1 < ((l : Nat) : Int)) := by have := HE.out; show ¬ _; omega
      have hm2 : Hid (leastQ a r = m) := by show _ = _; rw [HM.out, List.take_of_length_le (by omega)]
      clear hjl hj
      go_upto_region 3 with (fail)
      refine region_fr (C := [Fq.is (.int .i64 ((j : Int) + 1)), Fq.is (.slice (some ⟨b, 0, none⟩) l l), Fq.is (.int .i64 ((l : Nat) : Int)), Fq.is (.bool false)]) (ks := [none, none]) (new := []) E rfl (by kernel_rfl) rfl rfl (fun hp => ⟨?_, ?_, ?_, ?_, trivial⟩) ?_
      · exact q_move hp (free_of rfl) trivial (sq_out rfl rfl (fun _ _ => rfl))
      · exact q_move hp (free_of rfl) trivial (sq_out rfl rfl (fun _ _ => rfl))
      · exact q_lenR hp (free_of rfl) trivial (sq_in 1 rfl rfl (by simp) rfl (fun v w h => h)) (fun _ => rfl)
      · exact q_two (F := fun v _ => v = .int .i64 ((j : Int) + 1)) (G := fun v _ => v = .int .i64 ((l : Nat) : Int)) hp (free_of rfl) trivial (sq_in 0 rfl rfl (by simp) rfl (fun v w h => h)) (sq_in 2 rfl rfl (by simp) rfl (fun v w h => h)) (fun ρ w hc h h' => ⟨.bool false, by simp [execOp, go_sem, h, h', TL.out], rfl⟩)
      intro L vs w8 nb hL hC hn E8
      have e0 : vs 0 = .int .i64 ((j : Int) + 1) := hC 0 (by simp)
      have e1 : vs 1 = .slice (some ⟨b, 0, none⟩) l l := hC 1 (by simp)
      have e2 : vs 2 = .int .i64 ((l : Nat) : Int) := hC 2 (by simp)
      have e3 : vs 3 = .bool false := hC 3 (by simp)
      have E : Fr w [(b2_3, 4, Fq.pair m.num (m.den : Int)), (b1, 4, Fq.pair 0 0)] w8 := E8
      rw [lay_all hL]
      simp only [putAll, dstOf, List.length_cons, List.length_nil, Nat.zero_add, Nat.reduceAdd, List.getElem?_toArray, List.getElem?_cons_zero, List.getElem?_cons_succ, Option.bind_some, Act.put, List.setIfInBounds_toArray, List.set_cons_succ, List.set_cons_zero]
      rw [e0, e1, e2, e3]
      clear e0 e1 e2 e3 hC hn E8 hL vs L nb
      clear TL
      go_upto_region 7 with (fail)
      refine region_fr (C := [Fq.pair m.num (m.den : Int), Fq.any]) (ks := [none, some (1, Fq.pair m.num (m.den : Int))]) (new := []) E rfl (by kernel_rfl) rfl rfl (fun hp => ⟨?_, ?_, trivial⟩) ?_
      · exact q_loadRat hp (free_of rfl) trivial (List.mem_iff_getElem?.2 ⟨0, rfl⟩) (.inl rfl) rfl (sq_out rfl rfl (fun _ _ => rfl)) (fun us w hl h => h)
      · exact q_storeOldRat hp (List.mem_iff_getElem?.2 ⟨1, rfl⟩) rfl rfl (sq_out rfl rfl (fun _ _ => rfl)) (sq_in 0 rfl rfl (by simp) rfl (fun v w h => ratV_pair h)) (fun _ _ => trivial) (newik_ne rfl)
      intro L vs w9 nb hL hC hn E9
      have E : Fr w [(b2_3, 4, Fq.pair m.num (m.den : Int)), (b1, 4, Fq.pair m.num (m.den : Int))] w9 := E9
      rw [lay_all hL]
      simp only [putAll, dstOf, List.length_cons, List.length_nil, Nat.zero_add, Nat.reduceAdd, List.getElem?_toArray, List.getElem?_cons_zero, List.getElem?_cons_succ, Option.bind_some, Act.put, List.setIfInBounds_toArray, List.set_cons_succ, List.set_cons_zero]
      generalize vs 0 = u9_0
      clear  hC hn E9 hL vs L nb
      clear HB HR HL HE HM Bm
      obtain ⟨p0, p1, p2, p3, c0, c1, c2, c3, hP⟩ := box_pair (E.box 1 rfl)
      go_wp2
      refine bodyPost_ret (v := .agg #[p0, p1, p2, p3]) ?_ rfl ⟨_, rfl, E.below, by rw [hm2.out]; exact hP⟩
      simp [results, Tryz.results71, go_sem, c0, c1, c2, c3]

set_option maxRecDepth 100000 in
set_option maxHeartbeats 4000000 in
theorem exSGreatest {w : World} {b l : Nat} {a : Rat} {r : List Rat} (hb : Bq w b (l * 4) (Fq.rats ((a :: r).map prQ))) (hl : l = r.length + 1) (hl2 : l ≤ 100) (hR : ∀ q ∈ a :: r, Rb q 300) :
    Calls Tryz.prog 72 #[.slice (some ⟨b, 0, none⟩) l l] w fun e w' => ∃ v', e = .returned v' ∧ Below w.heap.size w w' ∧ Pair w' v' (greatQ a r).num ((greatQ a r).den : Int) := by
  have HB := hidd hb
  have HR := hidd hR
  have HL := hidd hl2
  have HE := hidd hl
  clear hb hR hl2 hl
  obtain ⟨w1, b1, hw1, hb1, hs1, E⟩ := fr_start w (F := Fq.pair 0 0) (us := [.bool false, .slice none 0 0, .bool false, .slice none 0 0]) 31 rfl (by simp) (tame_rat _ _ _ _ _ _ _ _) (Pair.zero _)
  go_enter Tryz.func72, Tryz.ntmps72
  go_upto_region 1 with (fail)
  rw [← hw1]
  rw [← hb1]
  clear hw1 hb1 hs1
  refine region_fr (C := [Fq.is (.slice (some ⟨b, 0, none⟩) l l), Fq.is (.pointer (some ⟨b, 0 * 4, none⟩)), Fq.pair a.num (a.den : Int), Fq.any, Fq.any]) (ks := [none]) (new := [⟨3, 4, 4, Fq.pair 0 0, Fq.pair a.num (a.den : Int), none⟩]) E rfl (by kernel_rfl) rfl rfl (fun hp => ⟨?_, ?_, ?_, ?_, ?_, trivial⟩) ?_
  · exact q_move hp (free_of rfl) trivial (sq_out rfl rfl (fun _ _ => rfl))
  · exact q_index (b := b) (l := l) (k := 0) hp (free_of rfl) trivial (sq_in 0 rfl rfl (by simp) rfl (fun v w h => h)) (sq_const (fun _ => rfl)) (by have := HE.out; omega) (fun _ => rfl)
  · exact q_loadRatOut (off := 0 * 4) hp (free_of rfl) trivial HB.out rfl (by have := HE.out; omega) (sq_in 1 rfl rfl (by simp) rfl (fun v w h => h)) (fun us w hl h => ld_rats (qs := (a :: r).map prQ) (k := 0) rfl h)
  · exact q_allocRat hp (List.mem_iff_getElem?.2 ⟨0, rfl⟩) rfl rfl rfl rfl (Nat.ne_of_beq_eq_false rfl) (fun _ _ => trivial) (old_ne rfl) (newk_ne rfl) (fun w => Pair.zero w)
  · exact q_storeNewRat hp (List.mem_iff_getElem?.2 ⟨0, rfl⟩) rfl rfl rfl (own_ptr rfl rfl (by simp) rfl) (sq_in 2 rfl rfl (by simp) rfl (fun v w h => ratV_pair h)) (fun _ _ => trivial) (old_ne rfl) (newi_ne rfl)
  intro L vs w2 nb hL hC hn E2
  have e0 : vs 0 = .slice (some ⟨b, 0, none⟩) l l := hC 0 (by simp)
  have e1 : vs 1 = .pointer (some ⟨b, 0 * 4, none⟩) := hC 1 (by simp)
  have e3 : vs 3 = .pointer (some ⟨nb 3, 0, none⟩) := hn _ (List.mem_iff_getElem?.2 ⟨0, rfl⟩)
  have E : Fr w [(nb 3, 4, Fq.pair a.num (a.den : Int)), (b1, 4, Fq.pair 0 0)] w2 := E2
  rw [lay_all hL]
  simp only [putAll, dstOf, List.length_cons, List.length_nil, Nat.zero_add, Nat.reduceAdd, List.getElem?_toArray, List.getElem?_cons_zero, List.getElem?_cons_succ, Option.bind_some, Act.put, List.setIfInBounds_toArray, List.set_cons_succ, List.set_cons_zero]
  rw [e0, e1, e3]
  generalize nb 3 = b2_3 at E ⊢
  generalize vs 2 = u2_2
  clear e0 e1 e3 hC hn E2 hL vs L nb
  go_upto_region 2 with (fail)
  refine region_fr (C := [Fq.is (.int .i64 1)]) (ks := [none, none]) (new := []) E rfl (by kernel_rfl) rfl rfl (fun hp => ⟨?_, trivial⟩) ?_
  · exact q_assign hp (free_of rfl) trivial (sq_const (fun _ => rfl))
  intro L vs w3 nb hL hC hn E3
  have e0 : vs 0 = .int .i64 1 := hC 0 (by simp)
  have E : Fr w [(b2_3, 4, Fq.pair a.num (a.den : Int)), (b1, 4, Fq.pair 0 0)] w3 := E3
  rw [lay_all hL]
  simp only [putAll, dstOf, List.length_cons, List.length_nil, Nat.zero_add, List.getElem?_toArray, List.getElem?_cons_zero, Option.bind_some, Act.put, List.setIfInBounds_toArray, List.set_cons_succ, List.set_cons_zero]
  rw [e0]
  clear e0 hC hn E3 hL vs L nb
  have HS := hidd E
  go_upto_region 3 with (fail)
  go_loopw [4] (fun vi W => ∃ j : Nat, j ≤ r.length ∧ vi = .int .i64 ((j : Int) + 1) ∧ Fr w [(b2_3, 4, Fq.pair (greatQ a (r.take j)).num ((greatQ a (r.take j)).den : Int)), (b1, 4, Fq.pair 0 0)] W) (fun vi _ => l - (intOf vi).toNat)
  case atStart => exact ⟨0, Nat.zero_le _, rfl, HS.out⟩
  case round =>
    obtain ⟨j, hj, rfl, E⟩ := hrel
    clear HS
    obtain ⟨m, hm⟩ : ∃ m, m = greatQ a (r.take j) := ⟨_, rfl⟩
    rw [← hm] at E
    have Bm : Hid (Rb m 300) := by rw [hm]; exact rb_great (HR.out a (by simp)) (fun q hq => HR.out q (List.mem_cons_of_mem _ (List.mem_of_mem_take hq)))
    have HM := hidd hm
    clear hm
    by_cases hjl : j < r.length
    · obtain ⟨q, hq1, hq2, hq3⟩ := at_map hjl
      have Bq : Hid (Rb q 300) := HR.out q (List.mem_cons_of_mem _ hq3)
      have TL : Hid ((j : Int) + 1 < ((l : Nat) : Int)) := by have := HE.out; show _ < _; omega
      have HJ := hidd hjl
      have hw : wrap64 ((j : Int) + 1 + 1) = (j : Int) + 1 + 1 := by have := HL.out; have := HE.out; simp only [wrap64]; omega
      have HQ1 := hidd hq1
      have HQ2 := hidd hq2
      clear hq1 hq2 hq3 hjl hj
      go_upto_region 3 with (fail)
      refine region_fr (C := [Fq.is (.int .i64 ((j : Int) + 1)), Fq.is (.slice (some ⟨b, 0, none⟩) l l), Fq.is (.int .i64 ((l : Nat) : Int)), Fq.is (.bool true)]) (ks := [none, none]) (new := []) E rfl (by kernel_rfl) rfl rfl (fun hp => ⟨?_, ?_, ?_, ?_, trivial⟩) ?_
      · exact q_move hp (free_of rfl) trivial (sq_out rfl rfl (fun _ _ => rfl))
      · exact q_move hp (free_of rfl) trivial (sq_out rfl rfl (fun _ _ => rfl))
      · exact q_lenR hp (free_of rfl) trivial (sq_in 1 rfl rfl (by simp) rfl (fun v w h => h)) (fun _ => rfl)
      · exact q_two (F := fun v _ => v = .int .i64 ((j : Int) + 1)) (G := fun v _ => v = .int .i64 ((l : Nat) : Int)) hp (free_of rfl) trivial (sq_in 0 rfl rfl (by simp) rfl (fun v w h => h)) (sq_in 2 rfl rfl (by simp) rfl (fun v w h => h)) (fun ρ w hc h h' => ⟨.bool true, by simp [execOp, go_sem, h, h', TL.out], rfl⟩)
      intro L vs w4 nb hL hC hn E4
      have e0 : vs 0 = .int .i64 ((j : Int) + 1) := hC 0 (by simp)
      have e1 : vs 1 = .slice (some ⟨b, 0, none⟩) l l := hC 1 (by simp)
      have e2 : vs 2 = .int .i64 ((l : Nat) : Int) := hC 2 (by simp)
      have e3 : vs 3 = .bool true := hC 3 (by simp)
      have E : Fr w [(b2_3, 4, Fq.pair m.num (m.den : Int)), (b1, 4, Fq.pair 0 0)] w4 := E4
      rw [lay_all hL]
      simp only [putAll, dstOf, List.length_cons, List.length_nil, Nat.zero_add, Nat.reduceAdd, List.getElem?_toArray, List.getElem?_cons_zero, List.getElem?_cons_succ, Option.bind_some, Act.put, List.setIfInBounds_toArray, List.set_cons_succ, List.set_cons_zero]
      rw [e0, e1, e2, e3]
      clear e0 e1 e2 e3 hC hn E4 hL vs L nb
      clear TL
      by_cases hlt : m < q
      · have TC := hidd (cmpQ_gt.2 hlt)
        have hm2 : Hid (greatQ a (r.take (j + 1)) = q) := by show _ = _; rw [take_snoc HQ1.out, great_snoc, ← HM.out, if_pos hlt]
        clear hlt
        go_upto_region 5 with (fail)
        refine region_fr (C := [Fq.is (.slice (some ⟨b, 0, none⟩) l l), Fq.is (.int .i64 ((j : Int) + 1)), Fq.is (.pointer (some ⟨b, (j + 1) * 4, none⟩)), Fq.pair q.num (q.den : Int), Fq.pair m.num (m.den : Int), Fq.is (.int .i64 (cmpQ q m)), Fq.is (.bool true)]) (ks := [none, none]) (new := []) E rfl (by kernel_rfl) rfl rfl (fun hp => ⟨?_, ?_, ?_, ?_, ?_, ?_, ?_, trivial⟩) ?_
        · exact q_move hp (free_of rfl) trivial (sq_out rfl rfl (fun _ _ => rfl))
        · exact q_move hp (free_of rfl) trivial (sq_out rfl rfl (fun _ _ => rfl))
        · exact q_index (b := b) (l := l) (k := (j + 1)) hp (free_of rfl) trivial (sq_in 0 rfl rfl (by simp) rfl (fun v w h => h)) (sq_in 1 rfl rfl (by simp) rfl (fun v w h => h)) (by have := HE.out; have := HJ.out; omega) (fun _ => rfl)
        · exact q_loadRatOut (off := (j + 1) * 4) hp (free_of rfl) trivial HB.out rfl (by have := HE.out; have := HJ.out; omega) (sq_in 2 rfl rfl (by simp) rfl (fun v w h => h)) (fun us w hl h => ld_rats (qs := (a :: r).map prQ) (k := j + 1) HQ2.out h)
        · exact q_loadRat hp (free_of rfl) trivial (List.mem_iff_getElem?.2 ⟨0, rfl⟩) (.inl rfl) rfl (sq_out rfl rfl (fun _ _ => rfl)) (fun us w hl h => h)
        · exact q_call2 (F := (Fq.pair q.num (q.den : Int)).P) (G := (Fq.pair m.num (m.den : Int)).P) hp (free_of rfl) trivial (enq_S_Cmp) (sq_in 3 rfl rfl (by simp) rfl (fun v w h => h)) (sq_in 4 rfl rfl (by simp) rfl (fun v w h => h)) (fun v v' w h h' => exSCmpQ h h' (rb_le Bq.out (by omega)) (rb_le Bm.out (by omega)))
        · exact q_one (F := fun v _ => v = .int .i64 (cmpQ q m)) hp (free_of rfl) trivial (sq_in 5 rfl rfl (by simp) rfl (fun v w h => h)) (fun ρ w hc h => ⟨.bool true, by simp [execOp, go_sem, h, hc, TC.out], rfl⟩)
        intro L vs w5 nb hL hC hn E5
        have e0 : vs 0 = .slice (some ⟨b, 0, none⟩) l l := hC 0 (by simp)
        have e1 : vs 1 = .int .i64 ((j : Int) + 1) := hC 1 (by simp)
        have e2 : vs 2 = .pointer (some ⟨b, (j + 1) * 4, none⟩) := hC 2 (by simp)
        have e5 : vs 5 = .int .i64 (cmpQ q m) := hC 5 (by simp)
        have e6 : vs 6 = .bool true := hC 6 (by simp)
        have E : Fr w [(b2_3, 4, Fq.pair m.num (m.den : Int)), (b1, 4, Fq.pair 0 0)] w5 := E5
        rw [lay_all hL]
        simp only [putAll, dstOf, List.length_cons, List.length_nil, Nat.zero_add, Nat.reduceAdd, List.getElem?_toArray, List.getElem?_cons_zero, List.getElem?_cons_succ, Option.bind_some, Act.put, List.setIfInBounds_toArray, List.set_cons_succ, List.set_cons_zero]
        rw [e0, e1, e2, e5, e6]
        generalize vs 3 = u5_3
        generalize vs 4 = u5_4
        clear e0 e1 e2 e5 e6 hC hn E5 hL vs L nb
        clear TC
        go_upto_region 6 with (fail)
        refine region_fr (C := [Fq.is (.slice (some ⟨b, 0, none⟩) l l), Fq.is (.int .i64 ((j : Int) + 1)), Fq.is (.pointer (some ⟨b, (j + 1) * 4, none⟩)), Fq.pair q.num (q.den : Int), Fq.any]) (ks := [some (4, Fq.pair q.num (q.den : Int)), none]) (new := []) E rfl (by kernel_rfl) rfl rfl (fun hp => ⟨?_, ?_, ?_, ?_, ?_, trivial⟩) ?_
        · exact q_move hp (free_of rfl) trivial (sq_out rfl rfl (fun _ _ => rfl))
        · exact q_move hp (free_of rfl) trivial (sq_out rfl rfl (fun _ _ => rfl))
        · exact q_index (b := b) (l := l) (k := (j + 1)) hp (free_of rfl) trivial (sq_in 0 rfl rfl (by simp) rfl (fun v w h => h)) (sq_in 1 rfl rfl (by simp) rfl (fun v w h => h)) (by have := HE.out; have := HJ.out; omega) (fun _ => rfl)
        · exact q_loadRatOut (off := (j + 1) * 4) hp (free_of rfl) trivial HB.out rfl (by have := HE.out; have := HJ.out; omega) (sq_in 2 rfl rfl (by simp) rfl (fun v w h => h)) (fun us w hl h => ld_rats (qs := (a :: r).map prQ) (k := j + 1) HQ2.out h)
        · exact q_storeOldRat hp (List.mem_iff_getElem?.2 ⟨0, rfl⟩) rfl rfl (sq_out rfl rfl (fun _ _ => rfl)) (sq_in 3 rfl rfl (by simp) rfl (fun v w h => ratV_pair h)) (fun _ _ => trivial) (newik_ne rfl)
        intro L vs w6 nb hL hC hn E6
        have e0 : vs 0 = .slice (some ⟨b, 0, none⟩) l l := hC 0 (by simp)
        have e1 : vs 1 = .int .i64 ((j : Int) + 1) := hC 1 (by simp)
        have e2 : vs 2 = .pointer (some ⟨b, (j + 1) * 4, none⟩) := hC 2 (by simp)
        have E : Fr w [(b2_3, 4, Fq.pair q.num (q.den : Int)), (b1, 4, Fq.pair 0 0)] w6 := E6
        rw [lay_all hL]
        simp only [putAll, dstOf, List.length_cons, List.length_nil, Nat.zero_add, Nat.reduceAdd, List.getElem?_toArray, List.getElem?_cons_zero, List.getElem?_cons_succ, Option.bind_some, Act.put, List.setIfInBounds_toArray, List.set_cons_succ, List.set_cons_zero]
        rw [e0, e1, e2]
        generalize vs 3 = u6_3
        clear e0 e1 e2 hC hn E6 hL vs L nb
        go_wp2
        go_roundw
        case rel => exact ⟨j + 1, by have := HJ.out; omega, by first | go_num | (rw [hw]; go_num), by rw [hm2.out]; exact E⟩
        case measure => first | exact measJ (by have := HE.out; have := HJ.out; omega) | (rw [hw]; exact measJ (by have := HE.out; have := HJ.out; omega))
      · have TC := hidd (mt cmpQ_gt.1 hlt)
        have hm2 : Hid (greatQ a (r.take (j + 1)) = m) := by show _ = _; rw [take_snoc HQ1.out, great_snoc, ← HM.out, if_neg hlt]
        clear hlt
        go_upto_region 5 with (fail)
        refine region_fr (C := [Fq.is (.slice (some ⟨b, 0, none⟩) l l), Fq.is (.int .i64 ((j : Int) + 1)), Fq.is (.pointer (some ⟨b, (j + 1) * 4, none⟩)), Fq.pair q.num (q.den : Int), Fq.pair m.num (m.den : Int), Fq.is (.int .i64 (cmpQ q m)), Fq.is (.bool false)]) (ks := [none, none]) (new := []) E rfl (by kernel_rfl) rfl rfl (fun hp => ⟨?_, ?_, ?_, ?_, ?_, ?_, ?_, trivial⟩) ?_
        · exact q_move hp (free_of rfl) trivial (sq_out rfl rfl (fun _ _ => rfl))
        · exact q_move hp (free_of rfl) trivial (sq_out rfl rfl (fun _ _ => rfl))
        · exact q_index (b := b) (l := l) (k := (j + 1)) hp (free_of rfl) trivial (sq_in 0 rfl rfl (by simp) rfl (fun v w h => h)) (sq_in 1 rfl rfl (by simp) rfl (fun v w h => h)) (by have := HE.out; have := HJ.out; omega) (fun _ => rfl)
        · exact q_loadRatOut (off := (j + 1) * 4) hp (free_of rfl) trivial HB.out rfl (by have := HE.out; have := HJ.out; omega) (sq_in 2 rfl rfl (by simp) rfl (fun v w h => h)) (fun us w hl h => ld_rats (qs := (a :: r).map prQ) (k := j + 1) HQ2.out h)
        · exact q_loadRat hp (free_of rfl) trivial (List.mem_iff_getElem?.2 ⟨0, rfl⟩) (.inl rfl) rfl (sq_out rfl rfl (fun _ _ => rfl)) (fun us w hl h => h)
        · exact q_call2 (F := (Fq.pair q.num (q.den : Int)).P) (G := (Fq.pair m.num (m.den : Int)).P) hp (free_of rfl) trivial (enq_S_Cmp) (sq_in 3 rfl rfl (by simp) rfl (fun v w h => h)) (sq_in 4 rfl rfl (by simp) rfl (fun v w h => h)) (fun v v' w h h' => exSCmpQ h h' (rb_le Bq.out (by omega)) (rb_le Bm.out (by omega)))
        · exact q_one (F := fun v _ => v = .int .i64 (cmpQ q m)) hp (free_of rfl) trivial (sq_in 5 rfl rfl (by simp) rfl (fun v w h => h)) (fun ρ w hc h => ⟨.bool false, by simp [execOp, go_sem, h, hc, TC.out], rfl⟩)
        intro L vs w7 nb hL hC hn E7
        have e0 : vs 0 = .slice (some ⟨b, 0, none⟩) l l := hC 0 (by simp)
        have e1 : vs 1 = .int .i64 ((j : Int) + 1) := hC 1 (by simp)
        have e2 : vs 2 = .pointer (some ⟨b, (j + 1) * 4, none⟩) := hC 2 (by simp)
        have e5 : vs 5 = .int .i64 (cmpQ q m) := hC 5 (by simp)
        have e6 : vs 6 = .bool false := hC 6 (by simp)
        have E : Fr w [(b2_3, 4, Fq.pair m.num (m.den : Int)), (b1, 4, Fq.pair 0 0)] w7 := E7
        rw [lay_all hL]
        simp only [putAll, dstOf, List.length_cons, List.length_nil, Nat.zero_add, Nat.reduceAdd, List.getElem?_toArray, List.getElem?_cons_zero, List.getElem?_cons_succ, Option.bind_some, Act.put, List.setIfInBounds_toArray, List.set_cons_succ, List.set_cons_zero]
        rw [e0, e1, e2, e5, e6]
        generalize vs 3 = u7_3
        generalize vs 4 = u7_4
        clear e0 e1 e2 e5 e6 hC hn E7 hL vs L nb
        clear TC
        go_wp2
        go_roundw
        case rel => exact ⟨j + 1, by have := HJ.out; omega, by first | go_num | (rw [hw]; go_num), by rw [hm2.out]; exact E⟩
        case measure => first | exact measJ (by have := HE.out; have := HJ.out; omega) | (rw [hw]; exact measJ (by have := HE.out; have := HJ.out; omega))
    · have TL : Hid (¬ (j : Int) + 1 < ((l : Nat) : Int)) := by have := HE.out; show ¬ _; omega
      have hm2 : Hid (greatQ a r = m) := by show _ = _; rw [HM.out, List.take_of_length_le (by omega)]
      clear hjl hj
      go_upto_region 3 with (fail)
      refine region_fr (C := [Fq.is (.int .i64 ((j : Int) + 1)), Fq.is (.slice (some ⟨b, 0, none⟩) l l), Fq.is (.int .i64 ((l : Nat) : Int)), Fq.is (.bool false)]) (ks := [none, none]) (new := []) E rfl (by kernel_rfl) rfl rfl (fun hp => ⟨?_, ?_, ?_, ?_, trivial⟩) ?_
      · exact q_move hp (free_of rfl) trivial (sq_out rfl rfl (fun _ _ => rfl))
      · exact q_move hp (free_of rfl) trivial (sq_out rfl rfl (fun _ _ => rfl))
      · exact q_lenR hp (free_of rfl) trivial (sq_in 1 rfl rfl (by simp) rfl (fun v w h => h)) (fun _ => rfl)
      · exact q_two (F := fun v _ => v = .int .i64 ((j : Int) + 1)) (G := fun v _ => v = .int .i64 ((l : Nat) : Int)) hp (free_of rfl) trivial (sq_in 0 rfl rfl (by simp) rfl (fun v w h => h)) (sq_in 2 rfl rfl (by simp) rfl (fun v w h => h)) (fun ρ w hc h h' => ⟨.bool false, by simp [execOp, go_sem, h, h', TL.out], rfl⟩)
      intro L vs w8 nb hL hC hn E8
      have e0 : vs 0 = .int .i64 ((j : Int) + 1) := hC 0 (by simp)
      have e1 : vs 1 = .slice (some ⟨b, 0, none⟩) l l := hC 1 (by simp)
      have e2 : vs 2 = .int .i64 ((l : Nat) : Int) := hC 2 (by simp)
      have e3 : vs 3 = .bool false := hC 3 (by simp)
      have E : Fr w [(b2_3, 4, Fq.pair m.num (m.den : Int)), (b1, 4, Fq.pair 0 0)] w8 := E8
      rw [lay_all hL]
      simp only [putAll, dstOf, List.length_cons, List.length_nil, Nat.zero_add, Nat.reduceAdd, List.getElem?_toArray, List.getElem?_cons_zero, List.getElem?_cons_succ, Option.bind_some, Act.put, List.setIfInBounds_toArray, List.set_cons_succ, List.set_cons_zero]
      rw [e0, e1, e2, e3]
      clear e0 e1 e2 e3 hC hn E8 hL vs L nb
      clear TL
      go_upto_region 7 with (fail)
      refine region_fr (C := [Fq.pair m.num (m.den : Int), Fq.any]) (ks := [none, some (1, Fq.pair m.num (m.den : Int))]) (new := []) E rfl (by kernel_rfl) rfl rfl (fun hp => ⟨?_, ?_, trivial⟩) ?_
      · exact q_loadRat hp (free_of rfl) trivial (List.mem_iff_getElem?.2 ⟨0, rfl⟩) (.inl rfl) rfl (sq_out rfl rfl (fun _ _ => rfl)) (fun us w hl h => h)
      · exact q_storeOldRat hp (List.mem_iff_getElem?.2 ⟨1, rfl⟩) rfl rfl (sq_out rfl rfl (fun _ _ => rfl)) (sq_in 0 rfl rfl (by simp) rfl (fun v w h => ratV_pair h)) (fun _ _ => trivial) (newik_ne rfl)
      intro L vs w9 nb hL hC hn E9
      have E : Fr w [(b2_3, 4, Fq.pair m.num (m.den : Int)), (b1, 4, Fq.pair m.num (m.den : Int))] w9 := E9
      rw [lay_all hL]
      simp only [putAll, dstOf, List.length_cons, List.length_nil, Nat.zero_add, Nat.reduceAdd, List.getElem?_toArray, List.getElem?_cons_zero, List.getElem?_cons_succ, Option.bind_some, Act.put, List.setIfInBounds_toArray, List.set_cons_succ, List.set_cons_zero]
      generalize vs 0 = u9_0
      clear  hC hn E9 hL vs L nb
      clear HB HR HL HE HM Bm
      obtain ⟨p0, p1, p2, p3, c0, c1, c2, c3, hP⟩ := box_pair (E.box 1 rfl)
      go_wp2
      refine bodyPost_ret (v := .agg #[p0, p1, p2, p3]) ?_ rfl ⟨_, rfl, E.below, by rw [hm2.out]; exact hP⟩
      simp [results, Tryz.results72, go_sem, c0, c1, c2, c3]

set_option maxRecDepth 100000 in
set_option maxHeartbeats 4000000 in
theorem exHull {w : World} {v : Value} {b l : Nat} {a : Rat} {r : List Rat} (h : Pair w v a.num a.den) (hb : Bq w b (l * 4) (Fq.rats (r.map prQ))) (hl : l = r.length) (hl2 : l ≤ 100) (ha : Rb a 300) (hR : ∀ q ∈ r, Rb q 300) :
    Calls Tryz.prog 73 #[v, .slice (some ⟨b, 0, none⟩) l l] w fun e w' => ∃ v', e = .returned v' ∧ Below w.heap.size w w' ∧ Ivl w' v' (leastQ a r).num ((leastQ a r).den : Int) (greatQ a r).num ((greatQ a r).den : Int) := by
  replace ha := hidd ha
  have HB := hidd hb
  have HR := hidd hR
  have HL := hidd hl2
  have HE := hidd hl
  clear hb hR hl2 hl
  obtain ⟨n0, ao0, k0, c0, n0', ao0', k0', c0', rfl, _⟩ := ratV_pair h
  obtain ⟨w1, b1, hw1, hb1, hs1, E⟩ := fr_start w (F := Fq.pair a.num (a.den : Int)) (us := [.bool n0, .slice ao0 k0 c0, .bool n0', .slice ao0' k0' c0']) 31 rfl (by simp) (tame_rat _ _ _ _ _ _ _ _) h
  obtain ⟨w2, b2, hw2, hb2, hs2, E⟩ := fr_more E hs1 (F := Fq.ivl 0 0 0 0) (us := [.bool false, .slice none 0 0, .bool false, .slice none 0 0, .bool false, .slice none 0 0, .bool false, .slice none 0 0]) 47 rfl (by simp) (tame_ivl _ _ _ _ _ _ _ _ _ _ _ _ _ _ _ _) (Ivl.zero _)
  go_enter Tryz.func73, Tryz.ntmps73
  go_upto_region 1 with (fail)
  rw [← hw1]
  rw [← hw2]
  rw [← hb2]
  rw [← hb1]
  clear hw1 hw2 hb1 hb2 hs2 hs1
  refine region_fr (C := [Fq.pair a.num (a.den : Int), Fq.pair a.num (a.den : Int), Fq.any, Fq.any, Fq.any, Fq.any]) (ks := [none, none]) (new := [⟨2, 4, 4, Fq.pair 0 0, Fq.pair a.num (a.den : Int), none⟩, ⟨3, 5, 4, Fq.pair 0 0, Fq.pair a.num (a.den : Int), none⟩]) E rfl (by kernel_rfl) rfl rfl (fun hp => ⟨?_, ?_, ?_, ?_, ?_, ?_, trivial⟩) ?_
  · exact q_loadRat hp (free_of rfl) trivial (List.mem_iff_getElem?.2 ⟨1, rfl⟩) (.inl rfl) rfl (sq_out rfl rfl (fun _ _ => rfl)) (fun us w hl h => h)
  · exact q_loadRat hp (free_of rfl) trivial (List.mem_iff_getElem?.2 ⟨1, rfl⟩) (.inl rfl) rfl (sq_out rfl rfl (fun _ _ => rfl)) (fun us w hl h => h)
  · exact q_allocRat hp (List.mem_iff_getElem?.2 ⟨0, rfl⟩) rfl rfl rfl rfl (Nat.ne_of_beq_eq_false rfl) (fun _ _ => trivial) (old_ne rfl) (newk_ne rfl) (fun w => Pair.zero w)
  · exact q_allocRat hp (List.mem_iff_getElem?.2 ⟨1, rfl⟩) rfl rfl rfl rfl (Nat.ne_of_beq_eq_false rfl) (fun _ _ => trivial) (old_ne rfl) (newk_ne rfl) (fun w => Pair.zero w)
  · exact q_storeNewRat hp (List.mem_iff_getElem?.2 ⟨0, rfl⟩) rfl rfl rfl (own_ptr rfl rfl (by simp) rfl) (sq_in 0 rfl rfl (by simp) rfl (fun v w h => ratV_pair h)) (fun _ _ => trivial) (old_ne rfl) (newi_ne rfl)
  · exact q_storeNewRat hp (List.mem_iff_getElem?.2 ⟨1, rfl⟩) rfl rfl rfl (own_ptr rfl rfl (by simp) rfl) (sq_in 1 rfl rfl (by simp) rfl (fun v w h => ratV_pair h)) (fun _ _ => trivial) (old_ne rfl) (newi_ne rfl)
  intro L vs w3 nb hL hC hn E3
  have e2 : vs 2 = .pointer (some ⟨nb 2, 0, none⟩) := hn _ (List.mem_iff_getElem?.2 ⟨0, rfl⟩)
  have e3 : vs 3 = .pointer (some ⟨nb 3, 0, none⟩) := hn _ (List.mem_iff_getElem?.2 ⟨1, rfl⟩)
  have E : Fr w [(nb 2, 4, Fq.pair a.num (a.den : Int)), (nb 3, 4, Fq.pair a.num (a.den : Int)), (b2, 8, Fq.ivl 0 0 0 0), (b1, 4, Fq.pair a.num (a.den : Int))] w3 := E3
  rw [lay_all hL]
  simp only [putAll, dstOf, List.length_cons, List.length_nil, Nat.zero_add, Nat.reduceAdd, List.getElem?_toArray, List.getElem?_cons_zero, List.getElem?_cons_succ, Option.bind_some, Act.put, List.setIfInBounds_toArray, List.set_cons_succ, List.set_cons_zero]
  rw [e2, e3]
  generalize nb 2 = b3_2 at E ⊢
  generalize nb 3 = b3_3 at E ⊢
  generalize vs 0 = u3_0
  generalize vs 1 = u3_1
  clear e2 e3 hC hn E3 hL vs L nb
  go_upto_region 2 with (fail)
  refine region_fr (C := [Fq.is (.slice (some ⟨b, 0, none⟩) l l), Fq.is (.int .i64 ((l : Nat) : Int)), Fq.is (.int .i64 0)]) (ks := [none, none, none, none]) (new := []) E rfl (by kernel_rfl) rfl rfl (fun hp => ⟨?_, ?_, ?_, trivial⟩) ?_
  · exact q_move hp (free_of rfl) trivial (sq_out rfl rfl (fun _ _ => rfl))
  · exact q_lenR hp (free_of rfl) trivial (sq_in 0 rfl rfl (by simp) rfl (fun v w h => h)) (fun _ => rfl)
  · exact q_move hp (free_of rfl) trivial (sq_const (fun _ => rfl))
  intro L vs w4 nb hL hC hn E4
  have e0 : vs 0 = .slice (some ⟨b, 0, none⟩) l l := hC 0 (by simp)
  have e1 : vs 1 = .int .i64 ((l : Nat) : Int) := hC 1 (by simp)
  have e2 : vs 2 = .int .i64 0 := hC 2 (by simp)
  have E : Fr w [(b3_2, 4, Fq.pair a.num (a.den : Int)), (b3_3, 4, Fq.pair a.num (a.den : Int)), (b2, 8, Fq.ivl 0 0 0 0), (b1, 4, Fq.pair a.num (a.den : Int))] w4 := E4
  rw [lay_all hL]
  simp only [putAll, dstOf, List.length_cons, List.length_nil, Nat.zero_add, Nat.reduceAdd, List.getElem?_toArray, List.getElem?_cons_zero, List.getElem?_cons_succ, Option.bind_some, Act.put, List.setIfInBounds_toArray, List.set_cons_succ, List.set_cons_zero]
  rw [e0, e1, e2]
  clear e0 e1 e2 hC hn E4 hL vs L nb
  have HS := hidd E
  go_upto_region 3 with (fail)
  go_loopw [13] (fun vi W => ∃ j : Nat, j ≤ r.length ∧ vi = .int .i64 (j : Int) ∧ Fr w [(b3_2, 4, Fq.pair (leastQ a (r.take j)).num ((leastQ a (r.take j)).den : Int)), (b3_3, 4, Fq.pair (greatQ a (r.take j)).num ((greatQ a (r.take j)).den : Int)), (b2, 8, Fq.ivl 0 0 0 0), (b1, 4, Fq.pair a.num (a.den : Int))] W) (fun vi _ => l - (intOf vi).toNat)
  case atStart => exact ⟨0, Nat.zero_le _, rfl, HS.out⟩
  case round =>
    obtain ⟨j, hj, rfl, E⟩ := hrel
    clear HS
    obtain ⟨m, hm⟩ : ∃ m, m = leastQ a (r.take j) := ⟨_, rfl⟩
    rw [← hm] at E
    have Bm : Hid (Rb m 300) := by rw [hm]; exact rb_least ha.out (fun q hq => HR.out q (List.mem_of_mem_take hq))
    have Hm := hidd hm
    clear hm
    obtain ⟨n, hn⟩ : ∃ n, n = greatQ a (r.take j) := ⟨_, rfl⟩
    rw [← hn] at E
    have Bn : Hid (Rb n 300) := by rw [hn]; exact rb_great ha.out (fun q hq => HR.out q (List.mem_of_mem_take hq))
    have Hn := hidd hn
    clear hn
    by_cases hjl : j < r.length
    · obtain ⟨q, hq1, hq2, hq3⟩ := at_map hjl
      have Bq : Hid (Rb q 300) := HR.out q hq3
      have TL : Hid ((j : Int) < ((l : Nat) : Int)) := by have := HE.out; show _ < _; omega
      have HJ := hidd hjl
      have hw : wrap64 ((j : Int) + 1) = (j : Int) + 1 := by have := HL.out; have := HE.out; simp only [wrap64]; omega
      have HQ1 := hidd hq1
      have HQ2 := hidd hq2
      clear hq1 hq2 hq3 hjl hj
      go_upto_region 3 with (fail)
      refine region_fr (C := [Fq.is (.bool true)]) (ks := [none, none, none, none]) (new := []) E rfl (by kernel_rfl) rfl rfl (fun hp => ⟨?_, trivial⟩) ?_
      · exact q_two (F := fun v _ => v = .int .i64 ((j : Nat) : Int)) (G := fun v _ => v = .int .i64 ((l : Nat) : Int)) hp (free_of rfl) trivial (sq_out (s := 13) rfl rfl (fun _ _ => rfl)) (sq_out (s := 12) rfl rfl (fun _ _ => rfl)) (fun ρ w hc h h' => ⟨.bool true, by simp [execOp, go_sem, h, h', TL.out], rfl⟩)
      intro L vs w5 nb hL hC hn E5
      have e0 : vs 0 = .bool true := hC 0 (by simp)
      have E : Fr w [(b3_2, 4, Fq.pair m.num (m.den : Int)), (b3_3, 4, Fq.pair n.num (n.den : Int)), (b2, 8, Fq.ivl 0 0 0 0), (b1, 4, Fq.pair a.num (a.den : Int))] w5 := E5
      rw [lay_all hL]
      simp only [putAll, dstOf, List.length_cons, List.length_nil, Nat.zero_add, List.getElem?_toArray, List.getElem?_cons_zero, Option.bind_some, Act.put, List.setIfInBounds_toArray, List.set_cons_succ, List.set_cons_zero]
      rw [e0]
      clear e0 hC hn E5 hL vs L nb
      clear TL
      go_upto_region 4 with (fail)
      refine region_fr (C := [Fq.is (.pointer (some ⟨b, j * 4, none⟩)), Fq.pair q.num (q.den : Int), Fq.any, Fq.any]) (ks := [none, none, none, none]) (new := [⟨2, 3, 4, Fq.pair 0 0, Fq.pair q.num (q.den : Int), none⟩]) E rfl (by kernel_rfl) rfl rfl (fun hp => ⟨?_, ?_, ?_, ?_, trivial⟩) ?_
      · exact q_index (b := b) (l := l) (k := j) hp (free_of rfl) trivial (sq_out rfl rfl (fun _ _ => rfl)) (sq_out rfl rfl (fun _ _ => rfl)) (by have := HE.out; have := HJ.out; omega) (fun _ => rfl)
      · exact q_loadRatOut (off := j * 4) hp (free_of rfl) trivial HB.out rfl (by have := HE.out; have := HJ.out; omega) (sq_in 0 rfl rfl (by simp) rfl (fun v w h => h)) (fun us w hl h => ld_rats (qs := r.map prQ) (k := j) HQ2.out h)
      · exact q_allocRat hp (List.mem_iff_getElem?.2 ⟨0, rfl⟩) rfl rfl rfl rfl (Nat.ne_of_beq_eq_false rfl) (fun _ _ => trivial) (old_ne rfl) (newk_ne rfl) (fun w => Pair.zero w)
      · exact q_storeNewRat hp (List.mem_iff_getElem?.2 ⟨0, rfl⟩) rfl rfl rfl (own_ptr rfl rfl (by simp) rfl) (sq_in 1 rfl rfl (by simp) rfl (fun v w h => ratV_pair h)) (fun _ _ => trivial) (old_ne rfl) (newi_ne rfl)
      intro L vs w6 nb hL hC hn E6
      have e0 : vs 0 = .pointer (some ⟨b, j * 4, none⟩) := hC 0 (by simp)
      have e2 : vs 2 = .pointer (some ⟨nb 2, 0, none⟩) := hn _ (List.mem_iff_getElem?.2 ⟨0, rfl⟩)
      have E : Fr w [(nb 2, 4, Fq.pair q.num (q.den : Int)), (b3_2, 4, Fq.pair m.num (m.den : Int)), (b3_3, 4, Fq.pair n.num (n.den : Int)), (b2, 8, Fq.ivl 0 0 0 0), (b1, 4, Fq.pair a.num (a.den : Int))] w6 := E6
      rw [lay_all hL]
      simp only [putAll, dstOf, List.length_cons, List.length_nil, Nat.zero_add, Nat.reduceAdd, List.getElem?_toArray, List.getElem?_cons_zero, List.getElem?_cons_succ, Option.bind_some, Act.put, List.setIfInBounds_toArray, List.set_cons_succ, List.set_cons_zero]
      rw [e0, e2]
      generalize nb 2 = b6_2 at E ⊢
      generalize vs 1 = u6_1
      clear e0 e2 hC hn E6 hL vs L nb
      have el : Hid (leastQ a (r.take (j + 1)) = if q < m then q else m) := by show _ = _; rw [take_snoc HQ1.out, least_snoc, ← Hm.out]
      have eg : Hid (greatQ a (r.take (j + 1)) = if n < q then q else n) := by show _ = _; rw [take_snoc HQ1.out, great_snoc, ← Hn.out]
      by_cases hlt : q < m
      · have TC := hidd (cmpQ_lt.2 hlt)
        have e1 : Hid (leastQ a (r.take (j + 1)) = q) := by show _ = _; rw [el.out, if_pos hlt]
        clear hlt
        go_upto_region 5 with (fail)
        refine region_fr (C := [Fq.pair q.num (q.den : Int), Fq.pair m.num (m.den : Int), Fq.is (.int .i64 (cmpQ q m)), Fq.is (.bool true)]) (ks := [none, none, none, none, none]) (new := []) E rfl (by kernel_rfl) rfl rfl (fun hp => ⟨?_, ?_, ?_, ?_, trivial⟩) ?_
        · exact q_loadRat hp (free_of rfl) trivial (List.mem_iff_getElem?.2 ⟨0, rfl⟩) (.inl rfl) rfl (sq_out rfl rfl (fun _ _ => rfl)) (fun us w hl h => h)
        · exact q_loadRat hp (free_of rfl) trivial (List.mem_iff_getElem?.2 ⟨1, rfl⟩) (.inl rfl) rfl (sq_out rfl rfl (fun _ _ => rfl)) (fun us w hl h => h)
        · exact q_call2 (F := (Fq.pair q.num (q.den : Int)).P) (G := (Fq.pair m.num (m.den : Int)).P) hp (free_of rfl) trivial (enq_Q_Cmp) (sq_in 0 rfl rfl (by simp) rfl (fun v w h => h)) (sq_in 1 rfl rfl (by simp) rfl (fun v w h => h)) (fun v v' w h h' => exCmpQ h h' (rb_le Bq.out (by omega)) (rb_le Bm.out (by omega)))
        · exact q_one (F := fun v _ => v = .int .i64 (cmpQ q m)) hp (free_of rfl) trivial (sq_in 2 rfl rfl (by simp) rfl (fun v w h => h)) (fun ρ w hc h => ⟨.bool true, by simp [execOp, go_sem, h, hc, TC.out], rfl⟩)
        intro L vs w7 nb hL hC hn E7
        have e2 : vs 2 = .int .i64 (cmpQ q m) := hC 2 (by simp)
        have e3 : vs 3 = .bool true := hC 3 (by simp)
        have E : Fr w [(b6_2, 4, Fq.pair q.num (q.den : Int)), (b3_2, 4, Fq.pair m.num (m.den : Int)), (b3_3, 4, Fq.pair n.num (n.den : Int)), (b2, 8, Fq.ivl 0 0 0 0), (b1, 4, Fq.pair a.num (a.den : Int))] w7 := E7
        rw [lay_all hL]
        simp only [putAll, dstOf, List.length_cons, List.length_nil, Nat.zero_add, Nat.reduceAdd, List.getElem?_toArray, List.getElem?_cons_zero, List.getElem?_cons_succ, Option.bind_some, Act.put, List.setIfInBounds_toArray, List.set_cons_succ, List.set_cons_zero]
        rw [e2, e3]
        generalize vs 0 = u7_0
        generalize vs 1 = u7_1
        clear e2 e3 hC hn E7 hL vs L nb
        clear TC
        go_upto_region 6 with (fail)
        refine region_fr (C := [Fq.pair q.num (q.den : Int), Fq.any]) (ks := [none, some (1, Fq.pair q.num (q.den : Int)), none, none, none]) (new := []) E rfl (by kernel_rfl) rfl rfl (fun hp => ⟨?_, ?_, trivial⟩) ?_
        · exact q_loadRat hp (free_of rfl) trivial (List.mem_iff_getElem?.2 ⟨0, rfl⟩) (.inl rfl) rfl (sq_out rfl rfl (fun _ _ => rfl)) (fun us w hl h => h)
        · exact q_storeOldRat hp (List.mem_iff_getElem?.2 ⟨1, rfl⟩) rfl rfl (sq_out rfl rfl (fun _ _ => rfl)) (sq_in 0 rfl rfl (by simp) rfl (fun v w h => ratV_pair h)) (fun _ _ => trivial) (newik_ne rfl)
        intro L vs w8 nb hL hC hn E8
        have E : Fr w [(b6_2, 4, Fq.pair q.num (q.den : Int)), (b3_2, 4, Fq.pair q.num (q.den : Int)), (b3_3, 4, Fq.pair n.num (n.den : Int)), (b2, 8, Fq.ivl 0 0 0 0), (b1, 4, Fq.pair a.num (a.den : Int))] w8 := E8
        rw [lay_all hL]
        simp only [putAll, dstOf, List.length_cons, List.length_nil, Nat.zero_add, Nat.reduceAdd, List.getElem?_toArray, List.getElem?_cons_zero, List.getElem?_cons_succ, Option.bind_some, Act.put, List.setIfInBounds_toArray, List.set_cons_succ, List.set_cons_zero]
        generalize vs 0 = u8_0
        clear  hC hn E8 hL vs L nb
        by_cases hgt : n < q
        · have TC := hidd (cmpQ_gt.2 hgt)
          have e2 : Hid (greatQ a (r.take (j + 1)) = q) := by show _ = _; rw [eg.out, if_pos hgt]
          clear hgt
          go_upto_region 7 with (fail)
          refine region_fr (C := [Fq.pair q.num (q.den : Int), Fq.pair n.num (n.den : Int), Fq.is (.int .i64 (cmpQ q n)), Fq.is (.bool true)]) (ks := [none, none, none, none, none]) (new := []) E rfl (by kernel_rfl) rfl rfl (fun hp => ⟨?_, ?_, ?_, ?_, trivial⟩) ?_
          · exact q_loadRat hp (free_of rfl) trivial (List.mem_iff_getElem?.2 ⟨0, rfl⟩) (.inl rfl) rfl (sq_out rfl rfl (fun _ _ => rfl)) (fun us w hl h => h)
          · exact q_loadRat hp (free_of rfl) trivial (List.mem_iff_getElem?.2 ⟨2, rfl⟩) (.inl rfl) rfl (sq_out rfl rfl (fun _ _ => rfl)) (fun us w hl h => h)
          · exact q_call2 (F := (Fq.pair q.num (q.den : Int)).P) (G := (Fq.pair n.num (n.den : Int)).P) hp (free_of rfl) trivial (enq_Q_Cmp) (sq_in 0 rfl rfl (by simp) rfl (fun v w h => h)) (sq_in 1 rfl rfl (by simp) rfl (fun v w h => h)) (fun v v' w h h' => exCmpQ h h' (rb_le Bq.out (by omega)) (rb_le Bn.out (by omega)))
          · exact q_one (F := fun v _ => v = .int .i64 (cmpQ q n)) hp (free_of rfl) trivial (sq_in 2 rfl rfl (by simp) rfl (fun v w h => h)) (fun ρ w hc h => ⟨.bool true, by simp [execOp, go_sem, h, hc, TC.out], rfl⟩)
          intro L vs w9 nb hL hC hn E9
          have e2 : vs 2 = .int .i64 (cmpQ q n) := hC 2 (by simp)
          have e3 : vs 3 = .bool true := hC 3 (by simp)
          have E : Fr w [(b6_2, 4, Fq.pair q.num (q.den : Int)), (b3_2, 4, Fq.pair q.num (q.den : Int)), (b3_3, 4, Fq.pair n.num (n.den : Int)), (b2, 8, Fq.ivl 0 0 0 0), (b1, 4, Fq.pair a.num (a.den : Int))] w9 := E9
          rw [lay_all hL]
          simp only [putAll, dstOf, List.length_cons, List.length_nil, Nat.zero_add, Nat.reduceAdd, List.getElem?_toArray, List.getElem?_cons_zero, List.getElem?_cons_succ, Option.bind_some, Act.put, List.setIfInBounds_toArray, List.set_cons_succ, List.set_cons_zero]
          rw [e2, e3]
          generalize vs 0 = u9_0
          generalize vs 1 = u9_1
          clear e2 e3 hC hn E9 hL vs L nb
          clear TC
          go_upto_region 8 with (fail)
          refine region_fr (C := [Fq.pair q.num (q.den : Int), Fq.any]) (ks := [none, none, some (1, Fq.pair q.num (q.den : Int)), none, none]) (new := []) E rfl (by kernel_rfl) rfl rfl (fun hp => ⟨?_, ?_, trivial⟩) ?_
          · exact q_loadRat hp (free_of rfl) trivial (List.mem_iff_getElem?.2 ⟨0, rfl⟩) (.inl rfl) rfl (sq_out rfl rfl (fun _ _ => rfl)) (fun us w hl h => h)
          · exact q_storeOldRat hp (List.mem_iff_getElem?.2 ⟨2, rfl⟩) rfl rfl (sq_out rfl rfl (fun _ _ => rfl)) (sq_in 0 rfl rfl (by simp) rfl (fun v w h => ratV_pair h)) (fun _ _ => trivial) (newik_ne rfl)
          intro L vs w10 nb hL hC hn E10
          have E : Fr w [(b6_2, 4, Fq.pair q.num (q.den : Int)), (b3_2, 4, Fq.pair q.num (q.den : Int)), (b3_3, 4, Fq.pair q.num (q.den : Int)), (b2, 8, Fq.ivl 0 0 0 0), (b1, 4, Fq.pair a.num (a.den : Int))] w10 := E10
          rw [lay_all hL]
          simp only [putAll, dstOf, List.length_cons, List.length_nil, Nat.zero_add, Nat.reduceAdd, List.getElem?_toArray, List.getElem?_cons_zero, List.getElem?_cons_succ, Option.bind_some, Act.put, List.setIfInBounds_toArray, List.set_cons_succ, List.set_cons_zero]
          generalize vs 0 = u10_0
          clear  hC hn E10 hL vs L nb
          go_wp2
          go_roundw
          case rel => exact ⟨j + 1, by have := HJ.out; omega, by first | go_num | (rw [hw]; go_num), by rw [e1.out, e2.out]; exact E.drop⟩
          case measure => first | exact measI (by have := HE.out; have := HJ.out; omega) | (rw [hw]; exact measI (by have := HE.out; have := HJ.out; omega))
        · have TC := hidd (mt cmpQ_gt.1 hgt)
          have e2 : Hid (greatQ a (r.take (j + 1)) = n) := by show _ = _; rw [eg.out, if_neg hgt]
          clear hgt
          go_upto_region 7 with (fail)
          refine region_fr (C := [Fq.pair q.num (q.den : Int), Fq.pair n.num (n.den : Int), Fq.is (.int .i64 (cmpQ q n)), Fq.is (.bool false)]) (ks := [none, none, none, none, none]) (new := []) E rfl (by kernel_rfl) rfl rfl (fun hp => ⟨?_, ?_, ?_, ?_, trivial⟩) ?_
          · exact q_loadRat hp (free_of rfl) trivial (List.mem_iff_getElem?.2 ⟨0, rfl⟩) (.inl rfl) rfl (sq_out rfl rfl (fun _ _ => rfl)) (fun us w hl h => h)
          · exact q_loadRat hp (free_of rfl) trivial (List.mem_iff_getElem?.2 ⟨2, rfl⟩) (.inl rfl) rfl (sq_out rfl rfl (fun _ _ => rfl)) (fun us w hl h => h)
          · exact q_call2 (F := (Fq.pair q.num (q.den : Int)).P) (G := (Fq.pair n.num (n.den : Int)).P) hp (free_of rfl) trivial (enq_Q_Cmp) (sq_in 0 rfl rfl (by simp) rfl (fun v w h => h)) (sq_in 1 rfl rfl (by simp) rfl (fun v w h => h)) (fun v v' w h h' => exCmpQ h h' (rb_le Bq.out (by omega)) (rb_le Bn.out (by omega)))
          · exact q_one (F := fun v _ => v = .int .i64 (cmpQ q n)) hp (free_of rfl) trivial (sq_in 2 rfl rfl (by simp) rfl (fun v w h => h)) (fun ρ w hc h => ⟨.bool false, by simp [execOp, go_sem, h, hc, TC.out], rfl⟩)
          intro L vs w11 nb hL hC hn E11
          have e2 : vs 2 = .int .i64 (cmpQ q n) := hC 2 (by simp)
          have e3 : vs 3 = .bool false := hC 3 (by simp)
          have E : Fr w [(b6_2, 4, Fq.pair q.num (q.den : Int)), (b3_2, 4, Fq.pair q.num (q.den : Int)), (b3_3, 4, Fq.pair n.num (n.den : Int)), (b2, 8, Fq.ivl 0 0 0 0), (b1, 4, Fq.pair a.num (a.den : Int))] w11 := E11
          rw [lay_all hL]
          simp only [putAll, dstOf, List.length_cons, List.length_nil, Nat.zero_add, Nat.reduceAdd, List.getElem?_toArray, List.getElem?_cons_zero, List.getElem?_cons_succ, Option.bind_some, Act.put, List.setIfInBounds_toArray, List.set_cons_succ, List.set_cons_zero]
          rw [e2, e3]
          generalize vs 0 = u11_0
          generalize vs 1 = u11_1
          clear e2 e3 hC hn E11 hL vs L nb
          clear TC
          go_wp2
          go_roundw
          case rel => exact ⟨j + 1, by have := HJ.out; omega, by first | go_num | (rw [hw]; go_num), by rw [e1.out, e2.out]; exact E.drop⟩
          case measure => first | exact measI (by have := HE.out; have := HJ.out; omega) | (rw [hw]; exact measI (by have := HE.out; have := HJ.out; omega))
      · have TC := hidd (mt cmpQ_lt.1 hlt)
        have e1 : Hid (leastQ a (r.take (j + 1)) = m) := by show _ = _; rw [el.out, if_neg hlt]
        clear hlt
        go_upto_region 5 with (fail)
        refine region_fr (C := [Fq.pair q.num (q.den : Int), Fq.pair m.num (m.den : Int), Fq.is (.int .i64 (cmpQ q m)), Fq.is (.bool false)]) (ks := [none, none, none, none, none]) (new := []) E rfl (by kernel_rfl) rfl rfl (fun hp => ⟨?_, ?_, ?_, ?_, trivial⟩) ?_
        · exact q_loadRat hp (free_of rfl) trivial (List.mem_iff_getElem?.2 ⟨0, rfl⟩) (.inl rfl) rfl (sq_out rfl rfl (fun _ _ => rfl)) (fun us w hl h => h)
        · exact q_loadRat hp (free_of rfl) trivial (List.mem_iff_getElem?.2 ⟨1, rfl⟩) (.inl rfl) rfl (sq_out rfl rfl (fun _ _ => rfl)) (fun us w hl h => h)
        · exact q_call2 (F := (Fq.pair q.num (q.den : Int)).P) (G := (Fq.pair m.num (m.den : Int)).P) hp (free_of rfl) trivial (enq_Q_Cmp) (sq_in 0 rfl rfl (by simp) rfl (fun v w h => h)) (sq_in 1 rfl rfl (by simp) rfl (fun v w h => h)) (fun v v' w h h' => exCmpQ h h' (rb_le Bq.out (by omega)) (rb_le Bm.out (by omega)))
        · exact q_one (F := fun v _ => v = .int .i64 (cmpQ q m)) hp (free_of rfl) trivial (sq_in 2 rfl rfl (by simp) rfl (fun v w h => h)) (fun ρ w hc h => ⟨.bool false, by simp [execOp, go_sem, h, hc, TC.out], rfl⟩)
        intro L vs w12 nb hL hC hn E12
        have e2 : vs 2 = .int .i64 (cmpQ q m) := hC 2 (by simp)
        have e3 : vs 3 = .bool false := hC 3 (by simp)
        have E : Fr w [(b6_2, 4, Fq.pair q.num (q.den : Int)), (b3_2, 4, Fq.pair m.num (m.den : Int)), (b3_3, 4, Fq.pair n.num (n.den : Int)), (b2, 8, Fq.ivl 0 0 0 0), (b1, 4, Fq.pair a.num (a.den : Int))] w12 := E12
        rw [lay_all hL]
        simp only [putAll, dstOf, List.length_cons, List.length_nil, Nat.zero_add, Nat.reduceAdd, List.getElem?_toArray, List.getElem?_cons_zero, List.getElem?_cons_succ, Option.bind_some, Act.put, List.setIfInBounds_toArray, List.set_cons_succ, List.set_cons_zero]
        rw [e2, e3]
        generalize vs 0 = u12_0
        generalize vs 1 = u12_1
        clear e2 e3 hC hn E12 hL vs L nb
        clear TC
        by_cases hgt : n < q
        · have TC := hidd (cmpQ_gt.2 hgt)
          have e2 : Hid (greatQ a (r.take (j + 1)) = q) := by show _ = _; rw [eg.out, if_pos hgt]
          clear hgt
          go_upto_region 7 with (fail)
          refine region_fr (C := [Fq.pair q.num (q.den : Int), Fq.pair n.num (n.den : Int), Fq.is (.int .i64 (cmpQ q n)), Fq.is (.bool true)]) (ks := [none, none, none, none, none]) (new := []) E rfl (by kernel_rfl) rfl rfl (fun hp => ⟨?_, ?_, ?_, ?_, trivial⟩) ?_
          · exact q_loadRat hp (free_of rfl) trivial (List.mem_iff_getElem?.2 ⟨0, rfl⟩) (.inl rfl) rfl (sq_out rfl rfl (fun _ _ => rfl)) (fun us w hl h => h)
          · exact q_loadRat hp (free_of rfl) trivial (List.mem_iff_getElem?.2 ⟨2, rfl⟩) (.inl rfl) rfl (sq_out rfl rfl (fun _ _ => rfl)) (fun us w hl h => h)
          · exact q_call2 (F := (Fq.pair q.num (q.den : Int)).P) (G := (Fq.pair n.num (n.den : Int)).P) hp (free_of rfl) trivial (enq_Q_Cmp) (sq_in 0 rfl rfl (by simp) rfl (fun v w h => h)) (sq_in 1 rfl rfl (by simp) rfl (fun v w h => h)) (fun v v' w h h' => exCmpQ h h' (rb_le Bq.out (by omega)) (rb_le Bn.out (by omega)))
          · exact q_one (F := fun v _ => v = .int .i64 (cmpQ q n)) hp (free_of rfl) trivial (sq_in 2 rfl rfl (by simp) rfl (fun v w h => h)) (fun ρ w hc h => ⟨.bool true, by simp [execOp, go_sem, h, hc, TC.out], rfl⟩)
          intro L vs w13 nb hL hC hn E13
          have e2 : vs 2 = .int .i64 (cmpQ q n) := hC 2 (by simp)
          have e3 : vs 3 = .bool true := hC 3 (by simp)
          have E : Fr w [(b6_2, 4, Fq.pair q.num (q.den : Int)), (b3_2, 4, Fq.pair m.num (m.den : Int)), (b3_3, 4, Fq.pair n.num (n.den : Int)), (b2, 8, Fq.ivl 0 0 0 0), (b1, 4, Fq.pair a.num (a.den : Int))] w13 := E13
          rw [lay_all hL]
          simp only [putAll, dstOf, List.length_cons, List.length_nil, Nat.zero_add, Nat.reduceAdd, List.getElem?_toArray, List.getElem?_cons_zero, List.getElem?_cons_succ, Option.bind_some, Act.put, List.setIfInBounds_toArray, List.set_cons_succ, List.set_cons_zero]
          rw [e2, e3]
          generalize vs 0 = u13_0
          generalize vs 1 = u13_1
          clear e2 e3 hC hn E13 hL vs L nb
          clear TC
          go_upto_region 8 with (fail)
          refine region_fr (C := [Fq.pair q.num (q.den : Int), Fq.any]) (ks := [none, none, some (1, Fq.pair q.num (q.den : Int)), none, none]) (new := []) E rfl (by kernel_rfl) rfl rfl (fun hp => ⟨?_, ?_, trivial⟩) ?_
          · exact q_loadRat hp (free_of rfl) trivial (List.mem_iff_getElem?.2 ⟨0, rfl⟩) (.inl rfl) rfl (sq_out rfl rfl (fun _ _ => rfl)) (fun us w hl h => h)
          · exact q_storeOldRat hp (List.mem_iff_getElem?.2 ⟨2, rfl⟩) rfl rfl (sq_out rfl rfl (fun _ _ => rfl)) (sq_in 0 rfl rfl (by simp) rfl (fun v w h => ratV_pair h)) (fun _ _ => trivial) (newik_ne rfl)
          intro L vs w14 nb hL hC hn E14
          have E : Fr w [(b6_2, 4, Fq.pair q.num (q.den : Int)), (b3_2, 4, Fq.pair m.num (m.den : Int)), (b3_3, 4, Fq.pair q.num (q.den : Int)), (b2, 8, Fq.ivl 0 0 0 0), (b1, 4, Fq.pair a.num (a.den : Int))] w14 := E14
          rw [lay_all hL]
          simp only [putAll, dstOf, List.length_cons, List.length_nil, Nat.zero_add, Nat.reduceAdd, List.getElem?_toArray, List.getElem?_cons_zero, List.getElem?_cons_succ, Option.bind_some, Act.put, List.setIfInBounds_toArray, List.set_cons_succ, List.set_cons_zero]
          generalize vs 0 = u14_0
          clear  hC hn E14 hL vs L nb
          go_wp2
          go_roundw
          case rel => exact ⟨j + 1, by have := HJ.out; omega, by first | go_num | (rw [hw]; go_num), by rw [e1.out, e2.out]; exact E.drop⟩
          case measure => first | exact measI (by have := HE.out; have := HJ.out; omega) | (rw [hw]; exact measI (by have := HE.out; have := HJ.out; omega))
        · have TC := hidd (mt cmpQ_gt.1 hgt)
          have e2 : Hid (greatQ a (r.take (j + 1)) = n) := by show _ = _; rw [eg.out, if_neg hgt]
          clear hgt
          go_upto_region 7 with (fail)
          refine region_fr (C := [Fq.pair q.num (q.den : Int), Fq.pair n.num (n.den : Int), Fq.is (.int .i64 (cmpQ q n)), Fq.is (.bool false)]) (ks := [none, none, none, none, none]) (new := []) E rfl (by kernel_rfl) rfl rfl (fun hp => ⟨?_, ?_, ?_, ?_, trivial⟩) ?_
          · exact q_loadRat hp (free_of rfl) trivial (List.mem_iff_getElem?.2 ⟨0, rfl⟩) (.inl rfl) rfl (sq_out rfl rfl (fun _ _ => rfl)) (fun us w hl h => h)
          · exact q_loadRat hp (free_of rfl) trivial (List.mem_iff_getElem?.2 ⟨2, rfl⟩) (.inl rfl) rfl (sq_out rfl rfl (fun _ _ => rfl)) (fun us w hl h => h)
          · exact q_call2 (F := (Fq.pair q.num (q.den : Int)).P) (G := (Fq.pair n.num (n.den : Int)).P) hp (free_of rfl) trivial (enq_Q_Cmp) (sq_in 0 rfl rfl (by simp) rfl (fun v w h => h)) (sq_in 1 rfl rfl (by simp) rfl (fun v w h => h)) (fun v v' w h h' => exCmpQ h h' (rb_le Bq.out (by omega)) (rb_le Bn.out (by omega)))
          · exact q_one (F := fun v _ => v = .int .i64 (cmpQ q n)) hp (free_of rfl) trivial (sq_in 2 rfl rfl (by simp) rfl (fun v w h => h)) (fun ρ w hc h => ⟨.bool false, by simp [execOp, go_sem, h, hc, TC.out], rfl⟩)
          intro L vs w15 nb hL hC hn E15
          have e2 : vs 2 = .int .i64 (cmpQ q n) := hC 2 (by simp)
          have e3 : vs 3 = .bool false := hC 3 (by simp)
          have E : Fr w [(b6_2, 4, Fq.pair q.num (q.den : Int)), (b3_2, 4, Fq.pair m.num (m.den : Int)), (b3_3, 4, Fq.pair n.num (n.den : Int)), (b2, 8, Fq.ivl 0 0 0 0), (b1, 4, Fq.pair a.num (a.den : Int))] w15 := E15
          rw [lay_all hL]
          simp only [putAll, dstOf, List.length_cons, List.length_nil, Nat.zero_add, Nat.reduceAdd, List.getElem?_toArray, List.getElem?_cons_zero, List.getElem?_cons_succ, Option.bind_some, Act.put, List.setIfInBounds_toArray, List.set_cons_succ, List.set_cons_zero]
          rw [e2, e3]
          generalize vs 0 = u15_0
          generalize vs 1 = u15_1
          clear e2 e3 hC hn E15 hL vs L nb
          clear TC
          go_wp2
          go_roundw
          case rel => exact ⟨j + 1, by have := HJ.out; omega, by first | go_num | (rw [hw]; go_num), by rw [e1.out, e2.out]; exact E.drop⟩
          case measure => first | exact measI (by have := HE.out; have := HJ.out; omega) | (rw [hw]; exact measI (by have := HE.out; have := HJ.out; omega))
    · have TL : Hid (¬ (j : Int) < ((l : Nat) : Int)) := by have := HE.out; show ¬ _; omega
      have e1 : Hid (leastQ a r = m) := by show _ = _; rw [Hm.out, List.take_of_length_le (by omega)]
      have e2 : Hid (greatQ a r = n) := by show _ = _; rw [Hn.out, List.take_of_length_le (by omega)]
      clear hjl hj
      go_upto_region 3 with (fail)
      refine region_fr (C := [Fq.is (.bool false)]) (ks := [none, none, none, none]) (new := []) E rfl (by kernel_rfl) rfl rfl (fun hp => ⟨?_, trivial⟩) ?_
      · exact q_two (F := fun v _ => v = .int .i64 ((j : Nat) : Int)) (G := fun v _ => v = .int .i64 ((l : Nat) : Int)) hp (free_of rfl) trivial (sq_out (s := 13) rfl rfl (fun _ _ => rfl)) (sq_out (s := 12) rfl rfl (fun _ _ => rfl)) (fun ρ w hc h h' => ⟨.bool false, by simp [execOp, go_sem, h, h', TL.out], rfl⟩)
      intro L vs w16 nb hL hC hn E16
      have e0 : vs 0 = .bool false := hC 0 (by simp)
      have E : Fr w [(b3_2, 4, Fq.pair m.num (m.den : Int)), (b3_3, 4, Fq.pair n.num (n.den : Int)), (b2, 8, Fq.ivl 0 0 0 0), (b1, 4, Fq.pair a.num (a.den : Int))] w16 := E16
      rw [lay_all hL]
      simp only [putAll, dstOf, List.length_cons, List.length_nil, Nat.zero_add, List.getElem?_toArray, List.getElem?_cons_zero, Option.bind_some, Act.put, List.setIfInBounds_toArray, List.set_cons_succ, List.set_cons_zero]
      rw [e0]
      clear e0 hC hn E16 hL vs L nb
      clear TL
      go_upto_region 10 with (fail)
      refine region_fr (C := [Fq.pair m.num (m.den : Int), Fq.pair m.num (m.den : Int), Fq.pair n.num (n.den : Int), Fq.pair n.num (n.den : Int), Fq.ivl m.num (m.den : Int) n.num (n.den : Int), Fq.any]) (ks := [none, none, some (5, Fq.ivl m.num (m.den : Int) n.num (n.den : Int)), none]) (new := []) E rfl (by kernel_rfl) rfl rfl (fun hp => ⟨?_, ?_, ?_, ?_, ?_, ?_, trivial⟩) ?_
      · exact q_loadRat hp (free_of rfl) trivial (List.mem_iff_getElem?.2 ⟨0, rfl⟩) (.inl rfl) rfl (sq_out rfl rfl (fun _ _ => rfl)) (fun us w hl h => h)
      · exact q_call1 (F := (Fq.pair m.num (m.den : Int)).P) hp (free_of rfl) trivial (enq_Q_copied) (sq_in 0 rfl rfl (by simp) rfl (fun v w h => h)) (fun v w h => exCopied h)
      · exact q_loadRat hp (free_of rfl) trivial (List.mem_iff_getElem?.2 ⟨1, rfl⟩) (.inl rfl) rfl (sq_out rfl rfl (fun _ _ => rfl)) (fun us w hl h => h)
      · exact q_call1 (F := (Fq.pair n.num (n.den : Int)).P) hp (free_of rfl) trivial (enq_Q_copied) (sq_in 2 rfl rfl (by simp) rfl (fun v w h => h)) (fun v w h => exCopied h)
      · exact q_buildIvl hp (free_of rfl) trivial (sq_in 1 rfl rfl (by simp) rfl (fun v w h => h)) (sq_in 3 rfl rfl (by simp) rfl (fun v w h => h)) (fun v w h => h)
      · exact q_storeOldIvl hp (List.mem_iff_getElem?.2 ⟨2, rfl⟩) rfl rfl (sq_out rfl rfl (fun _ _ => rfl)) (sq_in 4 rfl rfl (by simp) rfl (fun v w h => h.parts)) (fun _ _ => trivial) (newik_ne rfl)
      intro L vs w17 nb hL hC hn E17
      have E : Fr w [(b3_2, 4, Fq.pair m.num (m.den : Int)), (b3_3, 4, Fq.pair n.num (n.den : Int)), (b2, 8, Fq.ivl m.num (m.den : Int) n.num (n.den : Int)), (b1, 4, Fq.pair a.num (a.den : Int))] w17 := E17
      rw [lay_all hL]
      simp only [putAll, dstOf, List.length_cons, List.length_nil, Nat.zero_add, Nat.reduceAdd, List.getElem?_toArray, List.getElem?_cons_zero, List.getElem?_cons_succ, Option.bind_some, Act.put, List.setIfInBounds_toArray, List.set_cons_succ, List.set_cons_zero]
      generalize vs 0 = u17_0
      generalize vs 1 = u17_1
      generalize vs 2 = u17_2
      generalize vs 3 = u17_3
      generalize vs 4 = u17_4
      clear  hC hn E17 hL vs L nb
      clear HB HR HL HE Hm Hn Bm Bn
      obtain ⟨p0, p1, p2, p3, p4, p5, p6, p7, c0, c1, c2, c3, c4, c5, c6, c7, hP⟩ := box_ivl (E.box 2 rfl)
      clear ha
      go_wp2
      refine bodyPost_ret (v := .agg #[p0, p1, p2, p3, p4, p5, p6, p7]) ?_ rfl ⟨_, rfl, E.below, by rw [e1.out, e2.out]; exact hP⟩
      simp [results, Tryz.results73, go_sem, c0, c1, c2, c3, c4, c5, c6, c7]

end Go.Proofs.YtoimphnhmpmipaaGreat
