/- Yh, Yi, Yj, Yk, Yr, Va, Vc, Vd. -/
import Derived.Test.YtoimphnhmpmipaaGreatBh4
import Derived.Laws.EntriesVeiled
import Derived.Lib.LazyBuf
/- Walks: Valid; Parse of "2/4"; the simplest fraction. -/
namespace Go.Proofs.YtoimphnhmpmipaaGreat
open Go Go.RowKit

theorem num_valid {w : World} {v : Value} {z : Int} (h : Num w v z) : ∃ n ao k c xs, v = .agg #[.bool n, .slice ao k c] ∧ Sl w ao k c xs ∧ k ≤ 900000 ∧ validB n xs = true := by
  obtain ⟨neg, ao, n, c, xs, rfl, hs, hn, _, hc, hnn⟩ := h
  refine ⟨neg, ao, n, c, xs, rfl, hs, hn, ?_⟩
  unfold validB
  split
  · rename_i h0
    have h1 : n = 0 := by rw [← hs.len]; exact h0
    cases neg
    · rfl
    · exact absurd h1 (hnn rfl)
  · rename_i h0
    have h1 : pw (xs.length - 1) ≤ val xs := by
      rcases hc.2 with h | h
      · exact absurd h h0
      · exact h
    rw [bne_iff_ne]
    intro h2
    have h3 := val_take_succ xs (xs.length - 1)
    rw [show xs.length - 1 + 1 = xs.length by omega, List.take_length, h2, Int.mul_zero, Int.add_zero] at h3
    have h4 := val_lt (hs.digs.take (xs.length - 1))
    have h5 := pw_le (show (xs.take (xs.length - 1)).length ≤ xs.length - 1 by rw [List.length_take]; omega)
    omega

theorem exIsValid {w : World} {v : Value} {z : Int} (h : Num w v z) : Calls Tryz.prog 82 #[v] w fun e w' => ∃ v', e = .returned v' ∧ Below w.heap.size w w' ∧ v' = .bool true := by
  obtain ⟨n, ao, k, c, xs, rfl, hs, hk, hv⟩ := num_valid h
  refine (Valid_any w n ao k c xs hs (by omega)).mono fun e w' hh => ⟨_, hh.1, hh.2, ?_⟩
  rw [hv]
theorem exParseI {w : World} {s : ByteArray} {z : Int} (h : bys s = intText z) (hl : (intText z).length ≤ 1300) : Calls Tryz.prog 106 #[.string s] w fun e w' => ∃ v', e = .returned v' ∧ Below w.heap.size w w' ∧ (Fq.tup2 (Fq.num z) (Fq.is (.int .i64 0))).P v' w' := by
  refine (Parse_any w s).mono fun e w' hh => ?_
  rw [h] at hh
  obtain ⟨hb, ⟨h1, _⟩ | ⟨_, h2, _⟩ | ⟨h1, h2, v, rfl, hi⟩⟩ := hh
  · omega
  · exact absurd ⟨z, rfl⟩ h2
  · rw [tval_text] at hi
    obtain ⟨K, hK⟩ : ∃ K : Nat, K = 1301 := ⟨_, rfl⟩
    have hz : ab z < pw K := by
      by_cases hzz : ab z < pw K
      · exact hzz
      · exfalso
        have h3 : 10 ^ K ≤ z.natAbs := by
          have : ∀ k : Nat, ((10 ^ k : Nat) : Int) ≤ pw k := fun k => by
            induction k with
            | zero => simp [pw]
            | succ k ih => rw [Nat.pow_succ, pw_succ, Int.natCast_mul]; have := pw_pos k; omega
          have h4 := this K
          unfold ab at hzz
          omega
        have h5 := decs_long K z.natAbs h3
        have h6 : K < (intText z).length := by
          unfold intText sizeText
          have h7 : z.natAbs ≠ 0 := by
            have : 0 < 10 ^ K := Nat.pow_pos (by omega)
            omega
          rw [if_neg h7]
          split
          · rw [List.length_cons, List.length_reverse]; omega
          · rw [List.length_reverse]; omega
        omega
    exact ⟨_, rfl, hb, _, _, rfl, num_of hi hz (by omega), rfl⟩

set_option maxRecDepth 100000 in
set_option maxHeartbeats 4000000 in
theorem exValidQ {w : World} {v : Value} {a : Rat} (h : Pair w v a.num a.den) (ha : Rb a 100) :
    Calls Tryz.prog 54 #[v] w fun e w' => ∃ v', e = .returned v' ∧ Below w.heap.size w w' ∧ v' = .bool true := by
  replace ha := hidd ha
  obtain ⟨n0, ao0, k0, c0, n0', ao0', k0', c0', rfl, _⟩ := ratV_pair h
  obtain ⟨w1, b1, hw1, hb1, hs1, E⟩ := fr_start w (F := Fq.pair a.num (a.den : Int)) (us := [.bool n0, .slice ao0 k0 c0, .bool n0', .slice ao0' k0' c0']) 31 rfl (by simp) (tame_rat _ _ _ _ _ _ _ _) h
  go_enter Tryz.func54, Tryz.ntmps54
  go_upto_region 1 with (fail)
  rw [← hw1]
  rw [← hb1]
  clear hw1 hb1 hs1
  have T : Hid (0 < cmpI (a.den : Int) 0) := cmpIqgt.2 (den_pos a)
  have B2 : Hid (ab ((Int.gcd a.num (a.den : Int) : Int)) < pw 100) := ab_gcdB ha.out.1 ha.out.2 (by omega) (by omega)
  refine region_fr (C := [Fq.is (.pointer (some ⟨b1, 0, none⟩)), Fq.num a.num, Fq.is (.bool true), Fq.is (.bool true), Fq.is (.pointer (some ⟨b1, 2, none⟩)), Fq.num (a.den : Int), Fq.is (.bool true), Fq.is (.bool true), Fq.is (.bool true), Fq.is (.pointer (some ⟨b1, 2, none⟩)), Fq.num (a.den : Int), Fq.is (.int .i64 (cmpI (a.den : Int) 0)), Fq.is (.bool true), Fq.is (.bool true), Fq.is (.bool true), Fq.is (.pointer (some ⟨b1, 0, none⟩)), Fq.num a.num, Fq.is (.pointer (some ⟨b1, 2, none⟩)), Fq.num (a.den : Int), Fq.num (Int.gcd a.num (a.den : Int) : Int), Fq.is (.bool true), Fq.is (.bool true), Fq.is (.bool true)]) (ks := [none]) (new := []) E rfl (by kernel_rfl) rfl rfl (fun hp => ⟨?_, ?_, ?_, ?_, ?_, ?_, ?_, ?_, ?_, ?_, ?_, ?_, ?_, ?_, ?_, ?_, ?_, ?_, ?_, ?_, ?_, ?_, ?_, trivial⟩) ?_
  · exact q_addr (b := b1) (off := 0) (off' := 0) hp (free_of rfl) trivial (sq_out rfl rfl (fun _ _ => rfl)) (fun ρ w h => by simp [execOp, go_sem, h]) (fun _ => rfl)
  · exact q_loadInt (off := 0) hp (free_of rfl) trivial (List.mem_iff_getElem?.2 ⟨0, rfl⟩) (.inl rfl) (Nat.le_of_ble_eq_true rfl) (sq_in 0 rfl rfl (by simp) rfl (fun v w h => h)) (fun us w hl h => ld_pn hl h)
  · exact q_call1 (F := (Fq.num a.num).P) hp (free_of rfl) trivial (enq_Valid) (sq_in 1 rfl rfl (by simp) rfl (fun v w h => h)) (fun v w h => exIsValid h)
  · exact q_move hp (free_of rfl) trivial (sq_in 2 rfl rfl (by simp) rfl (fun v w h => h))
  · exact q_addr (b := b1) (off := 0) (off' := 2) hp (free_of rfl) (gq_some rfl rfl (by simp) rfl (fun v w h => h)) (sq_out rfl rfl (fun _ _ => rfl)) (fun ρ w h => by simp [execOp, go_sem, h]) (fun _ => rfl)
  · exact q_loadInt (off := 2) hp (free_of rfl) (gq_some rfl rfl (by simp) rfl (fun v w h => h)) (List.mem_iff_getElem?.2 ⟨0, rfl⟩) (.inl rfl) (Nat.le_of_ble_eq_true rfl) (sq_in 4 rfl rfl (by simp) rfl (fun v w h => h)) (fun us w hl h => ld_pd hl h)
  · exact q_call1 (F := (Fq.num (a.den : Int)).P) hp (free_of rfl) (gq_some rfl rfl (by simp) rfl (fun v w h => h)) (enq_Valid) (sq_in 5 rfl rfl (by simp) rfl (fun v w h => h)) (fun v w h => exIsValid h)
  · exact q_two (F := fun v _ => v = .bool true) (G := fun v _ => v = .bool true) hp (free_of rfl) trivial (sq_in 3 rfl rfl (by simp) rfl (fun v w h => h)) (sq_in 6 rfl rfl (by simp) rfl (fun v w h => h)) (fun ρ w hc h h' => ⟨_, by simp [execOp, go_sem, h, h'], rfl⟩)
  · exact q_move hp (free_of rfl) trivial (sq_in 7 rfl rfl (by simp) rfl (fun v w h => h))
  · exact q_addr (b := b1) (off := 0) (off' := 2) hp (free_of rfl) (gq_some rfl rfl (by simp) rfl (fun v w h => h)) (sq_out rfl rfl (fun _ _ => rfl)) (fun ρ w h => by simp [execOp, go_sem, h]) (fun _ => rfl)
  · exact q_loadInt (off := 2) hp (free_of rfl) (gq_some rfl rfl (by simp) rfl (fun v w h => h)) (List.mem_iff_getElem?.2 ⟨0, rfl⟩) (.inl rfl) (Nat.le_of_ble_eq_true rfl) (sq_in 9 rfl rfl (by simp) rfl (fun v w h => h)) (fun us w hl h => ld_pd hl h)
  · exact q_call1 (F := (Fq.num (a.den : Int)).P) hp (free_of rfl) (gq_some rfl rfl (by simp) rfl (fun v w h => h)) (enq_Sign) (sq_in 10 rfl rfl (by simp) rfl (fun v w h => h)) (fun v w h => exSign h)
  · exact q_one (F := fun v _ => v = .int .i64 (cmpI (a.den : Int) 0)) hp (free_of rfl) (gq_some rfl rfl (by simp) rfl (fun v w h => h)) (sq_in 11 rfl rfl (by simp) rfl (fun v w h => h)) (fun ρ w hc h => ⟨.bool true, by simp [execOp, go_sem, h, hc, T.out], rfl⟩)
  · exact q_two (F := fun v _ => v = .bool true) (G := fun v _ => v = .bool true) hp (free_of rfl) trivial (sq_in 8 rfl rfl (by simp) rfl (fun v w h => h)) (sq_in 12 rfl rfl (by simp) rfl (fun v w h => h)) (fun ρ w hc h h' => ⟨_, by simp [execOp, go_sem, h, h'], rfl⟩)
  · exact q_move hp (free_of rfl) trivial (sq_in 13 rfl rfl (by simp) rfl (fun v w h => h))
  · exact q_addr (b := b1) (off := 0) (off' := 0) hp (free_of rfl) (gq_some rfl rfl (by simp) rfl (fun v w h => h)) (sq_out rfl rfl (fun _ _ => rfl)) (fun ρ w h => by simp [execOp, go_sem, h]) (fun _ => rfl)
  · exact q_loadInt (off := 0) hp (free_of rfl) (gq_some rfl rfl (by simp) rfl (fun v w h => h)) (List.mem_iff_getElem?.2 ⟨0, rfl⟩) (.inl rfl) (Nat.le_of_ble_eq_true rfl) (sq_in 15 rfl rfl (by simp) rfl (fun v w h => h)) (fun us w hl h => ld_pn hl h)
  · exact q_addr (b := b1) (off := 0) (off' := 2) hp (free_of rfl) (gq_some rfl rfl (by simp) rfl (fun v w h => h)) (sq_out rfl rfl (fun _ _ => rfl)) (fun ρ w h => by simp [execOp, go_sem, h]) (fun _ => rfl)
  · exact q_loadInt (off := 2) hp (free_of rfl) (gq_some rfl rfl (by simp) rfl (fun v w h => h)) (List.mem_iff_getElem?.2 ⟨0, rfl⟩) (.inl rfl) (Nat.le_of_ble_eq_true rfl) (sq_in 17 rfl rfl (by simp) rfl (fun v w h => h)) (fun us w hl h => ld_pd hl h)
  · exact q_call2 (F := (Fq.num a.num).P) (G := (Fq.num (a.den : Int)).P) hp (free_of rfl) (gq_some rfl rfl (by simp) rfl (fun v w h => h)) (enq_Gcd) (sq_in 16 rfl rfl (by simp) rfl (fun v w h => h)) (sq_in 18 rfl rfl (by simp) rfl (fun v w h => h)) (fun v v' w h h' => exK (GcdV h h') B2.out (by omega))
  · exact q_call1 (F := (Fq.num (Int.gcd a.num (a.den : Int) : Int)).P) hp (free_of rfl) (gq_some rfl rfl (by simp) rfl (fun v w h => h)) (enq_Q_isOne) (sq_in 19 rfl rfl (by simp) rfl (fun v w h => h)) (fun v w h => exIsOneB h (by rw [rat_cop]; rfl))
  · exact q_two (F := fun v _ => v = .bool true) (G := fun v _ => v = .bool true) hp (free_of rfl) trivial (sq_in 14 rfl rfl (by simp) rfl (fun v w h => h)) (sq_in 20 rfl rfl (by simp) rfl (fun v w h => h)) (fun ρ w hc h h' => ⟨_, by simp [execOp, go_sem, h, h'], rfl⟩)
  · exact q_assign hp (free_of rfl) trivial (sq_in 21 rfl rfl (by simp) rfl (fun v w h => h))
  intro L vs w3 nb hL hC hn E3
  have e0 : vs 0 = .pointer (some ⟨b1, 0, none⟩) := hC 0 (by simp)
  have e2 : vs 2 = .bool true := hC 2 (by simp)
  have e3 : vs 3 = .bool true := hC 3 (by simp)
  have e4 : vs 4 = .pointer (some ⟨b1, 2, none⟩) := hC 4 (by simp)
  have e6 : vs 6 = .bool true := hC 6 (by simp)
  have e7 : vs 7 = .bool true := hC 7 (by simp)
  have e8 : vs 8 = .bool true := hC 8 (by simp)
  have e9 : vs 9 = .pointer (some ⟨b1, 2, none⟩) := hC 9 (by simp)
  have e11 : vs 11 = .int .i64 (cmpI (a.den : Int) 0) := hC 11 (by simp)
  have e12 : vs 12 = .bool true := hC 12 (by simp)
  have e13 : vs 13 = .bool true := hC 13 (by simp)
  have e14 : vs 14 = .bool true := hC 14 (by simp)
  have e15 : vs 15 = .pointer (some ⟨b1, 0, none⟩) := hC 15 (by simp)
  have e17 : vs 17 = .pointer (some ⟨b1, 2, none⟩) := hC 17 (by simp)
  have e20 : vs 20 = .bool true := hC 20 (by simp)
  have e21 : vs 21 = .bool true := hC 21 (by simp)
  have e22 : vs 22 = .bool true := hC 22 (by simp)
  have E : Fr w [(b1, 4, Fq.pair a.num (a.den : Int))] w3 := E3
  rw [lay_all hL]
  simp only [putAll, dstOf, List.length_cons, List.length_nil, Nat.zero_add, Nat.reduceAdd, List.getElem?_toArray, List.getElem?_cons_zero, List.getElem?_cons_succ, Option.bind_some, Act.put, List.setIfInBounds_toArray, List.set_cons_succ, List.set_cons_zero]
  rw [e0, e2, e3, e4, e6, e7, e8, e9, e11, e12, e13, e14, e15, e17, e20, e21, e22]
  generalize vs 1 = u3_1
  generalize vs 5 = u3_5
  generalize vs 10 = u3_10
  generalize vs 16 = u3_16
  generalize vs 18 = u3_18
  generalize vs 19 = u3_19
  clear e0 e2 e3 e4 e6 e7 e8 e9 e11 e12 e13 e14 e15 e17 e20 e21 e22 hC hn E3 hL vs L nb
  clear B2 ha
  go_wp2
  refine bodyPost_ret (v := .bool true) ?_ rfl (by first | exact ⟨_, rfl, E.below, rfl⟩ | exact ⟨_, rfl, E.below⟩ | exact ⟨rfl, E.below⟩)
  simp [results, Tryz.results54, go_sem]

set_option maxRecDepth 100000 in
set_option maxHeartbeats 4000000 in
theorem exValidN {w : World} {v : Value} {n d : Int} (h : Pair w v n d) (hd0 : ¬ 0 < d) :
    Calls Tryz.prog 54 #[v] w fun e w' => ∃ v', e = .returned v' ∧ Below w.heap.size w w' ∧ v' = .bool false := by
  obtain ⟨n0, ao0, k0, c0, n0', ao0', k0', c0', rfl, _⟩ := ratV_pair h
  obtain ⟨w1, b1, hw1, hb1, hs1, E⟩ := fr_start w (F := Fq.pair n d) (us := [.bool n0, .slice ao0 k0 c0, .bool n0', .slice ao0' k0' c0']) 31 rfl (by simp) (tame_rat _ _ _ _ _ _ _ _) h
  go_enter Tryz.func54, Tryz.ntmps54
  go_upto_region 1 with (fail)
  rw [← hw1]
  rw [← hb1]
  clear hw1 hb1 hs1
  have T : Hid (¬ 0 < cmpI d 0) := fun e => hd0 (cmpIqgt.1 e)
  refine region_fr (C := [Fq.is (.pointer (some ⟨b1, 0, none⟩)), Fq.num n, Fq.is (.bool true), Fq.is (.bool true), Fq.is (.pointer (some ⟨b1, 2, none⟩)), Fq.num d, Fq.is (.bool true), Fq.is (.bool true), Fq.is (.bool true), Fq.is (.pointer (some ⟨b1, 2, none⟩)), Fq.num d, Fq.is (.int .i64 (cmpI d 0)), Fq.is (.bool false), Fq.is (.bool false), Fq.is (.bool false), Fq.is (undef), Fq.is (undef), Fq.is (undef), Fq.is (undef), Fq.is (undef), Fq.is (undef), Fq.is (.bool false), Fq.is (.bool false)]) (ks := [none]) (new := []) E rfl (by kernel_rfl) rfl rfl (fun hp => ⟨?_, ?_, ?_, ?_, ?_, ?_, ?_, ?_, ?_, ?_, ?_, ?_, ?_, ?_, ?_, ?_, ?_, ?_, ?_, ?_, ?_, ?_, ?_, trivial⟩) ?_
  · exact q_addr (b := b1) (off := 0) (off' := 0) hp (free_of rfl) trivial (sq_out rfl rfl (fun _ _ => rfl)) (fun ρ w h => by simp [execOp, go_sem, h]) (fun _ => rfl)
  · exact q_loadInt (off := 0) hp (free_of rfl) trivial (List.mem_iff_getElem?.2 ⟨0, rfl⟩) (.inl rfl) (Nat.le_of_ble_eq_true rfl) (sq_in 0 rfl rfl (by simp) rfl (fun v w h => h)) (fun us w hl h => ld_pn hl h)
  · exact q_call1 (F := (Fq.num n).P) hp (free_of rfl) trivial (enq_Valid) (sq_in 1 rfl rfl (by simp) rfl (fun v w h => h)) (fun v w h => exIsValid h)
  · exact q_move hp (free_of rfl) trivial (sq_in 2 rfl rfl (by simp) rfl (fun v w h => h))
  · exact q_addr (b := b1) (off := 0) (off' := 2) hp (free_of rfl) (gq_some rfl rfl (by simp) rfl (fun v w h => h)) (sq_out rfl rfl (fun _ _ => rfl)) (fun ρ w h => by simp [execOp, go_sem, h]) (fun _ => rfl)
  · exact q_loadInt (off := 2) hp (free_of rfl) (gq_some rfl rfl (by simp) rfl (fun v w h => h)) (List.mem_iff_getElem?.2 ⟨0, rfl⟩) (.inl rfl) (Nat.le_of_ble_eq_true rfl) (sq_in 4 rfl rfl (by simp) rfl (fun v w h => h)) (fun us w hl h => ld_pd hl h)
  · exact q_call1 (F := (Fq.num d).P) hp (free_of rfl) (gq_some rfl rfl (by simp) rfl (fun v w h => h)) (enq_Valid) (sq_in 5 rfl rfl (by simp) rfl (fun v w h => h)) (fun v w h => exIsValid h)
  · exact q_two (F := fun v _ => v = .bool true) (G := fun v _ => v = .bool true) hp (free_of rfl) trivial (sq_in 3 rfl rfl (by simp) rfl (fun v w h => h)) (sq_in 6 rfl rfl (by simp) rfl (fun v w h => h)) (fun ρ w hc h h' => ⟨_, by simp [execOp, go_sem, h, h'], rfl⟩)
  · exact q_move hp (free_of rfl) trivial (sq_in 7 rfl rfl (by simp) rfl (fun v w h => h))
  · exact q_addr (b := b1) (off := 0) (off' := 2) hp (free_of rfl) (gq_some rfl rfl (by simp) rfl (fun v w h => h)) (sq_out rfl rfl (fun _ _ => rfl)) (fun ρ w h => by simp [execOp, go_sem, h]) (fun _ => rfl)
  · exact q_loadInt (off := 2) hp (free_of rfl) (gq_some rfl rfl (by simp) rfl (fun v w h => h)) (List.mem_iff_getElem?.2 ⟨0, rfl⟩) (.inl rfl) (Nat.le_of_ble_eq_true rfl) (sq_in 9 rfl rfl (by simp) rfl (fun v w h => h)) (fun us w hl h => ld_pd hl h)
  · exact q_call1 (F := (Fq.num d).P) hp (free_of rfl) (gq_some rfl rfl (by simp) rfl (fun v w h => h)) (enq_Sign) (sq_in 10 rfl rfl (by simp) rfl (fun v w h => h)) (fun v w h => exSign h)
  · exact q_one (F := fun v _ => v = .int .i64 (cmpI d 0)) hp (free_of rfl) (gq_some rfl rfl (by simp) rfl (fun v w h => h)) (sq_in 11 rfl rfl (by simp) rfl (fun v w h => h)) (fun ρ w hc h => ⟨.bool false, by simp [execOp, go_sem, h, hc, T.out], rfl⟩)
  · exact q_two (F := fun v _ => v = .bool true) (G := fun v _ => v = .bool false) hp (free_of rfl) trivial (sq_in 8 rfl rfl (by simp) rfl (fun v w h => h)) (sq_in 12 rfl rfl (by simp) rfl (fun v w h => h)) (fun ρ w hc h h' => ⟨_, by simp [execOp, go_sem, h, h'], rfl⟩)
  · exact q_move hp (free_of rfl) trivial (sq_in 13 rfl rfl (by simp) rfl (fun v w h => h))
  · exact q_skip hp (free_of rfl) rfl (gq_some rfl rfl (by simp) rfl (fun v w h => h)) (fun _ => rfl)
  · exact q_skip hp (free_of rfl) rfl (gq_some rfl rfl (by simp) rfl (fun v w h => h)) (fun _ => rfl)
  · exact q_skip hp (free_of rfl) rfl (gq_some rfl rfl (by simp) rfl (fun v w h => h)) (fun _ => rfl)
  · exact q_skip hp (free_of rfl) rfl (gq_some rfl rfl (by simp) rfl (fun v w h => h)) (fun _ => rfl)
  · exact q_skip hp (free_of rfl) rfl (gq_some rfl rfl (by simp) rfl (fun v w h => h)) (fun _ => rfl)
  · exact q_skip hp (free_of rfl) rfl (gq_some rfl rfl (by simp) rfl (fun v w h => h)) (fun _ => rfl)
  · exact q_two (F := fun v _ => v = .bool false) (G := fun v _ => v = .bool false) hp (free_of rfl) trivial (sq_in 14 rfl rfl (by simp) rfl (fun v w h => h)) (sq_const (fun _ => rfl)) (fun ρ w hc h h' => ⟨_, by simp [execOp, go_sem, h, h'], rfl⟩)
  · exact q_assign hp (free_of rfl) trivial (sq_in 21 rfl rfl (by simp) rfl (fun v w h => h))
  intro L vs w2 nb hL hC hn E2
  have e0 : vs 0 = .pointer (some ⟨b1, 0, none⟩) := hC 0 (by simp)
  have e2 : vs 2 = .bool true := hC 2 (by simp)
  have e3 : vs 3 = .bool true := hC 3 (by simp)
  have e4 : vs 4 = .pointer (some ⟨b1, 2, none⟩) := hC 4 (by simp)
  have e6 : vs 6 = .bool true := hC 6 (by simp)
  have e7 : vs 7 = .bool true := hC 7 (by simp)
  have e8 : vs 8 = .bool true := hC 8 (by simp)
  have e9 : vs 9 = .pointer (some ⟨b1, 2, none⟩) := hC 9 (by simp)
  have e11 : vs 11 = .int .i64 (cmpI d 0) := hC 11 (by simp)
  have e12 : vs 12 = .bool false := hC 12 (by simp)
  have e13 : vs 13 = .bool false := hC 13 (by simp)
  have e14 : vs 14 = .bool false := hC 14 (by simp)
  have e15 : vs 15 = undef := hC 15 (by simp)
  have e16 : vs 16 = undef := hC 16 (by simp)
  have e17 : vs 17 = undef := hC 17 (by simp)
  have e18 : vs 18 = undef := hC 18 (by simp)
  have e19 : vs 19 = undef := hC 19 (by simp)
  have e20 : vs 20 = undef := hC 20 (by simp)
  have e21 : vs 21 = .bool false := hC 21 (by simp)
  have e22 : vs 22 = .bool false := hC 22 (by simp)
  have E : Fr w [(b1, 4, Fq.pair n d)] w2 := E2
  rw [lay_all hL]
  simp only [putAll, dstOf, List.length_cons, List.length_nil, Nat.zero_add, Nat.reduceAdd, List.getElem?_toArray, List.getElem?_cons_zero, List.getElem?_cons_succ, Option.bind_some, Act.put, List.setIfInBounds_toArray, List.set_cons_succ, List.set_cons_zero]
  rw [e0, e2, e3, e4, e6, e7, e8, e9, e11, e12, e13, e14, e15, e16, e17, e18, e19, e20, e21, e22]
  generalize vs 1 = u2_1
  generalize vs 5 = u2_5
  generalize vs 10 = u2_10
  clear e0 e2 e3 e4 e6 e7 e8 e9 e11 e12 e13 e14 e15 e16 e17 e18 e19 e20 e21 e22 hC hn E2 hL vs L nb
  go_wp2
  refine bodyPost_ret (v := .bool false) ?_ rfl (by first | exact ⟨_, rfl, E.below, rfl⟩ | exact ⟨_, rfl, E.below⟩ | exact ⟨rfl, E.below⟩)
  simp [results, Tryz.results54, go_sem]

set_option maxRecDepth 100000 in
set_option maxHeartbeats 4000000 in
theorem exValidG {w : World} {v : Value} {n d : Int} (h : Pair w v n d) (hn : ab n < pw 200) (hd : ab d < pw 200) (hd0 : 0 < d) (hg : Int.gcd n d ≠ 1) :
    Calls Tryz.prog 54 #[v] w fun e w' => ∃ v', e = .returned v' ∧ Below w.heap.size w w' ∧ v' = .bool false := by
  replace hn := hidd hn
  replace hd := hidd hd
  obtain ⟨n0, ao0, k0, c0, n0', ao0', k0', c0', rfl, _⟩ := ratV_pair h
  obtain ⟨w1, b1, hw1, hb1, hs1, E⟩ := fr_start w (F := Fq.pair n d) (us := [.bool n0, .slice ao0 k0 c0, .bool n0', .slice ao0' k0' c0']) 31 rfl (by simp) (tame_rat _ _ _ _ _ _ _ _) h
  go_enter Tryz.func54, Tryz.ntmps54
  go_upto_region 1 with (fail)
  rw [← hw1]
  rw [← hb1]
  clear hw1 hb1 hs1
  have T : Hid (0 < cmpI d 0) := cmpIqgt.2 hd0
  have B2 : Hid (ab ((Int.gcd n d : Int)) < pw 200) := ab_gcdB hn.out hd.out (by omega) (by omega)
  refine region_fr (C := [Fq.is (.pointer (some ⟨b1, 0, none⟩)), Fq.num n, Fq.is (.bool true), Fq.is (.bool true), Fq.is (.pointer (some ⟨b1, 2, none⟩)), Fq.num d, Fq.is (.bool true), Fq.is (.bool true), Fq.is (.bool true), Fq.is (.pointer (some ⟨b1, 2, none⟩)), Fq.num d, Fq.is (.int .i64 (cmpI d 0)), Fq.is (.bool true), Fq.is (.bool true), Fq.is (.bool true), Fq.is (.pointer (some ⟨b1, 0, none⟩)), Fq.num n, Fq.is (.pointer (some ⟨b1, 2, none⟩)), Fq.num d, Fq.num (Int.gcd n d : Int), Fq.is (.bool false), Fq.is (.bool false), Fq.is (.bool false)]) (ks := [none]) (new := []) E rfl (by kernel_rfl) rfl rfl (fun hp => ⟨?_, ?_, ?_, ?_, ?_, ?_, ?_, ?_, ?_, ?_, ?_, ?_, ?_, ?_, ?_, ?_, ?_, ?_, ?_, ?_, ?_, ?_, ?_, trivial⟩) ?_
  · exact q_addr (b := b1) (off := 0) (off' := 0) hp (free_of rfl) trivial (sq_out rfl rfl (fun _ _ => rfl)) (fun ρ w h => by simp [execOp, go_sem, h]) (fun _ => rfl)
  · exact q_loadInt (off := 0) hp (free_of rfl) trivial (List.mem_iff_getElem?.2 ⟨0, rfl⟩) (.inl rfl) (Nat.le_of_ble_eq_true rfl) (sq_in 0 rfl rfl (by simp) rfl (fun v w h => h)) (fun us w hl h => ld_pn hl h)
  · exact q_call1 (F := (Fq.num n).P) hp (free_of rfl) trivial (enq_Valid) (sq_in 1 rfl rfl (by simp) rfl (fun v w h => h)) (fun v w h => exIsValid h)
  · exact q_move hp (free_of rfl) trivial (sq_in 2 rfl rfl (by simp) rfl (fun v w h => h))
  · exact q_addr (b := b1) (off := 0) (off' := 2) hp (free_of rfl) (gq_some rfl rfl (by simp) rfl (fun v w h => h)) (sq_out rfl rfl (fun _ _ => rfl)) (fun ρ w h => by simp [execOp, go_sem, h]) (fun _ => rfl)
  · exact q_loadInt (off := 2) hp (free_of rfl) (gq_some rfl rfl (by simp) rfl (fun v w h => h)) (List.mem_iff_getElem?.2 ⟨0, rfl⟩) (.inl rfl) (Nat.le_of_ble_eq_true rfl) (sq_in 4 rfl rfl (by simp) rfl (fun v w h => h)) (fun us w hl h => ld_pd hl h)
  · exact q_call1 (F := (Fq.num d).P) hp (free_of rfl) (gq_some rfl rfl (by simp) rfl (fun v w h => h)) (enq_Valid) (sq_in 5 rfl rfl (by simp) rfl (fun v w h => h)) (fun v w h => exIsValid h)
  · exact q_two (F := fun v _ => v = .bool true) (G := fun v _ => v = .bool true) hp (free_of rfl) trivial (sq_in 3 rfl rfl (by simp) rfl (fun v w h => h)) (sq_in 6 rfl rfl (by simp) rfl (fun v w h => h)) (fun ρ w hc h h' => ⟨_, by simp [execOp, go_sem, h, h'], rfl⟩)
  · exact q_move hp (free_of rfl) trivial (sq_in 7 rfl rfl (by simp) rfl (fun v w h => h))
  · exact q_addr (b := b1) (off := 0) (off' := 2) hp (free_of rfl) (gq_some rfl rfl (by simp) rfl (fun v w h => h)) (sq_out rfl rfl (fun _ _ => rfl)) (fun ρ w h => by simp [execOp, go_sem, h]) (fun _ => rfl)
  · exact q_loadInt (off := 2) hp (free_of rfl) (gq_some rfl rfl (by simp) rfl (fun v w h => h)) (List.mem_iff_getElem?.2 ⟨0, rfl⟩) (.inl rfl) (Nat.le_of_ble_eq_true rfl) (sq_in 9 rfl rfl (by simp) rfl (fun v w h => h)) (fun us w hl h => ld_pd hl h)
  · exact q_call1 (F := (Fq.num d).P) hp (free_of rfl) (gq_some rfl rfl (by simp) rfl (fun v w h => h)) (enq_Sign) (sq_in 10 rfl rfl (by simp) rfl (fun v w h => h)) (fun v w h => exSign h)
  · exact q_one (F := fun v _ => v = .int .i64 (cmpI d 0)) hp (free_of rfl) (gq_some rfl rfl (by simp) rfl (fun v w h => h)) (sq_in 11 rfl rfl (by simp) rfl (fun v w h => h)) (fun ρ w hc h => ⟨.bool true, by simp [execOp, go_sem, h, hc, T.out], rfl⟩)
  · exact q_two (F := fun v _ => v = .bool true) (G := fun v _ => v = .bool true) hp (free_of rfl) trivial (sq_in 8 rfl rfl (by simp) rfl (fun v w h => h)) (sq_in 12 rfl rfl (by simp) rfl (fun v w h => h)) (fun ρ w hc h h' => ⟨_, by simp [execOp, go_sem, h, h'], rfl⟩)
  · exact q_move hp (free_of rfl) trivial (sq_in 13 rfl rfl (by simp) rfl (fun v w h => h))
  · exact q_addr (b := b1) (off := 0) (off' := 0) hp (free_of rfl) (gq_some rfl rfl (by simp) rfl (fun v w h => h)) (sq_out rfl rfl (fun _ _ => rfl)) (fun ρ w h => by simp [execOp, go_sem, h]) (fun _ => rfl)
  · exact q_loadInt (off := 0) hp (free_of rfl) (gq_some rfl rfl (by simp) rfl (fun v w h => h)) (List.mem_iff_getElem?.2 ⟨0, rfl⟩) (.inl rfl) (Nat.le_of_ble_eq_true rfl) (sq_in 15 rfl rfl (by simp) rfl (fun v w h => h)) (fun us w hl h => ld_pn hl h)
  · exact q_addr (b := b1) (off := 0) (off' := 2) hp (free_of rfl) (gq_some rfl rfl (by simp) rfl (fun v w h => h)) (sq_out rfl rfl (fun _ _ => rfl)) (fun ρ w h => by simp [execOp, go_sem, h]) (fun _ => rfl)
  · exact q_loadInt (off := 2) hp (free_of rfl) (gq_some rfl rfl (by simp) rfl (fun v w h => h)) (List.mem_iff_getElem?.2 ⟨0, rfl⟩) (.inl rfl) (Nat.le_of_ble_eq_true rfl) (sq_in 17 rfl rfl (by simp) rfl (fun v w h => h)) (fun us w hl h => ld_pd hl h)
  · exact q_call2 (F := (Fq.num n).P) (G := (Fq.num d).P) hp (free_of rfl) (gq_some rfl rfl (by simp) rfl (fun v w h => h)) (enq_Gcd) (sq_in 16 rfl rfl (by simp) rfl (fun v w h => h)) (sq_in 18 rfl rfl (by simp) rfl (fun v w h => h)) (fun v v' w h h' => exK (GcdV h h') B2.out (by omega))
  · exact q_call1 (F := (Fq.num (Int.gcd n d : Int)).P) hp (free_of rfl) (gq_some rfl rfl (by simp) rfl (fun v w h => h)) (enq_Q_isOne) (sq_in 19 rfl rfl (by simp) rfl (fun v w h => h)) (fun v w h => exIsOneB h (by rw [decide_eq_false]; intro e; exact hg (by omega)))
  · exact q_two (F := fun v _ => v = .bool true) (G := fun v _ => v = .bool false) hp (free_of rfl) trivial (sq_in 14 rfl rfl (by simp) rfl (fun v w h => h)) (sq_in 20 rfl rfl (by simp) rfl (fun v w h => h)) (fun ρ w hc h h' => ⟨_, by simp [execOp, go_sem, h, h'], rfl⟩)
  · exact q_assign hp (free_of rfl) trivial (sq_in 21 rfl rfl (by simp) rfl (fun v w h => h))
  intro L vs w3 nb hL hC hn E3
  have e0 : vs 0 = .pointer (some ⟨b1, 0, none⟩) := hC 0 (by simp)
  have e2 : vs 2 = .bool true := hC 2 (by simp)
  have e3 : vs 3 = .bool true := hC 3 (by simp)
  have e4 : vs 4 = .pointer (some ⟨b1, 2, none⟩) := hC 4 (by simp)
  have e6 : vs 6 = .bool true := hC 6 (by simp)
  have e7 : vs 7 = .bool true := hC 7 (by simp)
  have e8 : vs 8 = .bool true := hC 8 (by simp)
  have e9 : vs 9 = .pointer (some ⟨b1, 2, none⟩) := hC 9 (by simp)
  have e11 : vs 11 = .int .i64 (cmpI d 0) := hC 11 (by simp)
  have e12 : vs 12 = .bool true := hC 12 (by simp)
  have e13 : vs 13 = .bool true := hC 13 (by simp)
  have e14 : vs 14 = .bool true := hC 14 (by simp)
  have e15 : vs 15 = .pointer (some ⟨b1, 0, none⟩) := hC 15 (by simp)
  have e17 : vs 17 = .pointer (some ⟨b1, 2, none⟩) := hC 17 (by simp)
  have e20 : vs 20 = .bool false := hC 20 (by simp)
  have e21 : vs 21 = .bool false := hC 21 (by simp)
  have e22 : vs 22 = .bool false := hC 22 (by simp)
  have E : Fr w [(b1, 4, Fq.pair n d)] w3 := E3
  rw [lay_all hL]
  simp only [putAll, dstOf, List.length_cons, List.length_nil, Nat.zero_add, Nat.reduceAdd, List.getElem?_toArray, List.getElem?_cons_zero, List.getElem?_cons_succ, Option.bind_some, Act.put, List.setIfInBounds_toArray, List.set_cons_succ, List.set_cons_zero]
  rw [e0, e2, e3, e4, e6, e7, e8, e9, e11, e12, e13, e14, e15, e17, e20, e21, e22]
  generalize vs 1 = u3_1
  generalize vs 5 = u3_5
  generalize vs 10 = u3_10
  generalize vs 16 = u3_16
  generalize vs 18 = u3_18
  generalize vs 19 = u3_19
  clear e0 e2 e3 e4 e6 e7 e8 e9 e11 e12 e13 e14 e15 e17 e20 e21 e22 hC hn E3 hL vs L nb
  clear B2 hn hd
  go_wp2
  refine bodyPost_ret (v := .bool false) ?_ rfl (by first | exact ⟨_, rfl, E.below, rfl⟩ | exact ⟨_, rfl, E.below⟩ | exact ⟨rfl, E.below⟩)
  simp [results, Tryz.results54, go_sem]

theorem txt2 : bys { data := #[50] } = intText 2 := by
  have h : sizeText 2 = [50] := by unfold sizeText; rw [if_neg (by decide), decs_pos (by decide), show (2 : Nat) / 10 = 0 by rfl, decs_zero]; rfl
  show _ = if (2 : Int) < 0 then _ else sizeText (2 : Int).natAbs
  rw [if_neg (by decide)]
  show _ = sizeText 2
  rw [h]; rfl
theorem txt4 : bys { data := #[52] } = intText 4 := by
  have h : sizeText 4 = [52] := by unfold sizeText; rw [if_neg (by decide), decs_pos (by decide), show (4 : Nat) / 10 = 0 by rfl, decs_zero]; rfl
  show _ = if (4 : Int) < 0 then _ else sizeText (4 : Int).natAbs
  rw [if_neg (by decide)]
  show _ = sizeText 4
  rw [h]; rfl
theorem len2 : (intText 2).length ≤ 1300 := by rw [← txt2]; decide
theorem len4 : (intText 4).length ≤ 1300 := by rw [← txt4]; decide

set_option maxRecDepth 100000 in
set_option maxHeartbeats 4000000 in
theorem exRead24 (w : World) :
    Calls Tryz.prog 81 #[.string { data := #[50] }, .string { data := #[52] }] w fun e w' => ∃ v', e = .returned v' ∧ Below w.heap.size w w' ∧ (Fq.tup2 (Fq.pair (2) (4)) (Fq.is (.bool false))).P v' w' := by
  obtain ⟨w1, b1, hw1, hb1, hs1, E⟩ := fr_start w (F := Fq.pair 0 0) (us := [.bool false, .slice none 0 0, .bool false, .slice none 0 0]) 31 rfl (by simp) (tame_rat _ _ _ _ _ _ _ _) (Pair.zero _)
  go_enter Tryz.func81, Tryz.ntmps81
  go_upto_region 1 with (fail)
  rw [← hw1]
  rw [← hb1]
  clear hw1 hb1 hs1
  have B2 : Hid (ab ((2)) < pw 3) := ab_lit (by decide)
  refine region_fr (C := [Fq.is (.string { data := #[50] }), Fq.tup2 (Fq.num (2)) (Fq.is (.int .i64 0)), Fq.tup2 (Fq.num (2)) (Fq.is (.int .i64 0)), Fq.num (2), Fq.is (.int .i64 0), Fq.any, Fq.any, Fq.is (.int .i64 0)]) (ks := [none]) (new := [⟨5, 6, 2, Fq.num 0, Fq.num (2), none⟩]) E rfl (by kernel_rfl) rfl rfl (fun hp => ⟨?_, ?_, ?_, ?_, ?_, ?_, ?_, ?_, trivial⟩) ?_
  · exact q_move hp (free_of rfl) trivial (sq_out rfl rfl (fun _ _ => rfl))
  · exact q_call1 (F := (Fq.is (.string { data := #[50] })).P) hp (free_of rfl) trivial (enq_Parse) (sq_in 0 rfl rfl (by simp) rfl (fun v w h => h)) (fun v w h => (by subst h; exact exParseI txt2 len2))
  · exact q_move hp (free_of rfl) trivial (sq_in 1 rfl rfl (by simp) rfl (fun v w h => h))
  · exact q_extract2 hp (free_of rfl) trivial (sq_in 2 rfl rfl (by simp) rfl (fun v w h => h)) (fun v1 v2 w h1 h2 => ⟨_, rfl, h1⟩)
  · exact q_extract2 hp (free_of rfl) trivial (sq_in 2 rfl rfl (by simp) rfl (fun v w h => h)) (fun v1 v2 w h1 h2 => ⟨_, rfl, h2⟩)
  · exact q_allocInt hp (List.mem_iff_getElem?.2 ⟨0, rfl⟩) rfl rfl rfl rfl (Nat.ne_of_beq_eq_false rfl) (fun _ _ => trivial) (old_ne rfl) (newk_ne rfl) (fun w => Num.zero w)
  · exact q_storeNewInt hp (List.mem_iff_getElem?.2 ⟨0, rfl⟩) rfl rfl rfl (own_ptr rfl rfl (by simp) rfl) (sq_in 3 rfl rfl (by simp) rfl (fun v w h => intV_num h)) (fun _ _ => trivial) (old_ne rfl) (newi_ne rfl)
  · exact q_assign hp (free_of rfl) trivial (sq_in 4 rfl rfl (by simp) rfl (fun v w h => h))
  intro L vs w3 nb hL hC hn E3
  have e0 : vs 0 = .string { data := #[50] } := hC 0 (by simp)
  have e4 : vs 4 = .int .i64 0 := hC 4 (by simp)
  have e7 : vs 7 = .int .i64 0 := hC 7 (by simp)
  have e5 : vs 5 = .pointer (some ⟨nb 5, 0, none⟩) := hn _ (List.mem_iff_getElem?.2 ⟨0, rfl⟩)
  have E : Fr w [(nb 5, 2, Fq.num (2)), (b1, 4, Fq.pair 0 0)] w3 := E3
  rw [lay_all hL]
  simp only [putAll, dstOf, List.length_cons, List.length_nil, Nat.zero_add, Nat.reduceAdd, List.getElem?_toArray, List.getElem?_cons_zero, List.getElem?_cons_succ, Option.bind_some, Act.put, List.setIfInBounds_toArray, List.set_cons_succ, List.set_cons_zero]
  rw [e0, e4, e7, e5]
  generalize nb 5 = b3_5 at E ⊢
  generalize vs 1 = u3_1
  generalize vs 2 = u3_2
  generalize vs 3 = u3_3
  clear e0 e4 e7 e5 hC hn E3 hL vs L nb
  go_upto_region 2 with (fail)
  refine region_fr (C := [Fq.is (.int .i64 0), Fq.is (.bool false)]) (ks := [none, none]) (new := []) E rfl (by kernel_rfl) rfl rfl (fun hp => ⟨?_, ?_, trivial⟩) ?_
  · exact q_move hp (free_of rfl) trivial (sq_out rfl rfl (fun _ _ => rfl))
  · exact q_one (F := fun v _ => v = .int .i64 0) hp (free_of rfl) trivial (sq_in 0 rfl rfl (by simp) rfl (fun v w h => h)) (fun ρ w hc h => ⟨.bool false, by simp [execOp, go_sem, h, hc], rfl⟩)
  intro L vs w4 nb hL hC hn E4
  have e0 : vs 0 = .int .i64 0 := hC 0 (by simp)
  have e1 : vs 1 = .bool false := hC 1 (by simp)
  have E : Fr w [(b3_5, 2, Fq.num (2)), (b1, 4, Fq.pair 0 0)] w4 := E4
  rw [lay_all hL]
  simp only [putAll, dstOf, List.length_cons, List.length_nil, Nat.zero_add, Nat.reduceAdd, List.getElem?_toArray, List.getElem?_cons_zero, List.getElem?_cons_succ, Option.bind_some, Act.put, List.setIfInBounds_toArray, List.set_cons_succ, List.set_cons_zero]
  rw [e0, e1]
  clear e0 e1 hC hn E4 hL vs L nb
  go_upto_region 4 with (fail)
  have B5 : Hid (ab ((4)) < pw 3) := ab_lit (by decide)
  refine region_fr (C := [Fq.is (.string { data := #[52] }), Fq.tup2 (Fq.num (4)) (Fq.is (.int .i64 0)), Fq.tup2 (Fq.num (4)) (Fq.is (.int .i64 0)), Fq.num (4), Fq.is (.int .i64 0), Fq.any, Fq.any, Fq.is (.int .i64 0)]) (ks := [none, none]) (new := [⟨5, 6, 2, Fq.num 0, Fq.num (4), none⟩]) E rfl (by kernel_rfl) rfl rfl (fun hp => ⟨?_, ?_, ?_, ?_, ?_, ?_, ?_, ?_, trivial⟩) ?_
  · exact q_move hp (free_of rfl) trivial (sq_out rfl rfl (fun _ _ => rfl))
  · exact q_call1 (F := (Fq.is (.string { data := #[52] })).P) hp (free_of rfl) trivial (enq_Parse) (sq_in 0 rfl rfl (by simp) rfl (fun v w h => h)) (fun v w h => (by subst h; exact exParseI txt4 len4))
  · exact q_move hp (free_of rfl) trivial (sq_in 1 rfl rfl (by simp) rfl (fun v w h => h))
  · exact q_extract2 hp (free_of rfl) trivial (sq_in 2 rfl rfl (by simp) rfl (fun v w h => h)) (fun v1 v2 w h1 h2 => ⟨_, rfl, h1⟩)
  · exact q_extract2 hp (free_of rfl) trivial (sq_in 2 rfl rfl (by simp) rfl (fun v w h => h)) (fun v1 v2 w h1 h2 => ⟨_, rfl, h2⟩)
  · exact q_allocInt hp (List.mem_iff_getElem?.2 ⟨0, rfl⟩) rfl rfl rfl rfl (Nat.ne_of_beq_eq_false rfl) (fun _ _ => trivial) (old_ne rfl) (newk_ne rfl) (fun w => Num.zero w)
  · exact q_storeNewInt hp (List.mem_iff_getElem?.2 ⟨0, rfl⟩) rfl rfl rfl (own_ptr rfl rfl (by simp) rfl) (sq_in 3 rfl rfl (by simp) rfl (fun v w h => intV_num h)) (fun _ _ => trivial) (old_ne rfl) (newi_ne rfl)
  · exact q_assign hp (free_of rfl) trivial (sq_in 4 rfl rfl (by simp) rfl (fun v w h => h))
  intro L vs w6 nb hL hC hn E6
  have e0 : vs 0 = .string { data := #[52] } := hC 0 (by simp)
  have e4 : vs 4 = .int .i64 0 := hC 4 (by simp)
  have e7 : vs 7 = .int .i64 0 := hC 7 (by simp)
  have e5 : vs 5 = .pointer (some ⟨nb 5, 0, none⟩) := hn _ (List.mem_iff_getElem?.2 ⟨0, rfl⟩)
  have E : Fr w [(nb 5, 2, Fq.num (4)), (b3_5, 2, Fq.num (2)), (b1, 4, Fq.pair 0 0)] w6 := E6
  rw [lay_all hL]
  simp only [putAll, dstOf, List.length_cons, List.length_nil, Nat.zero_add, Nat.reduceAdd, List.getElem?_toArray, List.getElem?_cons_zero, List.getElem?_cons_succ, Option.bind_some, Act.put, List.setIfInBounds_toArray, List.set_cons_succ, List.set_cons_zero]
  rw [e0, e4, e7, e5]
  generalize nb 5 = b6_5 at E ⊢
  generalize vs 1 = u6_1
  generalize vs 2 = u6_2
  generalize vs 3 = u6_3
  clear e0 e4 e7 e5 hC hn E6 hL vs L nb
  go_upto_region 5 with (fail)
  refine region_fr (C := [Fq.is (.int .i64 0), Fq.is (.bool false)]) (ks := [none, none, none]) (new := []) E rfl (by kernel_rfl) rfl rfl (fun hp => ⟨?_, ?_, trivial⟩) ?_
  · exact q_move hp (free_of rfl) trivial (sq_out rfl rfl (fun _ _ => rfl))
  · exact q_one (F := fun v _ => v = .int .i64 0) hp (free_of rfl) trivial (sq_in 0 rfl rfl (by simp) rfl (fun v w h => h)) (fun ρ w hc h => ⟨.bool false, by simp [execOp, go_sem, h, hc], rfl⟩)
  intro L vs w7 nb hL hC hn E7
  have e0 : vs 0 = .int .i64 0 := hC 0 (by simp)
  have e1 : vs 1 = .bool false := hC 1 (by simp)
  have E : Fr w [(b6_5, 2, Fq.num (4)), (b3_5, 2, Fq.num (2)), (b1, 4, Fq.pair 0 0)] w7 := E7
  rw [lay_all hL]
  simp only [putAll, dstOf, List.length_cons, List.length_nil, Nat.zero_add, Nat.reduceAdd, List.getElem?_toArray, List.getElem?_cons_zero, List.getElem?_cons_succ, Option.bind_some, Act.put, List.setIfInBounds_toArray, List.set_cons_succ, List.set_cons_zero]
  rw [e0, e1]
  clear e0 e1 hC hn E7 hL vs L nb
  go_upto_region 7 with (fail)
  refine region_fr (C := [Fq.num (2), Fq.num (4), Fq.pair (2) (4), Fq.any, Fq.any]) (ks := [none, none, none]) (new := [⟨3, 4, 4, Fq.pair 0 0, Fq.pair (2) (4), none⟩]) E rfl (by kernel_rfl) rfl rfl (fun hp => ⟨?_, ?_, ?_, ?_, ?_, trivial⟩) ?_
  · exact q_loadInt (off := 0) hp (free_of rfl) trivial (List.mem_iff_getElem?.2 ⟨1, rfl⟩) (.inl rfl) (Nat.le_of_ble_eq_true rfl) (sq_out rfl rfl (fun _ _ => rfl)) (fun us w hl h => ld_num hl h)
  · exact q_loadInt (off := 0) hp (free_of rfl) trivial (List.mem_iff_getElem?.2 ⟨0, rfl⟩) (.inl rfl) (Nat.le_of_ble_eq_true rfl) (sq_out rfl rfl (fun _ _ => rfl)) (fun us w hl h => ld_num hl h)
  · exact q_buildRat (n := (2)) (d0 := (4)) hp (free_of rfl) trivial (sq_in 0 rfl rfl (by simp) rfl (fun v w h => h)) (sq_in 1 rfl rfl (by simp) rfl (fun v w h => h)) (fun v w h => h)
  · exact q_allocRat hp (List.mem_iff_getElem?.2 ⟨0, rfl⟩) rfl rfl rfl rfl (Nat.ne_of_beq_eq_false rfl) (fun _ _ => trivial) (old_ne rfl) (newk_ne rfl) (fun w => Pair.zero w)
  · exact q_storeNewRat hp (List.mem_iff_getElem?.2 ⟨0, rfl⟩) rfl rfl rfl (own_ptr rfl rfl (by simp) rfl) (sq_in 2 rfl rfl (by simp) rfl (fun v w h => ratV_pair h)) (fun _ _ => trivial) (old_ne rfl) (newi_ne rfl)
  intro L vs w8 nb hL hC hn E8
  have e3 : vs 3 = .pointer (some ⟨nb 3, 0, none⟩) := hn _ (List.mem_iff_getElem?.2 ⟨0, rfl⟩)
  have E : Fr w [(nb 3, 4, Fq.pair (2) (4)), (b6_5, 2, Fq.num (4)), (b3_5, 2, Fq.num (2)), (b1, 4, Fq.pair 0 0)] w8 := E8
  rw [lay_all hL]
  simp only [putAll, dstOf, List.length_cons, List.length_nil, Nat.zero_add, Nat.reduceAdd, List.getElem?_toArray, List.getElem?_cons_zero, List.getElem?_cons_succ, Option.bind_some, Act.put, List.setIfInBounds_toArray, List.set_cons_succ, List.set_cons_zero]
  rw [e3]
  generalize nb 3 = b8_3 at E ⊢
  generalize vs 0 = u8_0
  generalize vs 1 = u8_1
  generalize vs 2 = u8_2
  clear e3 hC hn E8 hL vs L nb
  go_upto_region 8 with (fail)
  refine region_fr (C := [Fq.pair (2) (4), Fq.pair (2) (4), Fq.is (.bool false), Fq.any, Fq.is (.bool false)]) (ks := [none, none, none, some (3, Fq.pair (2) (4))]) (new := []) E rfl (by kernel_rfl) rfl rfl (fun hp => ⟨?_, ?_, ?_, ?_, ?_, trivial⟩) ?_
  · exact q_loadRat hp (free_of rfl) trivial (List.mem_iff_getElem?.2 ⟨0, rfl⟩) (.inl rfl) rfl (sq_out rfl rfl (fun _ _ => rfl)) (fun us w hl h => h)
  · exact q_loadRat hp (free_of rfl) trivial (List.mem_iff_getElem?.2 ⟨0, rfl⟩) (.inl rfl) rfl (sq_out rfl rfl (fun _ _ => rfl)) (fun us w hl h => h)
  · exact q_call1 (F := (Fq.pair (2) (4)).P) hp (free_of rfl) trivial (enq_Q_Valid) (sq_in 1 rfl rfl (by simp) rfl (fun v w h => h)) (fun v w h => exValidG h (Int.lt_of_lt_of_le B2.out (pw_le (by omega))) (Int.lt_of_lt_of_le B5.out (pw_le (by omega))) (by decide) (by decide))
  · exact q_storeOldRat hp (List.mem_iff_getElem?.2 ⟨3, rfl⟩) rfl rfl (sq_out rfl rfl (fun _ _ => rfl)) (sq_in 0 rfl rfl (by simp) rfl (fun v w h => ratV_pair h)) (fun _ _ => trivial) (newik_ne rfl)
  · exact q_assign hp (free_of rfl) trivial (sq_in 2 rfl rfl (by simp) rfl (fun v w h => h))
  intro L vs w9 nb hL hC hn E9
  have e2 : vs 2 = .bool false := hC 2 (by simp)
  have e4 : vs 4 = .bool false := hC 4 (by simp)
  have E : Fr w [(b8_3, 4, Fq.pair (2) (4)), (b6_5, 2, Fq.num (4)), (b3_5, 2, Fq.num (2)), (b1, 4, Fq.pair (2) (4))] w9 := E9
  rw [lay_all hL]
  simp only [putAll, dstOf, List.length_cons, List.length_nil, Nat.zero_add, Nat.reduceAdd, List.getElem?_toArray, List.getElem?_cons_zero, List.getElem?_cons_succ, Option.bind_some, Act.put, List.setIfInBounds_toArray, List.set_cons_succ, List.set_cons_zero]
  rw [e2, e4]
  generalize vs 0 = u9_0
  generalize vs 1 = u9_1
  clear e2 e4 hC hn E9 hL vs L nb
  obtain ⟨p0, p1, p2, p3, c0, c1, c2, c3, hP⟩ := box_pair (E.box 3 rfl)
  clear B2 B5
  go_wp2
  refine bodyPost_ret (v := .tuple #[.agg #[p0, p1, p2, p3], .bool false]) ?_ rfl ⟨_, rfl, E.below, ⟨_, _, rfl, hP, rfl⟩⟩
  simp [results, Tryz.results81, go_sem, c0, c1, c2, c3]

set_option maxRecDepth 100000 in
set_option maxHeartbeats 4000000 in
theorem exParse24 (w : World) :
    Calls Tryz.prog 53 #[.string { data := #[50, 47, 52] }] w fun e w' => ∃ v', e = .returned v' ∧ Below w.heap.size w w' ∧ (Fq.tup2 (Fq.pair 0 0) (Fq.is (.int .i64 3))).P v' w' := by
  obtain ⟨w1, b1, hw1, hb1, hs1, E⟩ := fr_start w (F := Fq.pair 0 0) (us := [.bool false, .slice none 0 0, .bool false, .slice none 0 0]) 31 rfl (by simp) (tame_rat _ _ _ _ _ _ _ _) (Pair.zero _)
  go_enter Tryz.func53, Tryz.ntmps53
  go_upto_region 3 with (fail)
  rw [← hw1]
  rw [← hb1]
  clear hw1 hb1 hs1
  go_wp2_with fail
  refine (exCut _).mono ?_
  rintro e wq ⟨rfl, hb⟩
  replace E := E.mono hb
  clear hb
  go_upto_region 6 with (fail)
  refine region_fr (C := [Fq.is (.string { data := #[50] }), Fq.is (.string { data := #[52] }), Fq.tup2 (Fq.pair 2 4) (Fq.is (.bool false)), Fq.tup2 (Fq.pair 2 4) (Fq.is (.bool false)), Fq.pair 2 4, Fq.is (.bool false), Fq.any, Fq.any, Fq.is (.bool false)]) (ks := [none]) (new := [⟨6, 7, 4, Fq.pair 0 0, Fq.pair 2 4, none⟩]) E rfl (by kernel_rfl) rfl rfl (fun hp => ⟨?_, ?_, ?_, ?_, ?_, ?_, ?_, ?_, ?_, trivial⟩) ?_
  · exact q_move hp (free_of rfl) trivial (sq_out rfl rfl (fun _ _ => rfl))
  · exact q_move hp (free_of rfl) trivial (sq_out rfl rfl (fun _ _ => rfl))
  · exact q_call2 (F := (Fq.is (.string { data := #[50] })).P) (G := (Fq.is (.string { data := #[52] })).P) hp (free_of rfl) trivial (enq_Q_read) (sq_in 0 rfl rfl (by simp) rfl (fun v w h => h)) (sq_in 1 rfl rfl (by simp) rfl (fun v w h => h)) (fun v v' w h h' => (by subst h; subst h'; exact exRead24 w))
  · exact q_move hp (free_of rfl) trivial (sq_in 2 rfl rfl (by simp) rfl (fun v w h => h))
  · exact q_extract2 hp (free_of rfl) trivial (sq_in 3 rfl rfl (by simp) rfl (fun v w h => h)) (fun v1 v2 w h1 h2 => ⟨_, rfl, h1⟩)
  · exact q_extract2 hp (free_of rfl) trivial (sq_in 3 rfl rfl (by simp) rfl (fun v w h => h)) (fun v1 v2 w h1 h2 => ⟨_, rfl, h2⟩)
  · exact q_allocRat hp (List.mem_iff_getElem?.2 ⟨0, rfl⟩) rfl rfl rfl rfl (Nat.ne_of_beq_eq_false rfl) (fun _ _ => trivial) (old_ne rfl) (newk_ne rfl) (fun w => Pair.zero w)
  · exact q_storeNewRat hp (List.mem_iff_getElem?.2 ⟨0, rfl⟩) rfl rfl rfl (own_ptr rfl rfl (by simp) rfl) (sq_in 4 rfl rfl (by simp) rfl (fun v w h => ratV_pair h)) (fun _ _ => trivial) (old_ne rfl) (newi_ne rfl)
  · exact q_assign hp (free_of rfl) trivial (sq_in 5 rfl rfl (by simp) rfl (fun v w h => h))
  intro L vs w2 nb hL hC hn E2
  have e0 : vs 0 = .string { data := #[50] } := hC 0 (by simp)
  have e1 : vs 1 = .string { data := #[52] } := hC 1 (by simp)
  have e5 : vs 5 = .bool false := hC 5 (by simp)
  have e8 : vs 8 = .bool false := hC 8 (by simp)
  have e6 : vs 6 = .pointer (some ⟨nb 6, 0, none⟩) := hn _ (List.mem_iff_getElem?.2 ⟨0, rfl⟩)
  have E : Fr w [(nb 6, 4, Fq.pair 2 4), (b1, 4, Fq.pair 0 0)] w2 := E2
  rw [lay_all hL]
  simp only [putAll, dstOf, List.length_cons, List.length_nil, Nat.zero_add, Nat.reduceAdd, List.getElem?_toArray, List.getElem?_cons_zero, List.getElem?_cons_succ, Option.bind_some, Act.put, List.setIfInBounds_toArray, List.set_cons_succ, List.set_cons_zero]
  rw [e0, e1, e5, e8, e6]
  generalize nb 6 = b2_6 at E ⊢
  generalize vs 2 = u2_2
  generalize vs 3 = u2_3
  generalize vs 4 = u2_4
  clear e0 e1 e5 e8 e6 hC hn E2 hL vs L nb
  go_upto_region 7 with (fail)
  refine region_fr (C := [Fq.is (.bool false), Fq.is (.bool true), Fq.is (.bool true), Fq.is (undef), Fq.is (undef), Fq.is (undef), Fq.is (undef), Fq.is (undef), Fq.is (undef), Fq.is (.bool true)]) (ks := [none, none]) (new := []) E rfl (by kernel_rfl) rfl rfl (fun hp => ⟨?_, ?_, ?_, ?_, ?_, ?_, ?_, ?_, ?_, ?_, trivial⟩) ?_
  · exact q_move hp (free_of rfl) trivial (sq_out rfl rfl (fun _ _ => rfl))
  · exact q_one (F := fun v _ => v = .bool false) hp (free_of rfl) trivial (sq_in 0 rfl rfl (by simp) rfl (fun v w h => h)) (fun ρ w _ h => ⟨.bool true, by simp [execOp, go_sem, h], rfl⟩)
  · exact q_move hp (free_of rfl) trivial (sq_in 1 rfl rfl (by simp) rfl (fun v w h => h))
  · exact q_skip hp (free_of rfl) rfl (gq_some rfl rfl (by simp) rfl (fun v w h => h)) (fun _ => rfl)
  · exact q_skip hp (free_of rfl) rfl (gq_some rfl rfl (by simp) rfl (fun v w h => h)) (fun _ => rfl)
  · exact q_skipU hp (free_of rfl) rfl rfl rfl (by simp) rfl (fun v w h => h) (fun _ => rfl)
  · exact q_skipU hp (free_of rfl) rfl rfl rfl (by simp) rfl (fun v w h => h) (fun _ => rfl)
  · exact q_skipU hp (free_of rfl) rfl rfl rfl (by simp) rfl (fun v w h => h) (fun _ => rfl)
  · exact q_skip hp (free_of rfl) rfl (gq_some rfl rfl (by simp) rfl (fun v w h => h)) (fun _ => rfl)
  · exact q_two (F := fun v _ => v = .bool true) (G := fun v _ => v = .bool true) hp (free_of rfl) trivial (sq_in 2 rfl rfl (by simp) rfl (fun v w h => h)) (sq_const (fun _ => rfl)) (fun ρ w hc h h' => ⟨_, by simp [execOp, go_sem, h, h'], rfl⟩)
  intro L vs w3 nb hL hC hn E3
  have e0 : vs 0 = .bool false := hC 0 (by simp)
  have e1 : vs 1 = .bool true := hC 1 (by simp)
  have e2 : vs 2 = .bool true := hC 2 (by simp)
  have e3 : vs 3 = undef := hC 3 (by simp)
  have e4 : vs 4 = undef := hC 4 (by simp)
  have e5 : vs 5 = undef := hC 5 (by simp)
  have e6 : vs 6 = undef := hC 6 (by simp)
  have e7 : vs 7 = undef := hC 7 (by simp)
  have e8 : vs 8 = undef := hC 8 (by simp)
  have e9 : vs 9 = .bool true := hC 9 (by simp)
  have E : Fr w [(b2_6, 4, Fq.pair 2 4), (b1, 4, Fq.pair 0 0)] w3 := E3
  rw [lay_all hL]
  simp only [putAll, dstOf, List.length_cons, List.length_nil, Nat.zero_add, Nat.reduceAdd, List.getElem?_toArray, List.getElem?_cons_zero, List.getElem?_cons_succ, Option.bind_some, Act.put, List.setIfInBounds_toArray, List.set_cons_succ, List.set_cons_zero]
  rw [e0, e1, e2, e3, e4, e5, e6, e7, e8, e9]
  clear e0 e1 e2 e3 e4 e5 e6 e7 e8 e9 hC hn E3 hL vs L nb
  go_upto_region 8 with (fail)
  refine region_fr (C := [Fq.pair 0 0, Fq.any, Fq.is (.int .i64 3)]) (ks := [none, some (1, Fq.pair 0 0)]) (new := []) E rfl (by kernel_rfl) rfl rfl (fun hp => ⟨?_, ?_, ?_, trivial⟩) ?_
  · exact q_zeroRat hp (free_of rfl) trivial (fun v w h => h)
  · exact q_storeOldRat hp (List.mem_iff_getElem?.2 ⟨1, rfl⟩) rfl rfl (sq_out rfl rfl (fun _ _ => rfl)) (sq_in 0 rfl rfl (by simp) rfl (fun v w h => ratV_pair h)) (fun _ _ => trivial) (newik_ne rfl)
  · exact q_assign hp (free_of rfl) trivial (sq_const (fun _ => rfl))
  intro L vs w4 nb hL hC hn E4
  have e2 : vs 2 = .int .i64 3 := hC 2 (by simp)
  have E : Fr w [(b2_6, 4, Fq.pair 2 4), (b1, 4, Fq.pair 0 0)] w4 := E4
  rw [lay_all hL]
  simp only [putAll, dstOf, List.length_cons, List.length_nil, Nat.zero_add, Nat.reduceAdd, List.getElem?_toArray, List.getElem?_cons_zero, List.getElem?_cons_succ, Option.bind_some, Act.put, List.setIfInBounds_toArray, List.set_cons_succ, List.set_cons_zero]
  rw [e2]
  generalize vs 0 = u4_0
  clear e2 hC hn E4 hL vs L nb
  obtain ⟨p0, p1, p2, p3, c0, c1, c2, c3, hP⟩ := box_pair (E.box 1 rfl)
  go_wp2
  refine bodyPost_ret (v := .tuple #[.agg #[p0, p1, p2, p3], .int .i64 3]) ?_ rfl ⟨_, rfl, E.below, ⟨_, _, rfl, hP, rfl⟩⟩
  simp [results, Tryz.results53, go_sem, c0, c1, c2, c3]

end Go.Proofs.YtoimphnhmpmipaaGreat

/- Walks: the simplest fraction between two. -/
namespace Go.Proofs.YtoimphnhmpmipaaGreat
open Go Go.RowKit

/-- A box of the call's own is stored to. -/
theorem Fr.put {w0 W : World} {b m : Nat} {F F' : Fq} {bs : List (Nat × Nat × Fq)} (h : Fr w0 ((b, m, F) :: bs) W) {us : List Value} (hl : us.length = m) (ht : Tame us) (hF : F'.P (.agg us.toArray) W) : Fr w0 ((b, m, F') :: bs) (putFrom W b 0 us) := by
  have hb := h.boxes _ List.mem_cons_self
  refine ⟨putFrom_below hb.1 us 0 _ _ h.below, fun x hx => ?_, h.apart⟩
  rcases List.mem_cons.1 hx with rfl | hx
  · exact ⟨hb.1, hb.2.same hl ht hF⟩
  · have hx2 := h.boxes x (List.mem_cons_of_mem _ hx)
    refine ⟨hx2.1, hx2.2.other hb.2 (fun e => ?_) hl⟩
    have hn := h.apart
    rw [List.map_cons, List.nodup_cons] at hn
    exact hn.1 (by rw [show (b, m, F).1 = x.1 from e.symm]; exact List.mem_map.2 ⟨x, hx, rfl⟩)

section
variable {os : List Oper} {Q : Exit → Act → World → Prop} {a : Act} {p : Pq} {B B0 : Nat} {w0 : World}
variable {i s : Nat} {d : Option Tmp} {ty : TypeId} {ps : String} {af : Array Edge} {gd : Option (Nat × Bool)}
/-- An integer out of a box that was there before the call. -/
theorem q_loadIntOut {b : Nat} {F : Fq} {x : Operand} (hp : p.Ok B B0) (hF : p.Free i) (hg : GdQ os a p B B0 w0 af gd) (hb : Bq w0 b 2 F) (hB : B = w0.heap.size) (hx : SrcQ os a p B B0 w0 af x fun u _ => u = .pointer (some ⟨b, 0, none⟩)) (hC : ∀ v w, F.P v w → (p.c i).P v w) :
    StepQ os Q a p B B0 w0 i { dst := d, op := .load 29 x, type := ty, pos := ps, after := af, guard := gd } := by
  subst hB
  refine stq_val hp hF hg fun L vs w hG hL hc hd => ?_
  obtain ⟨us, hl, h0, hat, ht, hP⟩ := hb.mono hG.below
  have e := hx L vs w hG hd
  match us, hl, hat, hP with
  | [u0, u1], _, hat, hP =>
    have c0 := (hat 0 (by simp)).1
    have c1 := (hat 1 (by simp)).1
    simp at c0 c1
    refine ⟨_, ?_, hC _ w hP⟩
    generalize (lay os.toArray L vs os.toArray.size a).eval = ρ at e
    simp [execOp, go_sem, e, c0, c1]
end

/-- The simplest fraction from a/b to c/d. -/
def simF : Nat → Int → Int → Int → Int → Int × Int
  | 0, _, _, _, _ => (0, 1)
  | f + 1, an, ad, bn, bd => if an % ad = 0 then (an / ad, 1) else if bd ≤ bn - an / ad * bd then (an / ad + 1, 1) else
      (an / ad * (simF f bd (bn - an / ad * bd) ad (an % ad)).1 + (simF f bd (bn - an / ad * bd) ad (an % ad)).2, (simF f bd (bn - an / ad * bd) ad (an % ad)).1)

theorem sim_rest {an ad bn bd : Int} (hd : 0 < ad) (hbd : 0 < bd) (hle : an * bd ≤ bn * ad) (hr : an % ad ≠ 0) : 0 < bn - an / ad * bd := by
  have h1 := Int.mul_ediv_add_emod an ad
  have h2 := Int.emod_nonneg an (show ad ≠ 0 by omega)
  have h3 : an = ad * (an / ad) + an % ad := by omega
  rcases Int.lt_or_le 0 (bn - an / ad * bd) with h | h
  · exact h
  · exfalso
    have h4 : bn * ad ≤ (an / ad * bd) * ad := Int.mul_le_mul_of_nonneg_right (by omega) (by omega)
    have h5 : an * bd = (an / ad * bd) * ad + an % ad * bd := by
      have : (ad * (an / ad) + an % ad) * bd = (an / ad * bd) * ad + an % ad * bd := by
        rw [Int.add_mul]; congr 1; ac_rfl
      rw [← h3] at this; exact this
    have h6 := Int.mul_pos (show 0 < an % ad by omega) hbd
    omega

/-- The next pair is in its order, too. -/
theorem sim_next {an ad bn bd : Int} (hle : an * bd ≤ bn * ad) : bd * (an % ad) ≤ ad * (bn - an / ad * bd) := by
  have h1 := Int.mul_ediv_add_emod an ad
  have h3 : an % ad = an - ad * (an / ad) := by omega
  rw [h3, Int.mul_sub, Int.mul_sub]
  have h4 : bd * an = an * bd := Int.mul_comm _ _
  have h5 : ad * bn = bn * ad := Int.mul_comm _ _
  have h6 : bd * (ad * (an / ad)) = ad * (an / ad * bd) := by ac_rfl
  omega

theorem sim_le : ∀ (f : Nat) (an ad bn bd : Int), 0 < an → 0 < ad → 0 < bd → an * bd ≤ bn * ad → (ad + bd).toNat ≤ f →
    let r := simF f an ad bn bd
    0 < r.1 ∧ 0 < r.2 ∧ ((r.1 ≤ an ∧ r.2 ≤ ad) ∨ (r.1 ≤ bn ∧ r.2 ≤ bd))
  | 0, an, ad, bn, bd, _, h2, h3, _, h5 => by omega
  | f + 1, an, ad, bn, bd, h1, h2, h3, h4, h5 => by
    have e1 := Int.mul_ediv_add_emod an ad
    have e2 := Int.emod_nonneg an (show ad ≠ 0 by omega)
    have e3 := Int.emod_lt_of_pos an h2
    have e4 : 0 ≤ an / ad := Int.ediv_nonneg (by omega) (by omega)
    have e6 : an / ad ≤ ad * (an / ad) := by
      have := Int.mul_le_mul_of_nonneg_right (show 1 ≤ ad by omega) e4
      omega
    simp only [simF]
    split
    · rename_i hr
      have : 0 < an / ad := by
        rcases Int.lt_or_le 0 (an / ad) with h | h
        · exact h
        · have h0 : an / ad = 0 := by omega
          rw [h0, Int.mul_zero] at e1; omega
      exact ⟨this, by omega, .inl ⟨by omega, by omega⟩⟩
    · rename_i hr
      split
      · refine ⟨by omega, by omega, .inl ⟨?_, by omega⟩⟩
        omega
      · rename_i hb
        have r1 := sim_rest h2 h3 h4 hr
        have ih := sim_le f bd (bn - an / ad * bd) ad (an % ad) h3 r1 (by omega) (sim_next h4) (by omega)
        simp only at ih
        obtain ⟨i1, i2, i3⟩ := ih
        generalize simF f bd (bn - an / ad * bd) ad (an % ad) = r at *
        have p0 := Int.mul_nonneg e4 (show 0 ≤ r.1 by omega)
        refine ⟨by omega, i1, ?_⟩
        rcases i3 with ⟨j1, j2⟩ | ⟨j1, j2⟩
        · refine .inr ⟨?_, j1⟩
          have := Int.mul_le_mul_of_nonneg_left j1 e4
          omega
        · refine .inl ⟨?_, j1⟩
          have := Int.mul_le_mul_of_nonneg_left j1 e4
          have e7 : an / ad * ad = ad * (an / ad) := Int.mul_comm _ _
          omega

/-- The function that looks for it, as a value. -/
def findV (o f : Nat) : Value := .func (.func 100) #[] #[.pointer (some ⟨o, 0, none⟩), .pointer (some ⟨f, 0, none⟩)]

set_option maxRecDepth 100000 in
set_option maxHeartbeats 4000000 in
theorem exFind {N : Nat} {w : World} {v1 v2 v3 v4 : Value} {o f : Nat} {an ad bn bd : Int} (h1 : Num w v1 an) (h2 : Num w v2 ad) (h3 : Num w v3 bn) (h4 : Num w v4 bd) (p1 : 0 < an) (p2 : 0 < ad) (p3 : 0 < bd) (ha : ab an < pw 300) (hb : ab ad < pw 300) (hc : ab bn < pw 300) (hd : ab bd < pw 300) (hle : an * bd ≤ bn * ad) (hN : (ad + bd).toNat ≤ N) (ho : Bq w o 2 (Fq.num 1)) (hf : w.cell? ⟨f, 0, none⟩ = some (findV o f)) (hfl : f < w.heap.size) :
    Calls Tryz.prog 100 #[v1, v2, v3, v4, .pointer (some ⟨o, 0, none⟩), .pointer (some ⟨f, 0, none⟩)] w fun e w' => ∃ v', e = .returned v' ∧ Below w.heap.size w w' ∧ (Fq.tup2 (Fq.num (simF N an ad bn bd).1) (Fq.num (simF N an ad bn bd).2)).P v' w' := by
  induction N generalizing w v1 v2 v3 v4 an ad bn bd with
  | zero => omega
  | succ N ih =>
    have Han := hidd ha
    have Had := hidd hb
    have Hbn := hidd hc
    have Hbd := hidd hd
    have HN := hidd hN
    have HLE := hidd hle
    have Hp := hidd (show 0 < an ∧ 0 < ad ∧ 0 < bd from ⟨p1, p2, p3⟩)
    clear ha hb hc hd hN hle p1 p2 p3
    obtain ⟨n0, ao0, k0, c0, rfl⟩ := h1.parts
    obtain ⟨n1, ao1, k1, c1, rfl⟩ := h2.parts
    obtain ⟨n2, ao2, k2, c2, rfl⟩ := h3.parts
    obtain ⟨n3, ao3, k3, c3, rfl⟩ := h4.parts
    obtain ⟨w1, b1, hw1, hb1, hs1, E⟩ := fr_start w (F := Fq.num an) (us := [.bool n0, .slice ao0 k0 c0]) 29 rfl (by simp) (tame_int _ _ _ _) h1
    obtain ⟨w2, b2, hw2, hb2, hs2, E⟩ := fr_more E hs1 (F := Fq.num ad) (us := [.bool n1, .slice ao1 k1 c1]) 29 rfl (by simp) (tame_int _ _ _ _) (h2.mono E.below)
    obtain ⟨w3, b3, hw3, hb3, hs3, E⟩ := fr_more E hs2 (F := Fq.num bn) (us := [.bool n2, .slice ao2 k2 c2]) 29 rfl (by simp) (tame_int _ _ _ _) (h3.mono E.below)
    obtain ⟨w4, b4, hw4, hb4, hs4, E⟩ := fr_more E hs3 (F := Fq.num bd) (us := [.bool n3, .slice ao3 k3 c3]) 29 rfl (by simp) (tame_int _ _ _ _) (h4.mono E.below)
    obtain ⟨w5, b5, hw5, hb5, hs5, E⟩ := fr_more E hs4 (F := Fq.num 0) (us := [.bool false, .slice none 0 0]) 29 rfl (by simp) (tame_int _ _ _ _) (Num.zero _)
    obtain ⟨w6, b6, hw6, hb6, hs6, E⟩ := fr_more E hs5 (F := Fq.num 0) (us := [.bool false, .slice none 0 0]) 29 rfl (by simp) (tame_int _ _ _ _) (Num.zero _)
    go_enter Tryz.func100, Tryz.ntmps100
    go_upto_region 1 with (fail)
    rw [← hw1]
    rw [← hw2]
    rw [← hw3]
    rw [← hw4]
    rw [← hw5]
    rw [← hw6]
    rw [← hb6]
    rw [← hb5]
    rw [← hb4]
    rw [← hb3]
    rw [← hb2]
    rw [← hb1]
    clear hw1 hw2 hw3 hw4 hw5 hw6 hb1 hb2 hb3 hb4 hb5 hb6 hs6 hs1 hs2 hs3 hs4 hs5
    have B7 : Hid (ab ((an / ad)) < pw 301) := ab_divB Han.out (by omega)
    have B8 : Hid (ab ((an % ad)) < pw 300) := ab_modB (by have := Hp.out.2.1; omega) Had.out
    refine region_fr (C := [Fq.num an, Fq.num ad, Fq.tup3 (Fq.num (an / ad)) (Fq.num (an % ad)) (Fq.is (.int .i64 0)), Fq.tup3 (Fq.num (an / ad)) (Fq.num (an % ad)) (Fq.is (.int .i64 0)), Fq.num (an / ad), Fq.num (an % ad), Fq.is (.int .i64 0), Fq.any, Fq.any, Fq.any, Fq.any, Fq.is (.int .i64 0)]) (ks := [none, none, none, none, none, none]) (new := [⟨7, 9, 2, Fq.num 0, Fq.num (an / ad), none⟩, ⟨8, 10, 2, Fq.num 0, Fq.num (an % ad), none⟩]) E rfl (by kernel_rfl) rfl rfl (fun hp => ⟨?_, ?_, ?_, ?_, ?_, ?_, ?_, ?_, ?_, ?_, ?_, ?_, trivial⟩) ?_
    · exact q_loadInt (off := 0) hp (free_of rfl) trivial (List.mem_iff_getElem?.2 ⟨5, rfl⟩) (.inl rfl) (Nat.le_of_ble_eq_true rfl) (sq_out rfl rfl (fun _ _ => rfl)) (fun us w hl h => ld_num hl h)
    · exact q_loadInt (off := 0) hp (free_of rfl) trivial (List.mem_iff_getElem?.2 ⟨4, rfl⟩) (.inl rfl) (Nat.le_of_ble_eq_true rfl) (sq_out rfl rfl (fun _ _ => rfl)) (fun us w hl h => ld_num hl h)
    · exact q_call2 (F := (Fq.num an).P) (G := (Fq.num ad).P) hp (free_of rfl) trivial (enq_DivMod) (sq_in 0 rfl rfl (by simp) rfl (fun v w h => h)) (sq_in 1 rfl rfl (by simp) rfl (fun v w h => h)) (fun v v' w h h' => exDMq h h' (by have := Hp.out.2.1; omega) B7.out B8.out (by omega) (by omega))
    · exact q_move hp (free_of rfl) trivial (sq_in 2 rfl rfl (by simp) rfl (fun v w h => h))
    · exact q_extract3 hp (free_of rfl) trivial (sq_in 3 rfl rfl (by simp) rfl (fun v w h => h)) (fun v1 v2 v3 w h1 h2 h3 => ⟨_, rfl, h1⟩)
    · exact q_extract3 hp (free_of rfl) trivial (sq_in 3 rfl rfl (by simp) rfl (fun v w h => h)) (fun v1 v2 v3 w h1 h2 h3 => ⟨_, rfl, h2⟩)
    · exact q_extract3 hp (free_of rfl) trivial (sq_in 3 rfl rfl (by simp) rfl (fun v w h => h)) (fun v1 v2 v3 w h1 h2 h3 => ⟨_, rfl, h3⟩)
    · exact q_allocInt hp (List.mem_iff_getElem?.2 ⟨0, rfl⟩) rfl rfl rfl rfl (Nat.ne_of_beq_eq_false rfl) (fun _ _ => trivial) (old_ne rfl) (newk_ne rfl) (fun w => Num.zero w)
    · exact q_allocInt hp (List.mem_iff_getElem?.2 ⟨1, rfl⟩) rfl rfl rfl rfl (Nat.ne_of_beq_eq_false rfl) (fun _ _ => trivial) (old_ne rfl) (newk_ne rfl) (fun w => Num.zero w)
    · exact q_storeNewInt hp (List.mem_iff_getElem?.2 ⟨0, rfl⟩) rfl rfl rfl (own_ptr rfl rfl (by simp) rfl) (sq_in 4 rfl rfl (by simp) rfl (fun v w h => intV_num h)) (fun _ _ => trivial) (old_ne rfl) (newi_ne rfl)
    · exact q_storeNewInt hp (List.mem_iff_getElem?.2 ⟨1, rfl⟩) rfl rfl rfl (own_ptr rfl rfl (by simp) rfl) (sq_in 5 rfl rfl (by simp) rfl (fun v w h => intV_num h)) (fun _ _ => trivial) (old_ne rfl) (newi_ne rfl)
    · exact q_assign hp (free_of rfl) trivial (sq_in 6 rfl rfl (by simp) rfl (fun v w h => h))
    intro L vs w9 nb hL hC hn E9
    have e6 : vs 6 = .int .i64 0 := hC 6 (by simp)
    have e11 : vs 11 = .int .i64 0 := hC 11 (by simp)
    have e7 : vs 7 = .pointer (some ⟨nb 7, 0, none⟩) := hn _ (List.mem_iff_getElem?.2 ⟨0, rfl⟩)
    have e8 : vs 8 = .pointer (some ⟨nb 8, 0, none⟩) := hn _ (List.mem_iff_getElem?.2 ⟨1, rfl⟩)
    have E : Fr w [(nb 7, 2, Fq.num (an / ad)), (nb 8, 2, Fq.num (an % ad)), (b6, 2, Fq.num 0), (b5, 2, Fq.num 0), (b4, 2, Fq.num bd), (b3, 2, Fq.num bn), (b2, 2, Fq.num ad), (b1, 2, Fq.num an)] w9 := E9
    rw [lay_all hL]
    simp only [putAll, dstOf, List.length_cons, List.length_nil, Nat.zero_add, Nat.reduceAdd, List.getElem?_toArray, List.getElem?_cons_zero, List.getElem?_cons_succ, Option.bind_some, Act.put, List.setIfInBounds_toArray, List.set_cons_succ, List.set_cons_zero]
    rw [e6, e11, e7, e8]
    generalize nb 7 = b9_7 at E ⊢
    generalize nb 8 = b9_8 at E ⊢
    generalize vs 0 = u9_0
    generalize vs 1 = u9_1
    generalize vs 2 = u9_2
    generalize vs 3 = u9_3
    generalize vs 4 = u9_4
    generalize vs 5 = u9_5
    clear e6 e11 e7 e8 hC hn E9 hL vs L nb
    by_cases hr : an % ad = 0
    · have T : Hid (cmpI (an % ad) 0 = 0) := cmpIq0.2 hr
      go_upto_region 2 with (fail)
      refine region_fr (C := [Fq.num (an % ad), Fq.is (.int .i64 (cmpI (an % ad) 0)), Fq.is (.bool true)]) (ks := [none, none, none, none, none, none, none, none]) (new := []) E rfl (by kernel_rfl) rfl rfl (fun hp => ⟨?_, ?_, ?_, trivial⟩) ?_
      · exact q_loadInt (off := 0) hp (free_of rfl) trivial (List.mem_iff_getElem?.2 ⟨1, rfl⟩) (.inl rfl) (Nat.le_of_ble_eq_true rfl) (sq_out rfl rfl (fun _ _ => rfl)) (fun us w hl h => ld_num hl h)
      · exact q_call1 (F := (Fq.num (an % ad)).P) hp (free_of rfl) trivial (enq_Sign) (sq_in 0 rfl rfl (by simp) rfl (fun v w h => h)) (fun v w h => exSign h)
      · exact q_one (F := fun v _ => v = .int .i64 (cmpI (an % ad) 0)) hp (free_of rfl) trivial (sq_in 1 rfl rfl (by simp) rfl (fun v w h => h)) (fun ρ w hc h => ⟨.bool true, by simp [execOp, go_sem, h, hc, T.out], rfl⟩)
      intro L vs w10 nb hL hC hn E10
      have e1 : vs 1 = .int .i64 (cmpI (an % ad) 0) := hC 1 (by simp)
      have e2 : vs 2 = .bool true := hC 2 (by simp)
      have E : Fr w [(b9_7, 2, Fq.num (an / ad)), (b9_8, 2, Fq.num (an % ad)), (b6, 2, Fq.num 0), (b5, 2, Fq.num 0), (b4, 2, Fq.num bd), (b3, 2, Fq.num bn), (b2, 2, Fq.num ad), (b1, 2, Fq.num an)] w10 := E10
      rw [lay_all hL]
      simp only [putAll, dstOf, List.length_cons, List.length_nil, Nat.zero_add, Nat.reduceAdd, List.getElem?_toArray, List.getElem?_cons_zero, List.getElem?_cons_succ, Option.bind_some, Act.put, List.setIfInBounds_toArray, List.set_cons_succ, List.set_cons_zero]
      rw [e1, e2]
      generalize vs 0 = u10_0
      clear e1 e2 hC hn E10 hL vs L nb
      clear T
      go_upto_region 3 with (fail)
      refine region_fr (C := [Fq.num (an / ad), Fq.num 1, Fq.any, Fq.any]) (ks := [none, none, some (3, Fq.num 1), some (2, Fq.num (an / ad)), none, none, none, none]) (new := []) E rfl (by kernel_rfl) rfl rfl (fun hp => ⟨?_, ?_, ?_, ?_, trivial⟩) ?_
      · exact q_loadInt (off := 0) hp (free_of rfl) trivial (List.mem_iff_getElem?.2 ⟨0, rfl⟩) (.inl rfl) (Nat.le_of_ble_eq_true rfl) (sq_out rfl rfl (fun _ _ => rfl)) (fun us w hl h => ld_num hl h)
      · exact q_loadIntOut hp (free_of rfl) trivial ho rfl (sq_out rfl rfl (fun _ _ => rfl)) (fun v w h => h)
      · exact q_storeOldInt hp (List.mem_iff_getElem?.2 ⟨3, rfl⟩) rfl rfl (sq_out rfl rfl (fun _ _ => rfl)) (sq_in 0 rfl rfl (by simp) rfl (fun v w h => intV_num h)) (fun _ _ => trivial) (newik_ne rfl)
      · exact q_storeOldInt hp (List.mem_iff_getElem?.2 ⟨2, rfl⟩) rfl rfl (sq_out rfl rfl (fun _ _ => rfl)) (sq_in 1 rfl rfl (by simp) rfl (fun v w h => intV_num h)) (fun _ _ => trivial) (newik_ne rfl)
      intro L vs w11 nb hL hC hn E11
      have E : Fr w [(b9_7, 2, Fq.num (an / ad)), (b9_8, 2, Fq.num (an % ad)), (b6, 2, Fq.num 1), (b5, 2, Fq.num (an / ad)), (b4, 2, Fq.num bd), (b3, 2, Fq.num bn), (b2, 2, Fq.num ad), (b1, 2, Fq.num an)] w11 := E11
      rw [lay_all hL]
      simp only [putAll, dstOf, List.length_cons, List.length_nil, Nat.zero_add, Nat.reduceAdd, List.getElem?_toArray, List.getElem?_cons_zero, List.getElem?_cons_succ, Option.bind_some, Act.put, List.setIfInBounds_toArray, List.set_cons_succ, List.set_cons_zero]
      generalize vs 0 = u11_0
      generalize vs 1 = u11_1
      clear  hC hn E11 hL vs L nb
      have hs : Hid (simF (N + 1) an ad bn bd = (an / ad, 1)) := by show _ = _; simp only [simF]; rw [if_pos hr]
      clear hr
      obtain ⟨p0, p1, c0, c1, hP⟩ := box_num (E.box 3 rfl)
      obtain ⟨q0, q1, d0, d1, hQ⟩ := box_num (E.box 2 rfl)
      clear B7 B8
      go_wp2
      refine bodyPost_ret (v := .tuple #[.agg #[p0, p1], .agg #[q0, q1]]) ?_ rfl ⟨_, rfl, E.below, _, _, rfl, by show Num _ _ _; rw [hs.out]; exact hP, by show Num _ _ _; rw [hs.out]; exact hQ⟩
      simp [results, Tryz.results100, go_sem, c0, c1, d0, d1]
    · have T : Hid (¬ cmpI (an % ad) 0 = 0) := fun e => hr (cmpIq0.1 e)
      go_upto_region 2 with (fail)
      refine region_fr (C := [Fq.num (an % ad), Fq.is (.int .i64 (cmpI (an % ad) 0)), Fq.is (.bool false)]) (ks := [none, none, none, none, none, none, none, none]) (new := []) E rfl (by kernel_rfl) rfl rfl (fun hp => ⟨?_, ?_, ?_, trivial⟩) ?_
      · exact q_loadInt (off := 0) hp (free_of rfl) trivial (List.mem_iff_getElem?.2 ⟨1, rfl⟩) (.inl rfl) (Nat.le_of_ble_eq_true rfl) (sq_out rfl rfl (fun _ _ => rfl)) (fun us w hl h => ld_num hl h)
      · exact q_call1 (F := (Fq.num (an % ad)).P) hp (free_of rfl) trivial (enq_Sign) (sq_in 0 rfl rfl (by simp) rfl (fun v w h => h)) (fun v w h => exSign h)
      · exact q_one (F := fun v _ => v = .int .i64 (cmpI (an % ad) 0)) hp (free_of rfl) trivial (sq_in 1 rfl rfl (by simp) rfl (fun v w h => h)) (fun ρ w hc h => ⟨.bool false, by simp [execOp, go_sem, h, hc, T.out], rfl⟩)
      intro L vs w12 nb hL hC hn E12
      have e1 : vs 1 = .int .i64 (cmpI (an % ad) 0) := hC 1 (by simp)
      have e2 : vs 2 = .bool false := hC 2 (by simp)
      have E : Fr w [(b9_7, 2, Fq.num (an / ad)), (b9_8, 2, Fq.num (an % ad)), (b6, 2, Fq.num 0), (b5, 2, Fq.num 0), (b4, 2, Fq.num bd), (b3, 2, Fq.num bn), (b2, 2, Fq.num ad), (b1, 2, Fq.num an)] w12 := E12
      rw [lay_all hL]
      simp only [putAll, dstOf, List.length_cons, List.length_nil, Nat.zero_add, Nat.reduceAdd, List.getElem?_toArray, List.getElem?_cons_zero, List.getElem?_cons_succ, Option.bind_some, Act.put, List.setIfInBounds_toArray, List.set_cons_succ, List.set_cons_zero]
      rw [e1, e2]
      generalize vs 0 = u12_0
      clear e1 e2 hC hn E12 hL vs L nb
      clear T
      go_upto_region 4 with (fail)
      have B13 : Hid (ab (((an / ad) * bd)) < pw 601) := ab_mulM B7.out Hbd.out (by omega)
      have B14 : Hid (ab ((bn - ((an / ad) * bd))) < pw 602) := ab_subB Hbn.out B13.out (by omega) (by omega)
      refine region_fr (C := [Fq.num bn, Fq.num (an / ad), Fq.num bd, Fq.num ((an / ad) * bd), Fq.num (bn - ((an / ad) * bd)), Fq.any, Fq.any]) (ks := [none, none, none, none, none, none, none, none]) (new := [⟨5, 6, 2, Fq.num 0, Fq.num (bn - ((an / ad) * bd)), none⟩]) E rfl (by kernel_rfl) rfl rfl (fun hp => ⟨?_, ?_, ?_, ?_, ?_, ?_, ?_, trivial⟩) ?_
      · exact q_loadInt (off := 0) hp (free_of rfl) trivial (List.mem_iff_getElem?.2 ⟨5, rfl⟩) (.inl rfl) (Nat.le_of_ble_eq_true rfl) (sq_out rfl rfl (fun _ _ => rfl)) (fun us w hl h => ld_num hl h)
      · exact q_loadInt (off := 0) hp (free_of rfl) trivial (List.mem_iff_getElem?.2 ⟨0, rfl⟩) (.inl rfl) (Nat.le_of_ble_eq_true rfl) (sq_out rfl rfl (fun _ _ => rfl)) (fun us w hl h => ld_num hl h)
      · exact q_loadInt (off := 0) hp (free_of rfl) trivial (List.mem_iff_getElem?.2 ⟨4, rfl⟩) (.inl rfl) (Nat.le_of_ble_eq_true rfl) (sq_out rfl rfl (fun _ _ => rfl)) (fun us w hl h => ld_num hl h)
      · exact q_call2 (F := (Fq.num (an / ad)).P) (G := (Fq.num bd).P) hp (free_of rfl) trivial (enq_Mul) (sq_in 1 rfl rfl (by simp) rfl (fun v w h => h)) (sq_in 2 rfl rfl (by simp) rfl (fun v w h => h)) (fun v v' w h h' => exK (MulV h h') B13.out (by omega))
      · exact q_call2 (F := (Fq.num bn).P) (G := (Fq.num ((an / ad) * bd)).P) hp (free_of rfl) trivial (enq_Sub) (sq_in 0 rfl rfl (by simp) rfl (fun v w h => h)) (sq_in 3 rfl rfl (by simp) rfl (fun v w h => h)) (fun v v' w h h' => exK (SubV h h') B14.out (by omega))
      · exact q_allocInt hp (List.mem_iff_getElem?.2 ⟨0, rfl⟩) rfl rfl rfl rfl (Nat.ne_of_beq_eq_false rfl) (fun _ _ => trivial) (old_ne rfl) (newk_ne rfl) (fun w => Num.zero w)
      · exact q_storeNewInt hp (List.mem_iff_getElem?.2 ⟨0, rfl⟩) rfl rfl rfl (own_ptr rfl rfl (by simp) rfl) (sq_in 4 rfl rfl (by simp) rfl (fun v w h => intV_num h)) (fun _ _ => trivial) (old_ne rfl) (newi_ne rfl)
      intro L vs w15 nb hL hC hn E15
      have e5 : vs 5 = .pointer (some ⟨nb 5, 0, none⟩) := hn _ (List.mem_iff_getElem?.2 ⟨0, rfl⟩)
      have E : Fr w [(nb 5, 2, Fq.num (bn - ((an / ad) * bd))), (b9_7, 2, Fq.num (an / ad)), (b9_8, 2, Fq.num (an % ad)), (b6, 2, Fq.num 0), (b5, 2, Fq.num 0), (b4, 2, Fq.num bd), (b3, 2, Fq.num bn), (b2, 2, Fq.num ad), (b1, 2, Fq.num an)] w15 := E15
      rw [lay_all hL]
      simp only [putAll, dstOf, List.length_cons, List.length_nil, Nat.zero_add, Nat.reduceAdd, List.getElem?_toArray, List.getElem?_cons_zero, List.getElem?_cons_succ, Option.bind_some, Act.put, List.setIfInBounds_toArray, List.set_cons_succ, List.set_cons_zero]
      rw [e5]
      generalize nb 5 = b15_5 at E ⊢
      generalize vs 0 = u15_0
      generalize vs 1 = u15_1
      generalize vs 2 = u15_2
      generalize vs 3 = u15_3
      generalize vs 4 = u15_4
      clear e5 hC hn E15 hL vs L nb
      by_cases hbr : bd ≤ (bn - ((an / ad) * bd))
      · have T : Hid (0 ≤ cmpI (bn - ((an / ad) * bd)) bd) := by show 0 ≤ _; have h := (mt cmpIqlt.1 (show ¬ (bn - ((an / ad) * bd)) < bd by omega)); omega
        go_upto_region 5 with (fail)
        refine region_fr (C := [Fq.num (bn - ((an / ad) * bd)), Fq.num bd, Fq.is (.int .i64 (cmpI (bn - ((an / ad) * bd)) bd)), Fq.is (.bool true)]) (ks := [none, none, none, none, none, none, none, none, none]) (new := []) E rfl (by kernel_rfl) rfl rfl (fun hp => ⟨?_, ?_, ?_, ?_, trivial⟩) ?_
        · exact q_loadInt (off := 0) hp (free_of rfl) trivial (List.mem_iff_getElem?.2 ⟨0, rfl⟩) (.inl rfl) (Nat.le_of_ble_eq_true rfl) (sq_out rfl rfl (fun _ _ => rfl)) (fun us w hl h => ld_num hl h)
        · exact q_loadInt (off := 0) hp (free_of rfl) trivial (List.mem_iff_getElem?.2 ⟨5, rfl⟩) (.inl rfl) (Nat.le_of_ble_eq_true rfl) (sq_out rfl rfl (fun _ _ => rfl)) (fun us w hl h => ld_num hl h)
        · exact q_call2 (F := (Fq.num (bn - ((an / ad) * bd))).P) (G := (Fq.num bd).P) hp (free_of rfl) trivial (enq_Cmp) (sq_in 0 rfl rfl (by simp) rfl (fun v w h => h)) (sq_in 1 rfl rfl (by simp) rfl (fun v w h => h)) (fun v v' w h h' => exCmp h h')
        · exact q_one (F := fun v _ => v = .int .i64 (cmpI (bn - ((an / ad) * bd)) bd)) hp (free_of rfl) trivial (sq_in 2 rfl rfl (by simp) rfl (fun v w h => h)) (fun ρ w hc h => ⟨.bool true, by simp [execOp, go_sem, h, hc, T.out], rfl⟩)
        intro L vs w16 nb hL hC hn E16
        have e2 : vs 2 = .int .i64 (cmpI (bn - ((an / ad) * bd)) bd) := hC 2 (by simp)
        have e3 : vs 3 = .bool true := hC 3 (by simp)
        have E : Fr w [(b15_5, 2, Fq.num (bn - ((an / ad) * bd))), (b9_7, 2, Fq.num (an / ad)), (b9_8, 2, Fq.num (an % ad)), (b6, 2, Fq.num 0), (b5, 2, Fq.num 0), (b4, 2, Fq.num bd), (b3, 2, Fq.num bn), (b2, 2, Fq.num ad), (b1, 2, Fq.num an)] w16 := E16
        rw [lay_all hL]
        simp only [putAll, dstOf, List.length_cons, List.length_nil, Nat.zero_add, Nat.reduceAdd, List.getElem?_toArray, List.getElem?_cons_zero, List.getElem?_cons_succ, Option.bind_some, Act.put, List.setIfInBounds_toArray, List.set_cons_succ, List.set_cons_zero]
        rw [e2, e3]
        generalize vs 0 = u16_0
        generalize vs 1 = u16_1
        clear e2 e3 hC hn E16 hL vs L nb
        clear T
        go_upto_region 6 with (fail)
        have B17 : Hid (ab (((an / ad) + 1)) < pw 302) := ab_addB B7.out (ab_lit (by decide)) (by omega) (by omega)
        refine region_fr (C := [Fq.num (an / ad), Fq.num 1, Fq.num ((an / ad) + 1), Fq.num 1, Fq.any, Fq.any]) (ks := [none, none, none, some (5, Fq.num 1), some (4, Fq.num ((an / ad) + 1)), none, none, none, none]) (new := []) E rfl (by kernel_rfl) rfl rfl (fun hp => ⟨?_, ?_, ?_, ?_, ?_, ?_, trivial⟩) ?_
        · exact q_loadInt (off := 0) hp (free_of rfl) trivial (List.mem_iff_getElem?.2 ⟨1, rfl⟩) (.inl rfl) (Nat.le_of_ble_eq_true rfl) (sq_out rfl rfl (fun _ _ => rfl)) (fun us w hl h => ld_num hl h)
        · exact q_loadIntOut hp (free_of rfl) trivial ho rfl (sq_out rfl rfl (fun _ _ => rfl)) (fun v w h => h)
        · exact q_call2 (F := (Fq.num (an / ad)).P) (G := (Fq.num 1).P) hp (free_of rfl) trivial (enq_Add) (sq_in 0 rfl rfl (by simp) rfl (fun v w h => h)) (sq_in 1 rfl rfl (by simp) rfl (fun v w h => h)) (fun v v' w h h' => exK (AddV h h') B17.out (by omega))
        · exact q_loadIntOut hp (free_of rfl) trivial ho rfl (sq_out rfl rfl (fun _ _ => rfl)) (fun v w h => h)
        · exact q_storeOldInt hp (List.mem_iff_getElem?.2 ⟨4, rfl⟩) rfl rfl (sq_out rfl rfl (fun _ _ => rfl)) (sq_in 2 rfl rfl (by simp) rfl (fun v w h => intV_num h)) (fun _ _ => trivial) (newik_ne rfl)
        · exact q_storeOldInt hp (List.mem_iff_getElem?.2 ⟨3, rfl⟩) rfl rfl (sq_out rfl rfl (fun _ _ => rfl)) (sq_in 3 rfl rfl (by simp) rfl (fun v w h => intV_num h)) (fun _ _ => trivial) (newik_ne rfl)
        intro L vs w18 nb hL hC hn E18
        have E : Fr w [(b15_5, 2, Fq.num (bn - ((an / ad) * bd))), (b9_7, 2, Fq.num (an / ad)), (b9_8, 2, Fq.num (an % ad)), (b6, 2, Fq.num 1), (b5, 2, Fq.num ((an / ad) + 1)), (b4, 2, Fq.num bd), (b3, 2, Fq.num bn), (b2, 2, Fq.num ad), (b1, 2, Fq.num an)] w18 := E18
        rw [lay_all hL]
        simp only [putAll, dstOf, List.length_cons, List.length_nil, Nat.zero_add, Nat.reduceAdd, List.getElem?_toArray, List.getElem?_cons_zero, List.getElem?_cons_succ, Option.bind_some, Act.put, List.setIfInBounds_toArray, List.set_cons_succ, List.set_cons_zero]
        generalize vs 0 = u18_0
        generalize vs 1 = u18_1
        generalize vs 2 = u18_2
        generalize vs 3 = u18_3
        clear  hC hn E18 hL vs L nb
        have hs : Hid (simF (N + 1) an ad bn bd = (an / ad + 1, 1)) := by show _ = _; simp only [simF]; rw [if_neg hr, if_pos hbr]
        clear hr hbr
        obtain ⟨p0, p1, c0, c1, hP⟩ := box_num (E.box 4 rfl)
        obtain ⟨q0, q1, d0, d1, hQ⟩ := box_num (E.box 3 rfl)
        clear B7 B8 B13 B14 B17
        go_wp2
        refine bodyPost_ret (v := .tuple #[.agg #[p0, p1], .agg #[q0, q1]]) ?_ rfl ⟨_, rfl, E.below, _, _, rfl, by show Num _ _ _; rw [hs.out]; exact hP, by show Num _ _ _; rw [hs.out]; exact hQ⟩
        simp [results, Tryz.results100, go_sem, c0, c1, d0, d1]
      · have T : Hid (¬ 0 ≤ cmpI (bn - ((an / ad) * bd)) bd) := by show ¬ 0 ≤ _; have h := cmpIqlt.2 (show (bn - ((an / ad) * bd)) < bd by omega); omega
        go_upto_region 5 with (fail)
        refine region_fr (C := [Fq.num (bn - ((an / ad) * bd)), Fq.num bd, Fq.is (.int .i64 (cmpI (bn - ((an / ad) * bd)) bd)), Fq.is (.bool false)]) (ks := [none, none, none, none, none, none, none, none, none]) (new := []) E rfl (by kernel_rfl) rfl rfl (fun hp => ⟨?_, ?_, ?_, ?_, trivial⟩) ?_
        · exact q_loadInt (off := 0) hp (free_of rfl) trivial (List.mem_iff_getElem?.2 ⟨0, rfl⟩) (.inl rfl) (Nat.le_of_ble_eq_true rfl) (sq_out rfl rfl (fun _ _ => rfl)) (fun us w hl h => ld_num hl h)
        · exact q_loadInt (off := 0) hp (free_of rfl) trivial (List.mem_iff_getElem?.2 ⟨5, rfl⟩) (.inl rfl) (Nat.le_of_ble_eq_true rfl) (sq_out rfl rfl (fun _ _ => rfl)) (fun us w hl h => ld_num hl h)
        · exact q_call2 (F := (Fq.num (bn - ((an / ad) * bd))).P) (G := (Fq.num bd).P) hp (free_of rfl) trivial (enq_Cmp) (sq_in 0 rfl rfl (by simp) rfl (fun v w h => h)) (sq_in 1 rfl rfl (by simp) rfl (fun v w h => h)) (fun v v' w h h' => exCmp h h')
        · exact q_one (F := fun v _ => v = .int .i64 (cmpI (bn - ((an / ad) * bd)) bd)) hp (free_of rfl) trivial (sq_in 2 rfl rfl (by simp) rfl (fun v w h => h)) (fun ρ w hc h => ⟨.bool false, by simp [execOp, go_sem, h, hc, T.out], rfl⟩)
        intro L vs w19 nb hL hC hn E19
        have e2 : vs 2 = .int .i64 (cmpI (bn - ((an / ad) * bd)) bd) := hC 2 (by simp)
        have e3 : vs 3 = .bool false := hC 3 (by simp)
        have E : Fr w [(b15_5, 2, Fq.num (bn - ((an / ad) * bd))), (b9_7, 2, Fq.num (an / ad)), (b9_8, 2, Fq.num (an % ad)), (b6, 2, Fq.num 0), (b5, 2, Fq.num 0), (b4, 2, Fq.num bd), (b3, 2, Fq.num bn), (b2, 2, Fq.num ad), (b1, 2, Fq.num an)] w19 := E19
        rw [lay_all hL]
        simp only [putAll, dstOf, List.length_cons, List.length_nil, Nat.zero_add, Nat.reduceAdd, List.getElem?_toArray, List.getElem?_cons_zero, List.getElem?_cons_succ, Option.bind_some, Act.put, List.setIfInBounds_toArray, List.set_cons_succ, List.set_cons_zero]
        rw [e2, e3]
        generalize vs 0 = u19_0
        generalize vs 1 = u19_1
        clear e2 e3 hC hn E19 hL vs L nb
        clear T
        have HRb := hidd (show ¬ an % ad = 0 ∧ ¬ bd ≤ (bn - ((an / ad) * bd)) from ⟨hr, hbr⟩)
        clear hr hbr
        have e5 := sim_rest Hp.out.2.1 Hp.out.2.2 HLE.out HRb.out.1
        have e6 := Int.emod_nonneg an (show ad ≠ 0 by have := Hp.out.2.1; omega)
        have e7 := Int.emod_lt_of_pos an Hp.out.2.1
        have HE := hidd (show 0 < (bn - ((an / ad) * bd)) ∧ (bn - ((an / ad) * bd)) < bd ∧ 0 < an % ad ∧ an % ad < ad from ⟨e5, by have := HRb.out.2; omega, by have := HRb.out.1; omega, e7⟩)
        clear e5 e6 e7
        have hf2 := (E.below.cell (p := ⟨f, 0, none⟩) hfl).trans hf
        have ho2 := ho.mono E.below
        obtain ⟨r0, r1, cr0, cr1, hPr⟩ := box_num (E.box 5 rfl)
        obtain ⟨s0, s1, cs0, cs1, hPs⟩ := box_num (E.box 0 rfl)
        obtain ⟨t0, t1, ct0, ct1, hPt⟩ := box_num (E.box 7 rfl)
        obtain ⟨u0, u1, cu0, cu1, hPu⟩ := box_num (E.box 2 rfl)
        have hf3 := hidd hf2
        unfold findV at hf2
        go_upto_region 7 with (fail)
        go_wp2_with fail
        refine (ih hPr hPs hPt hPu (Hp.out.2.2) HE.out.1 HE.out.2.2.1 Hbd.out (by have h1 := HE.out; have h2 := Hbd.out; unfold ab at *; omega) Had.out (ab_modB (by have := Hp.out.2.1; omega) Had.out) (sim_next HLE.out) (by have := HN.out; have := HE.out; omega) ho2 hf3.out (Nat.lt_of_lt_of_le hfl E.below.size)).mono ?_
        rintro e wr ⟨_, rfl, hb, v1, v2, rfl, hN1, hN2⟩
        have hsl := sim_le N bd (bn - ((an / ad) * bd)) ad (an % ad) Hp.out.2.2 HE.out.1 HE.out.2.2.1 (sim_next HLE.out) (by have := HN.out; have := HE.out; omega)
        simp only at hsl
        replace E := E.mono hb
        clear hb hf2 ho2 cr0 cr1 cs0 cs1 ct0 ct1 cu0 cu1 hPr hPs hPt hPu
        obtain ⟨R, hR⟩ : ∃ R, R = simF N bd (bn - ((an / ad) * bd)) ad (an % ad) := ⟨_, rfl⟩
        rw [← hR] at hsl hN1 hN2
        have HR := hidd hR
        clear hR
        have BN : Hid (ab R.1 < pw 300) := by show _ < _; have h2 := Hbd.out; have h3 := Had.out; unfold ab at *; omega
        have BD : Hid (ab R.2 < pw 300) := by show _ < _; have h1 := HE.out; have h2 := Hbd.out; have h3 := Had.out; unfold ab at *; omega
        clear hsl
        obtain ⟨n5, ao5, k5, c5, rfl⟩ := hN1.parts
        obtain ⟨n6, ao6, k6, c6, rfl⟩ := hN2.parts
        go_upto_region 8 with (fail)
        obtain ⟨wA, bA, hwA, hbA, hsA, E⟩ := fr_more E rfl (F := Fq.num R.1) (us := [.bool n5, .slice ao5 k5 c5]) 29 rfl (by simp) (tame_int _ _ _ _) hN1
        obtain ⟨wB, bB, hwB, hbB, hsB, E⟩ := fr_more E hsA (F := Fq.num R.2) (us := [.bool n6, .slice ao6 k6 c6]) 29 rfl (by simp) (tame_int _ _ _ _) (hN2.mono (by rw [hwA]; exact alloc_below _ _))
        rw [← hwA, ← hwB, ← hbB, ← hbA]
        clear hwA hwB hbA hbB hsA hsB hN1 hN2
        have B20 : Hid (ab (((an / ad) * R.1)) < pw 601) := ab_mulM B7.out BN.out (by omega)
        have B21 : Hid (ab ((((an / ad) * R.1) + R.2)) < pw 602) := ab_addB B20.out BD.out (by omega) (by omega)
        refine region_fr (C := [Fq.num (an / ad), Fq.num R.1, Fq.num ((an / ad) * R.1), Fq.num R.2, Fq.num (((an / ad) * R.1) + R.2), Fq.num R.1, Fq.any, Fq.any]) (ks := [none, none, none, none, none, some (7, Fq.num R.1), some (6, Fq.num (((an / ad) * R.1) + R.2)), none, none, none, none]) (new := []) E rfl (by kernel_rfl) rfl rfl (fun hp => ⟨?_, ?_, ?_, ?_, ?_, ?_, ?_, ?_, trivial⟩) ?_
        · exact q_loadInt (off := 0) hp (free_of rfl) trivial (List.mem_iff_getElem?.2 ⟨3, rfl⟩) (.inl rfl) (Nat.le_of_ble_eq_true rfl) (sq_out rfl rfl (fun _ _ => rfl)) (fun us w hl h => ld_num hl h)
        · exact q_loadInt (off := 0) hp (free_of rfl) trivial (List.mem_iff_getElem?.2 ⟨1, rfl⟩) (.inl rfl) (Nat.le_of_ble_eq_true rfl) (sq_out rfl rfl (fun _ _ => rfl)) (fun us w hl h => ld_num hl h)
        · exact q_call2 (F := (Fq.num (an / ad)).P) (G := (Fq.num R.1).P) hp (free_of rfl) trivial (enq_Mul) (sq_in 0 rfl rfl (by simp) rfl (fun v w h => h)) (sq_in 1 rfl rfl (by simp) rfl (fun v w h => h)) (fun v v' w h h' => exK (MulV h h') B20.out (by omega))
        · exact q_loadInt (off := 0) hp (free_of rfl) trivial (List.mem_iff_getElem?.2 ⟨0, rfl⟩) (.inl rfl) (Nat.le_of_ble_eq_true rfl) (sq_out rfl rfl (fun _ _ => rfl)) (fun us w hl h => ld_num hl h)
        · exact q_call2 (F := (Fq.num ((an / ad) * R.1)).P) (G := (Fq.num R.2).P) hp (free_of rfl) trivial (enq_Add) (sq_in 2 rfl rfl (by simp) rfl (fun v w h => h)) (sq_in 3 rfl rfl (by simp) rfl (fun v w h => h)) (fun v v' w h h' => exK (AddV h h') B21.out (by omega))
        · exact q_loadInt (off := 0) hp (free_of rfl) trivial (List.mem_iff_getElem?.2 ⟨1, rfl⟩) (.inl rfl) (Nat.le_of_ble_eq_true rfl) (sq_out rfl rfl (fun _ _ => rfl)) (fun us w hl h => ld_num hl h)
        · exact q_storeOldInt hp (List.mem_iff_getElem?.2 ⟨6, rfl⟩) rfl rfl (sq_out rfl rfl (fun _ _ => rfl)) (sq_in 4 rfl rfl (by simp) rfl (fun v w h => intV_num h)) (fun _ _ => trivial) (newik_ne rfl)
        · exact q_storeOldInt hp (List.mem_iff_getElem?.2 ⟨5, rfl⟩) rfl rfl (sq_out rfl rfl (fun _ _ => rfl)) (sq_in 5 rfl rfl (by simp) rfl (fun v w h => intV_num h)) (fun _ _ => trivial) (newik_ne rfl)
        intro L vs w22 nb hL hC hn E22
        have E : Fr w [(bB, 2, Fq.num R.2), (bA, 2, Fq.num R.1), (b15_5, 2, Fq.num (bn - ((an / ad) * bd))), (b9_7, 2, Fq.num (an / ad)), (b9_8, 2, Fq.num (an % ad)), (b6, 2, Fq.num R.1), (b5, 2, Fq.num (((an / ad) * R.1) + R.2)), (b4, 2, Fq.num bd), (b3, 2, Fq.num bn), (b2, 2, Fq.num ad), (b1, 2, Fq.num an)] w22 := E22
        rw [lay_all hL]
        simp only [putAll, dstOf, List.length_cons, List.length_nil, Nat.zero_add, Nat.reduceAdd, List.getElem?_toArray, List.getElem?_cons_zero, List.getElem?_cons_succ, Option.bind_some, Act.put, List.setIfInBounds_toArray, List.set_cons_succ, List.set_cons_zero]
        generalize vs 0 = u22_0
        generalize vs 1 = u22_1
        generalize vs 2 = u22_2
        generalize vs 3 = u22_3
        generalize vs 4 = u22_4
        generalize vs 5 = u22_5
        clear  hC hn E22 hL vs L nb
        have hs : Hid (simF (N + 1) an ad bn bd = (an / ad * R.1 + R.2, R.1)) := by show _ = _; simp only [simF]; rw [if_neg HRb.out.1, if_neg (by have := HRb.out.2; omega), ← HR.out]
        obtain ⟨p0, p1, c0, c1, hP⟩ := box_num (E.box 6 rfl)
        obtain ⟨q0, q1, d0, d1, hQ⟩ := box_num (E.box 5 rfl)
        clear B7 B8 B13 B14 B20 B21
        go_wp2
        refine bodyPost_ret (v := .tuple #[.agg #[p0, p1], .agg #[q0, q1]]) ?_ rfl ⟨_, rfl, E.below, _, _, rfl, by show Num _ _ _; rw [hs.out]; exact hP, by show Num _ _ _; rw [hs.out]; exact hQ⟩
        simp [results, Tryz.results100, go_sem, c0, c1, d0, d1]

set_option maxRecDepth 100000 in
set_option maxHeartbeats 4000000 in
theorem exSimplest {w : World} {v v' : Value} {a b : Rat} (h : Pair w v a.num a.den) (h' : Pair w v' b.num b.den) (ha : Rb a 300) (hb : Rb b 300) (ho2 : Hid (0 < a.num ∧ a.num * b.den ≤ b.num * a.den)) :
    Calls Tryz.prog 74 #[v, v'] w fun e w' => ∃ v', e = .returned v' ∧ Below w.heap.size w w' ∧ Pair w' v' (simF ((a.den : Int) + (b.den : Int)).toNat a.num a.den b.num b.den).1 (simF ((a.den : Int) + (b.den : Int)).toNat a.num a.den b.num b.den).2 := by
  replace ha := hidd ha
  replace hb := hidd hb
  obtain ⟨n0, ao0, k0, c0, n0', ao0', k0', c0', rfl, _⟩ := ratV_pair h
  obtain ⟨n1, ao1, k1, c1, n1', ao1', k1', c1', rfl, _⟩ := ratV_pair h'
  obtain ⟨w1, b1, hw1, hb1, hs1, E⟩ := fr_start w (F := Fq.pair a.num (a.den : Int)) (us := [.bool n0, .slice ao0 k0 c0, .bool n0', .slice ao0' k0' c0']) 31 rfl (by simp) (tame_rat _ _ _ _ _ _ _ _) h
  obtain ⟨w2, b2, hw2, hb2, hs2, E⟩ := fr_more E hs1 (F := Fq.pair b.num (b.den : Int)) (us := [.bool n1, .slice ao1 k1 c1, .bool n1', .slice ao1' k1' c1']) 31 rfl (by simp) (tame_rat _ _ _ _ _ _ _ _) (h'.mono E.below)
  obtain ⟨w3, b3, hw3, hb3, hs3, E⟩ := fr_more E hs2 (F := Fq.pair 0 0) (us := [.bool false, .slice none 0 0, .bool false, .slice none 0 0]) 31 rfl (by simp) (tame_rat _ _ _ _ _ _ _ _) (Pair.zero _)
  go_enter Tryz.func74, Tryz.ntmps74
  go_upto_region 1 with (fail)
  rw [← hw1]
  rw [← hw2]
  rw [← hw3]
  rw [← hb3]
  rw [← hb2]
  rw [← hb1]
  clear hw1 hw2 hw3 hb1 hb2 hb3 hs3 hs1 hs2
  have B4 : Hid (ab ((1)) < pw 3) := ab_lit (by decide)
  refine region_fr (C := [Fq.num (1), Fq.any, Fq.any]) (ks := [none, none, none]) (new := [⟨1, 2, 2, Fq.num 0, Fq.num (1), none⟩]) E rfl (by kernel_rfl) rfl rfl (fun hp => ⟨?_, ?_, ?_, trivial⟩) ?_
  · exact q_call1 (F := (Fq.is (.int .i64 1)).P) hp (free_of rfl) trivial (enq_Of) (sq_const (fun _ => rfl)) (fun v w h => (by subst h; exact OfK w (1) (by omega) (by omega)))
  · exact q_allocInt hp (List.mem_iff_getElem?.2 ⟨0, rfl⟩) rfl rfl rfl rfl (Nat.ne_of_beq_eq_false rfl) (fun _ _ => trivial) (old_ne rfl) (newk_ne rfl) (fun w => Num.zero w)
  · exact q_storeNewInt hp (List.mem_iff_getElem?.2 ⟨0, rfl⟩) rfl rfl rfl (own_ptr rfl rfl (by simp) rfl) (sq_in 0 rfl rfl (by simp) rfl (fun v w h => intV_num h)) (fun _ _ => trivial) (old_ne rfl) (newi_ne rfl)
  intro L vs w5 nb hL hC hn E5
  have e1 : vs 1 = .pointer (some ⟨nb 1, 0, none⟩) := hn _ (List.mem_iff_getElem?.2 ⟨0, rfl⟩)
  have E : Fr w [(nb 1, 2, Fq.num (1)), (b3, 4, Fq.pair 0 0), (b2, 4, Fq.pair b.num (b.den : Int)), (b1, 4, Fq.pair a.num (a.den : Int))] w5 := E5
  rw [lay_all hL]
  simp only [putAll, dstOf, List.length_cons, List.length_nil, Nat.zero_add, Nat.reduceAdd, List.getElem?_toArray, List.getElem?_cons_zero, List.getElem?_cons_succ, Option.bind_some, Act.put, List.setIfInBounds_toArray, List.set_cons_succ, List.set_cons_zero]
  rw [e1]
  generalize nb 1 = b5_1 at E ⊢
  generalize vs 0 = u5_0
  clear e1 hC hn E5 hL vs L nb
  go_upto_region 3 with (fail)
  obtain ⟨wF, bF, hwF, hbF, hsF, E⟩ := fr_more E rfl (F := Fq.is (.agg #[.nilFunc])) (us := [.nilFunc]) 96 rfl (by simp) (fun u hu q e => by simp at hu; subst hu; cases e) rfl
  rw [← hwF, ← hbF]
  clear hwF hbF hsF
  obtain ⟨us, hl, _, hat, _, hP⟩ := E.box 0 rfl
  match us, hl, hat, hP with
  | [u0], _, hat, hP =>
    have hu0 : u0 = .nilFunc := by have e : (Value.agg #[u0]) = .agg #[.nilFunc] := hP; injection e with e; have e2 := congrArg Array.toList e; simpa using e2
    subst hu0
    obtain ⟨d0, d1⟩ := hat 0 (by simp)
    simp at d0
    go_upto_region 4 with (fail)
    replace E := E.put (F' := Fq.is (.agg #[findV b5_1 bF])) (us := [findV b5_1 bF]) rfl (fun u hu q e => by simp at hu; subst hu; cases e) rfl
    clear d0 d1 hP hat
    obtain ⟨wG, hwG⟩ : ∃ wG, wG = putFrom wF bF 0 [findV b5_1 bF] := ⟨_, rfl⟩
    rw [← hwG] at E
    have hwG2 : wG = wF.setCell ⟨bF, 0, none⟩ (findV b5_1 bF) := hwG
    unfold findV at hwG2
    rw [← hwG2]
    clear hwG hwG2
    have ho := E.box 1 rfl
    obtain ⟨us, hl, _, hat, _, hP⟩ := E.box 0 rfl
    have hf : wG.cell? ⟨bF, 0, none⟩ = some (findV b5_1 bF) := by
      match us, hl, hat, hP with
      | [u0], _, hat, hP =>
        have e : (Value.agg #[u0]) = .agg #[findV b5_1 bF] := hP
        injection e with e
        have e2 := congrArg Array.toList e
        simp at e2
        have h0 := (hat 0 (by simp)).1
        simp at h0
        rw [h0, e2]
    clear hat hP hl
    have hfl := (E.boxes _ List.mem_cons_self).2.lt
    have hff := hidd hf
    unfold findV at hf
    obtain ⟨r0, r1, r2, r3, cr0, cr1, cr2, cr3, hPr⟩ := box_pair (E.box 4 rfl)
    have hQr := hPr
    obtain ⟨_, _, _, _, er, hNr, hDr⟩ := hPr
    injection er with er
    have fr := congrArg Array.toList er
    simp at fr
    obtain ⟨rfl, rfl, rfl, rfl⟩ := fr
    clear er hQr
    obtain ⟨s0, s1, s2, s3, cs0, cs1, cs2, cs3, hPs⟩ := box_pair (E.box 3 rfl)
    have hQs := hPs
    obtain ⟨_, _, _, _, es, hNs, hDs⟩ := hPs
    injection es with es
    have fs := congrArg Array.toList es
    simp at fs
    obtain ⟨rfl, rfl, rfl, rfl⟩ := fs
    clear es hQs
    go_wp2_with fail
    refine (exFind (N := ((a.den : Int) + (b.den : Int)).toNat) hNr hDr hNs hDs ho2.out.1 (den_pos a) (den_pos b) ha.out.1 ha.out.2 hb.out.1 hb.out.2 ho2.out.2 (Nat.le_refl _) ho hff.out hfl).mono ?_
    rintro e wr ⟨_, rfl, hbw, v1, v2, rfl, hN1, hN2⟩
    have hsl := sim_le ((a.den : Int) + (b.den : Int)).toNat a.num a.den b.num b.den ho2.out.1 (den_pos a) (den_pos b) ho2.out.2 (Nat.le_refl _)
    simp only at hsl
    replace E := E.mono hbw
    clear hbw hf hff ho hfl cr0 cr1 cr2 cr3 cs0 cs1 cs2 cs3 hNr hDr hNs hDs
    obtain ⟨R, hR⟩ : ∃ R, R = simF ((a.den : Int) + (b.den : Int)).toNat a.num a.den b.num b.den := ⟨_, rfl⟩
    rw [← hR] at hsl hN1 hN2
    have HR := hidd hR
    clear hR
    obtain ⟨n5, ao5, k5, c5, rfl⟩ := hN1.parts
    obtain ⟨n6, ao6, k6, c6, rfl⟩ := hN2.parts
    clear hsl
    go_upto_region 5 with (fail)
    obtain ⟨wA, bA, hwA, hbA, hsA, E⟩ := fr_more E rfl (F := Fq.num R.1) (us := [.bool n5, .slice ao5 k5 c5]) 29 rfl (by simp) (tame_int _ _ _ _) hN1
    obtain ⟨wB, bB, hwB, hbB, hsB, E⟩ := fr_more E hsA (F := Fq.num R.2) (us := [.bool n6, .slice ao6 k6 c6]) 29 rfl (by simp) (tame_int _ _ _ _) (hN2.mono (by rw [hwA]; exact alloc_below _ _))
    rw [← hwA, ← hwB, ← hbB, ← hbA]
    clear hwA hwB hbA hbB hsA hsB hN1 hN2
    refine region_fr (C := [Fq.num R.1, Fq.num R.2, Fq.pair R.1 R.2, Fq.any]) (ks := [none, none, none, none, some (3, Fq.pair R.1 R.2), none, none]) (new := []) E rfl (by kernel_rfl) rfl rfl (fun hp => ⟨?_, ?_, ?_, ?_, trivial⟩) ?_
    · exact q_loadInt (off := 0) hp (free_of rfl) trivial (List.mem_iff_getElem?.2 ⟨1, rfl⟩) (.inl rfl) (Nat.le_of_ble_eq_true rfl) (sq_out rfl rfl (fun _ _ => rfl)) (fun us w hl h => ld_num hl h)
    · exact q_loadInt (off := 0) hp (free_of rfl) trivial (List.mem_iff_getElem?.2 ⟨0, rfl⟩) (.inl rfl) (Nat.le_of_ble_eq_true rfl) (sq_out rfl rfl (fun _ _ => rfl)) (fun us w hl h => ld_num hl h)
    · exact q_buildRat (n := R.1) (d0 := R.2) hp (free_of rfl) trivial (sq_in 0 rfl rfl (by simp) rfl (fun v w h => h)) (sq_in 1 rfl rfl (by simp) rfl (fun v w h => h)) (fun v w h => h)
    · exact q_storeOldRat hp (List.mem_iff_getElem?.2 ⟨4, rfl⟩) rfl rfl (sq_out rfl rfl (fun _ _ => rfl)) (sq_in 2 rfl rfl (by simp) rfl (fun v w h => ratV_pair h)) (fun _ _ => trivial) (newik_ne rfl)
    intro L vs w6 nb hL hC hn E6
    have E : Fr w [(bB, 2, Fq.num R.2), (bA, 2, Fq.num R.1), (bF, 1, Fq.is (.agg #[findV b5_1 bF])), (b5_1, 2, Fq.num (1)), (b3, 4, Fq.pair R.1 R.2), (b2, 4, Fq.pair b.num (b.den : Int)), (b1, 4, Fq.pair a.num (a.den : Int))] w6 := E6
    rw [lay_all hL]
    simp only [putAll, dstOf, List.length_cons, List.length_nil, Nat.zero_add, Nat.reduceAdd, List.getElem?_toArray, List.getElem?_cons_zero, List.getElem?_cons_succ, Option.bind_some, Act.put, List.setIfInBounds_toArray, List.set_cons_succ, List.set_cons_zero]
    generalize vs 0 = u6_0
    generalize vs 1 = u6_1
    generalize vs 2 = u6_2
    clear  hC hn E6 hL vs L nb
    clear ha hb ho2
    obtain ⟨p0, p1, p2, p3, c0, c1, c2, c3, hP⟩ := box_pair (E.box 4 rfl)
    clear B4
    go_wp2
    refine bodyPost_ret (v := .agg #[p0, p1, p2, p3]) ?_ rfl ⟨_, rfl, E.below, by rw [← HR.out]; exact hP⟩
    simp [results, Tryz.results74, go_sem, c0, c1, c2, c3]

end Go.Proofs.YtoimphnhmpmipaaGreat

/- Walks: Between; the examples of the laws on fractions. -/
namespace Go.Proofs.YtoimphnhmpmipaaGreat
open Go Go.RowKit

theorem rb_lit {n d : Int} (h0 : d ≠ 0) (hn : ab n < 4294967296 * 4294967296 * 4294967296) (hd : ab d < 4294967296 * 4294967296 * 4294967296) : Rb (Rat.divInt n d) 3 := rb_divInt h0 (ab_lit hn) (ab_lit hd)
theorem of_lit {n : Int} (h : -9223372036854775808 ≤ n ∧ n ≤ 9223372036854775807) : Hid (ab n < pw 3 ∧ -9223372036854775808 ≤ n ∧ n ≤ 9223372036854775807) := ⟨ab_lit (by unfold ab; omega), h.1, h.2⟩
theorem exSSameT {w : World} {v v' : Value} {n d n' d' : Int} (h : Pair w v n d) (h' : Pair w v' n' d') (hn : n = n') (hd : d = d') : Calls Tryz.prog 13 #[v, v'] w fun e w' => ∃ v', e = .returned v' ∧ Below w.heap.size w w' ∧ v' = .bool true :=
  (exSSame h h').mono fun _ _ ⟨v1, e, hb, hv⟩ => ⟨v1, e, hb, by rw [hv, decide_eq_true ⟨hn, hd⟩]⟩
theorem exSSameQ {w : World} {v v' : Value} {a b : Rat} (h : Pair w v a.num a.den) (h' : Pair w v' b.num b.den) (hq : a = b) : Calls Tryz.prog 13 #[v, v'] w fun e w' => ∃ v', e = .returned v' ∧ Below w.heap.size w w' ∧ v' = .bool true := by
  subst hq
  exact exSSameT h h' rfl rfl

theorem size_one {n : Nat} (h0 : 0 < n) (h : n < 10) : sizeText n = [48 + (n : Int)] := by
  unfold sizeText
  rw [if_neg (by omega), decs_pos h0, show n / 10 = 0 by omega, decs_zero, show n % 10 = n by omega]
  rfl
theorem text_ex : bytesOf (ratText (Rat.divInt (-6) 4)) = { data := #[45, 51, 47, 50] } := by
  have h1 : (Rat.divInt (-6) 4).num = -3 := by decide +kernel
  have h2 : ((Rat.divInt (-6) 4).den : Int) = 2 := by decide +kernel
  unfold ratText
  rw [h1, h2, if_neg (by decide)]
  have e1 : intText (-3) = [45, 51] := by
    unfold intText
    rw [if_pos (by decide), show (-3 : Int).natAbs = 3 from rfl, size_one (by decide) (by decide)]
    rfl
  have e2 : intText 2 = [50] := by
    unfold intText
    rw [if_neg (by decide), show (2 : Int).natAbs = 2 from rfl, size_one (by decide) (by decide)]
    rfl
  rw [e1, e2]
  rfl

set_option maxRecDepth 100000 in
set_option maxHeartbeats 4000000 in
theorem exBetA {w : World} {v v' : Value} {a b : Rat} (h : Pair w v a.num a.den) (h' : Pair w v' b.num b.den) (ha : Rb a 300) (hb : Rb b 300) (hlt : b < a) :
    Calls Tryz.prog 42 #[v, v'] w fun e w' => ∃ v', e = .returned v' ∧ Below w.heap.size w w' ∧ (Fq.tup2 (Fq.pair 0 0) (Fq.is (.int .i64 1))).P v' w' := by
  replace ha := hidd ha
  replace hb := hidd hb
  obtain ⟨n0, ao0, k0, c0, n0', ao0', k0', c0', rfl, _⟩ := ratV_pair h
  obtain ⟨n1, ao1, k1, c1, n1', ao1', k1', c1', rfl, _⟩ := ratV_pair h'
  obtain ⟨w1, b1, hw1, hb1, hs1, E⟩ := fr_start w (F := Fq.pair a.num (a.den : Int)) (us := [.bool n0, .slice ao0 k0 c0, .bool n0', .slice ao0' k0' c0']) 31 rfl (by simp) (tame_rat _ _ _ _ _ _ _ _) h
  obtain ⟨w2, b2, hw2, hb2, hs2, E⟩ := fr_more E hs1 (F := Fq.pair b.num (b.den : Int)) (us := [.bool n1, .slice ao1 k1 c1, .bool n1', .slice ao1' k1' c1']) 31 rfl (by simp) (tame_rat _ _ _ _ _ _ _ _) (h'.mono E.below)
  obtain ⟨w3, b3, hw3, hb3, hs3, E⟩ := fr_more E hs2 (F := Fq.pair 0 0) (us := [.bool false, .slice none 0 0, .bool false, .slice none 0 0]) 31 rfl (by simp) (tame_rat _ _ _ _ _ _ _ _) (Pair.zero _)
  go_enter Tryz.func42, Tryz.ntmps42
  go_upto_region 1 with (fail)
  rw [← hw1]
  rw [← hw2]
  rw [← hw3]
  rw [← hb3]
  rw [← hb2]
  rw [← hb1]
  clear hw1 hw2 hw3 hb1 hb2 hb3 hs3 hs1 hs2
  have T1 : Hid (¬ cmpI (a.den : Int) 0 ≤ 0) := by show ¬ _; have := cmpIqgt.2 (den_pos a); omega
  have T2 : Hid (¬ cmpI (b.den : Int) 0 ≤ 0) := by show ¬ _; have := cmpIqgt.2 (den_pos b); omega
  have T3 : Hid (0 < cmpQ a b) := cmpQ_gt.2 hlt
  refine region_fr (C := [Fq.is (.pointer (some ⟨b1, 2, none⟩)), Fq.num (a.den : Int), Fq.is (.int .i64 (cmpI (a.den : Int) 0)), Fq.is (.bool false), Fq.is (.bool false), Fq.is (.pointer (some ⟨b2, 2, none⟩)), Fq.num (b.den : Int), Fq.is (.int .i64 (cmpI (b.den : Int) 0)), Fq.is (.bool false), Fq.is (.bool false), Fq.is (.bool false), Fq.pair a.num (a.den : Int), Fq.pair b.num (b.den : Int), Fq.is (.int .i64 (cmpQ a b)), Fq.is (.bool true), Fq.is (.bool true)]) (ks := [none, none, none]) (new := []) E rfl (by kernel_rfl) rfl rfl (fun hp => ⟨?_, ?_, ?_, ?_, ?_, ?_, ?_, ?_, ?_, ?_, ?_, ?_, ?_, ?_, ?_, ?_, trivial⟩) ?_
  · exact q_addr (b := b1) (off := 0) (off' := 2) hp (free_of rfl) trivial (sq_out rfl rfl (fun _ _ => rfl)) (fun ρ w h => by simp [execOp, go_sem, h]) (fun _ => rfl)
  · exact q_loadInt (off := 2) hp (free_of rfl) trivial (List.mem_iff_getElem?.2 ⟨2, rfl⟩) (.inl rfl) (Nat.le_of_ble_eq_true rfl) (sq_in 0 rfl rfl (by simp) rfl (fun v w h => h)) (fun us w hl h => ld_pd hl h)
  · exact q_call1 (F := (Fq.num (a.den : Int)).P) hp (free_of rfl) trivial (enq_Sign) (sq_in 1 rfl rfl (by simp) rfl (fun v w h => h)) (fun v w h => exSign h)
  · exact q_one (F := fun v _ => v = .int .i64 (cmpI (a.den : Int) 0)) hp (free_of rfl) trivial (sq_in 2 rfl rfl (by simp) rfl (fun v w h => h)) (fun ρ w hc h => ⟨.bool false, by simp [execOp, go_sem, h, hc, T1.out], rfl⟩)
  · exact q_move hp (free_of rfl) trivial (sq_in 3 rfl rfl (by simp) rfl (fun v w h => h))
  · exact q_addr (b := b2) (off := 0) (off' := 2) hp (free_of rfl) (gq_some rfl rfl (by simp) rfl (fun v w h => h)) (sq_out rfl rfl (fun _ _ => rfl)) (fun ρ w h => by simp [execOp, go_sem, h]) (fun _ => rfl)
  · exact q_loadInt (off := 2) hp (free_of rfl) (gq_some rfl rfl (by simp) rfl (fun v w h => h)) (List.mem_iff_getElem?.2 ⟨1, rfl⟩) (.inl rfl) (Nat.le_of_ble_eq_true rfl) (sq_in 5 rfl rfl (by simp) rfl (fun v w h => h)) (fun us w hl h => ld_pd hl h)
  · exact q_call1 (F := (Fq.num (b.den : Int)).P) hp (free_of rfl) (gq_some rfl rfl (by simp) rfl (fun v w h => h)) (enq_Sign) (sq_in 6 rfl rfl (by simp) rfl (fun v w h => h)) (fun v w h => exSign h)
  · exact q_one (F := fun v _ => v = .int .i64 (cmpI (b.den : Int) 0)) hp (free_of rfl) (gq_some rfl rfl (by simp) rfl (fun v w h => h)) (sq_in 7 rfl rfl (by simp) rfl (fun v w h => h)) (fun ρ w hc h => ⟨.bool false, by simp [execOp, go_sem, h, hc, T2.out], rfl⟩)
  · exact q_two (F := fun v _ => v = .bool false) (G := fun v _ => v = .bool false) hp (free_of rfl) trivial (sq_in 4 rfl rfl (by simp) rfl (fun v w h => h)) (sq_in 8 rfl rfl (by simp) rfl (fun v w h => h)) (fun ρ w hc h h' => ⟨_, by simp [execOp, go_sem, h, h'], rfl⟩)
  · exact q_move hp (free_of rfl) trivial (sq_in 9 rfl rfl (by simp) rfl (fun v w h => h))
  · exact q_loadRat hp (free_of rfl) (gq_some rfl rfl (by simp) rfl (fun v w h => h)) (List.mem_iff_getElem?.2 ⟨2, rfl⟩) (.inl rfl) rfl (sq_out rfl rfl (fun _ _ => rfl)) (fun us w hl h => h)
  · exact q_loadRat hp (free_of rfl) (gq_some rfl rfl (by simp) rfl (fun v w h => h)) (List.mem_iff_getElem?.2 ⟨1, rfl⟩) (.inl rfl) rfl (sq_out rfl rfl (fun _ _ => rfl)) (fun us w hl h => h)
  · exact q_call2 (F := (Fq.pair a.num (a.den : Int)).P) (G := (Fq.pair b.num (b.den : Int)).P) hp (free_of rfl) (gq_some rfl rfl (by simp) rfl (fun v w h => h)) (enq_Q_Cmp) (sq_in 11 rfl rfl (by simp) rfl (fun v w h => h)) (sq_in 12 rfl rfl (by simp) rfl (fun v w h => h)) (fun v v' w h h' => exCmpQ h h' (rb_le ha.out (by omega)) (rb_le hb.out (by omega)))
  · exact q_one (F := fun v _ => v = .int .i64 (cmpQ a b)) hp (free_of rfl) (gq_some rfl rfl (by simp) rfl (fun v w h => h)) (sq_in 13 rfl rfl (by simp) rfl (fun v w h => h)) (fun ρ w hc h => ⟨.bool true, by simp [execOp, go_sem, h, hc, T3.out], rfl⟩)
  · exact q_two (F := fun v _ => v = .bool false) (G := fun v _ => v = .bool true) hp (free_of rfl) trivial (sq_in 10 rfl rfl (by simp) rfl (fun v w h => h)) (sq_in 14 rfl rfl (by simp) rfl (fun v w h => h)) (fun ρ w hc h h' => ⟨_, by simp [execOp, go_sem, h, h'], rfl⟩)
  intro L vs w4 nb hL hC hn E4
  have e0 : vs 0 = .pointer (some ⟨b1, 2, none⟩) := hC 0 (by simp)
  have e2 : vs 2 = .int .i64 (cmpI (a.den : Int) 0) := hC 2 (by simp)
  have e3 : vs 3 = .bool false := hC 3 (by simp)
  have e4 : vs 4 = .bool false := hC 4 (by simp)
  have e5 : vs 5 = .pointer (some ⟨b2, 2, none⟩) := hC 5 (by simp)
  have e7 : vs 7 = .int .i64 (cmpI (b.den : Int) 0) := hC 7 (by simp)
  have e8 : vs 8 = .bool false := hC 8 (by simp)
  have e9 : vs 9 = .bool false := hC 9 (by simp)
  have e10 : vs 10 = .bool false := hC 10 (by simp)
  have e13 : vs 13 = .int .i64 (cmpQ a b) := hC 13 (by simp)
  have e14 : vs 14 = .bool true := hC 14 (by simp)
  have e15 : vs 15 = .bool true := hC 15 (by simp)
  have E : Fr w [(b3, 4, Fq.pair 0 0), (b2, 4, Fq.pair b.num (b.den : Int)), (b1, 4, Fq.pair a.num (a.den : Int))] w4 := E4
  rw [lay_all hL]
  simp only [putAll, dstOf, List.length_cons, List.length_nil, Nat.zero_add, Nat.reduceAdd, List.getElem?_toArray, List.getElem?_cons_zero, List.getElem?_cons_succ, Option.bind_some, Act.put, List.setIfInBounds_toArray, List.set_cons_succ, List.set_cons_zero]
  rw [e0, e2, e3, e4, e5, e7, e8, e9, e10, e13, e14, e15]
  generalize vs 1 = u4_1
  generalize vs 6 = u4_6
  generalize vs 11 = u4_11
  generalize vs 12 = u4_12
  clear e0 e2 e3 e4 e5 e7 e8 e9 e10 e13 e14 e15 hC hn E4 hL vs L nb
  go_upto_region 2 with (fail)
  refine region_fr (C := [Fq.pair 0 0, Fq.any, Fq.is (.int .i64 1)]) (ks := [some (1, Fq.pair 0 0), none, none]) (new := []) E rfl (by kernel_rfl) rfl rfl (fun hp => ⟨?_, ?_, ?_, trivial⟩) ?_
  · exact q_zeroRat hp (free_of rfl) trivial (fun v w h => h)
  · exact q_storeOldRat hp (List.mem_iff_getElem?.2 ⟨0, rfl⟩) rfl rfl (sq_out rfl rfl (fun _ _ => rfl)) (sq_in 0 rfl rfl (by simp) rfl (fun v w h => ratV_pair h)) (fun _ _ => trivial) (newik_ne rfl)
  · exact q_assign hp (free_of rfl) trivial (sq_const (fun _ => rfl))
  intro L vs w5 nb hL hC hn E5
  have e2 : vs 2 = .int .i64 1 := hC 2 (by simp)
  have E : Fr w [(b3, 4, Fq.pair 0 0), (b2, 4, Fq.pair b.num (b.den : Int)), (b1, 4, Fq.pair a.num (a.den : Int))] w5 := E5
  rw [lay_all hL]
  simp only [putAll, dstOf, List.length_cons, List.length_nil, Nat.zero_add, Nat.reduceAdd, List.getElem?_toArray, List.getElem?_cons_zero, List.getElem?_cons_succ, Option.bind_some, Act.put, List.setIfInBounds_toArray, List.set_cons_succ, List.set_cons_zero]
  rw [e2]
  generalize vs 0 = u5_0
  clear e2 hC hn E5 hL vs L nb
  clear T1 T2 T3
  obtain ⟨p0, p1, p2, p3, c0, c1, c2, c3, hP⟩ := box_pair (E.box 0 rfl)
  clear ha hb
  go_wp2
  refine bodyPost_ret (v := .tuple #[.agg #[p0, p1, p2, p3], .int .i64 1]) ?_ rfl ⟨_, rfl, E.below, ⟨_, _, rfl, hP, rfl⟩⟩
  simp [results, Tryz.results42, go_sem, c0, c1, c2, c3]

set_option maxRecDepth 100000 in
set_option maxHeartbeats 4000000 in
theorem exBetP {w : World} {v v' : Value} {a b : Rat} (h : Pair w v a.num a.den) (h' : Pair w v' b.num b.den) (ha : Rb a 300) (hb : Rb b 300) (h0 : 0 < a.num) (hle : a ≤ b) :
    Calls Tryz.prog 42 #[v, v'] w fun e w' => ∃ v', e = .returned v' ∧ Below w.heap.size w w' ∧ (Fq.tup2 (Fq.pair (simF ((a.den : Int) + (b.den : Int)).toNat a.num a.den b.num b.den).1 (simF ((a.den : Int) + (b.den : Int)).toNat a.num a.den b.num b.den).2) (Fq.is (.int .i64 0))).P v' w' := by
  replace ha := hidd ha
  replace hb := hidd hb
  obtain ⟨n0, ao0, k0, c0, n0', ao0', k0', c0', rfl, _⟩ := ratV_pair h
  obtain ⟨n1, ao1, k1, c1, n1', ao1', k1', c1', rfl, _⟩ := ratV_pair h'
  obtain ⟨w1, b1, hw1, hb1, hs1, E⟩ := fr_start w (F := Fq.pair a.num (a.den : Int)) (us := [.bool n0, .slice ao0 k0 c0, .bool n0', .slice ao0' k0' c0']) 31 rfl (by simp) (tame_rat _ _ _ _ _ _ _ _) h
  obtain ⟨w2, b2, hw2, hb2, hs2, E⟩ := fr_more E hs1 (F := Fq.pair b.num (b.den : Int)) (us := [.bool n1, .slice ao1 k1 c1, .bool n1', .slice ao1' k1' c1']) 31 rfl (by simp) (tame_rat _ _ _ _ _ _ _ _) (h'.mono E.below)
  obtain ⟨w3, b3, hw3, hb3, hs3, E⟩ := fr_more E hs2 (F := Fq.pair 0 0) (us := [.bool false, .slice none 0 0, .bool false, .slice none 0 0]) 31 rfl (by simp) (tame_rat _ _ _ _ _ _ _ _) (Pair.zero _)
  go_enter Tryz.func42, Tryz.ntmps42
  go_upto_region 1 with (fail)
  rw [← hw1]
  rw [← hw2]
  rw [← hw3]
  rw [← hb3]
  rw [← hb2]
  rw [← hb1]
  clear hw1 hw2 hw3 hb1 hb2 hb3 hs3 hs1 hs2
  have T1 : Hid (¬ cmpI (a.den : Int) 0 ≤ 0) := by show ¬ _; have := cmpIqgt.2 (den_pos a); omega
  have T2 : Hid (¬ cmpI (b.den : Int) 0 ≤ 0) := by show ¬ _; have := cmpIqgt.2 (den_pos b); omega
  have T3 : Hid (¬ 0 < cmpQ a b) := fun e => Rat.not_lt.2 hle (cmpQ_gt.1 e)
  have T4 : Hid (0 < cmpI a.num 0) := cmpIqgt.2 h0
  have ho : Hid (0 < a.num ∧ a.num * b.den ≤ b.num * a.den) := ⟨h0, (Rat.le_iff _ _).1 hle⟩
  clear h0 hle
  refine region_fr (C := [Fq.is (.pointer (some ⟨b1, 2, none⟩)), Fq.num (a.den : Int), Fq.is (.int .i64 (cmpI (a.den : Int) 0)), Fq.is (.bool false), Fq.is (.bool false), Fq.is (.pointer (some ⟨b2, 2, none⟩)), Fq.num (b.den : Int), Fq.is (.int .i64 (cmpI (b.den : Int) 0)), Fq.is (.bool false), Fq.is (.bool false), Fq.is (.bool false), Fq.pair a.num (a.den : Int), Fq.pair b.num (b.den : Int), Fq.is (.int .i64 (cmpQ a b)), Fq.is (.bool false), Fq.is (.bool false)]) (ks := [none, none, none]) (new := []) E rfl (by kernel_rfl) rfl rfl (fun hp => ⟨?_, ?_, ?_, ?_, ?_, ?_, ?_, ?_, ?_, ?_, ?_, ?_, ?_, ?_, ?_, ?_, trivial⟩) ?_
  · exact q_addr (b := b1) (off := 0) (off' := 2) hp (free_of rfl) trivial (sq_out rfl rfl (fun _ _ => rfl)) (fun ρ w h => by simp [execOp, go_sem, h]) (fun _ => rfl)
  · exact q_loadInt (off := 2) hp (free_of rfl) trivial (List.mem_iff_getElem?.2 ⟨2, rfl⟩) (.inl rfl) (Nat.le_of_ble_eq_true rfl) (sq_in 0 rfl rfl (by simp) rfl (fun v w h => h)) (fun us w hl h => ld_pd hl h)
  · exact q_call1 (F := (Fq.num (a.den : Int)).P) hp (free_of rfl) trivial (enq_Sign) (sq_in 1 rfl rfl (by simp) rfl (fun v w h => h)) (fun v w h => exSign h)
  · exact q_one (F := fun v _ => v = .int .i64 (cmpI (a.den : Int) 0)) hp (free_of rfl) trivial (sq_in 2 rfl rfl (by simp) rfl (fun v w h => h)) (fun ρ w hc h => ⟨.bool false, by simp [execOp, go_sem, h, hc, T1.out], rfl⟩)
  · exact q_move hp (free_of rfl) trivial (sq_in 3 rfl rfl (by simp) rfl (fun v w h => h))
  · exact q_addr (b := b2) (off := 0) (off' := 2) hp (free_of rfl) (gq_some rfl rfl (by simp) rfl (fun v w h => h)) (sq_out rfl rfl (fun _ _ => rfl)) (fun ρ w h => by simp [execOp, go_sem, h]) (fun _ => rfl)
  · exact q_loadInt (off := 2) hp (free_of rfl) (gq_some rfl rfl (by simp) rfl (fun v w h => h)) (List.mem_iff_getElem?.2 ⟨1, rfl⟩) (.inl rfl) (Nat.le_of_ble_eq_true rfl) (sq_in 5 rfl rfl (by simp) rfl (fun v w h => h)) (fun us w hl h => ld_pd hl h)
  · exact q_call1 (F := (Fq.num (b.den : Int)).P) hp (free_of rfl) (gq_some rfl rfl (by simp) rfl (fun v w h => h)) (enq_Sign) (sq_in 6 rfl rfl (by simp) rfl (fun v w h => h)) (fun v w h => exSign h)
  · exact q_one (F := fun v _ => v = .int .i64 (cmpI (b.den : Int) 0)) hp (free_of rfl) (gq_some rfl rfl (by simp) rfl (fun v w h => h)) (sq_in 7 rfl rfl (by simp) rfl (fun v w h => h)) (fun ρ w hc h => ⟨.bool false, by simp [execOp, go_sem, h, hc, T2.out], rfl⟩)
  · exact q_two (F := fun v _ => v = .bool false) (G := fun v _ => v = .bool false) hp (free_of rfl) trivial (sq_in 4 rfl rfl (by simp) rfl (fun v w h => h)) (sq_in 8 rfl rfl (by simp) rfl (fun v w h => h)) (fun ρ w hc h h' => ⟨_, by simp [execOp, go_sem, h, h'], rfl⟩)
  · exact q_move hp (free_of rfl) trivial (sq_in 9 rfl rfl (by simp) rfl (fun v w h => h))
  · exact q_loadRat hp (free_of rfl) (gq_some rfl rfl (by simp) rfl (fun v w h => h)) (List.mem_iff_getElem?.2 ⟨2, rfl⟩) (.inl rfl) rfl (sq_out rfl rfl (fun _ _ => rfl)) (fun us w hl h => h)
  · exact q_loadRat hp (free_of rfl) (gq_some rfl rfl (by simp) rfl (fun v w h => h)) (List.mem_iff_getElem?.2 ⟨1, rfl⟩) (.inl rfl) rfl (sq_out rfl rfl (fun _ _ => rfl)) (fun us w hl h => h)
  · exact q_call2 (F := (Fq.pair a.num (a.den : Int)).P) (G := (Fq.pair b.num (b.den : Int)).P) hp (free_of rfl) (gq_some rfl rfl (by simp) rfl (fun v w h => h)) (enq_Q_Cmp) (sq_in 11 rfl rfl (by simp) rfl (fun v w h => h)) (sq_in 12 rfl rfl (by simp) rfl (fun v w h => h)) (fun v v' w h h' => exCmpQ h h' (rb_le ha.out (by omega)) (rb_le hb.out (by omega)))
  · exact q_one (F := fun v _ => v = .int .i64 (cmpQ a b)) hp (free_of rfl) (gq_some rfl rfl (by simp) rfl (fun v w h => h)) (sq_in 13 rfl rfl (by simp) rfl (fun v w h => h)) (fun ρ w hc h => ⟨.bool false, by simp [execOp, go_sem, h, hc, T3.out], rfl⟩)
  · exact q_two (F := fun v _ => v = .bool false) (G := fun v _ => v = .bool false) hp (free_of rfl) trivial (sq_in 10 rfl rfl (by simp) rfl (fun v w h => h)) (sq_in 14 rfl rfl (by simp) rfl (fun v w h => h)) (fun ρ w hc h h' => ⟨_, by simp [execOp, go_sem, h, h'], rfl⟩)
  intro L vs w4 nb hL hC hn E4
  have e0 : vs 0 = .pointer (some ⟨b1, 2, none⟩) := hC 0 (by simp)
  have e2 : vs 2 = .int .i64 (cmpI (a.den : Int) 0) := hC 2 (by simp)
  have e3 : vs 3 = .bool false := hC 3 (by simp)
  have e4 : vs 4 = .bool false := hC 4 (by simp)
  have e5 : vs 5 = .pointer (some ⟨b2, 2, none⟩) := hC 5 (by simp)
  have e7 : vs 7 = .int .i64 (cmpI (b.den : Int) 0) := hC 7 (by simp)
  have e8 : vs 8 = .bool false := hC 8 (by simp)
  have e9 : vs 9 = .bool false := hC 9 (by simp)
  have e10 : vs 10 = .bool false := hC 10 (by simp)
  have e13 : vs 13 = .int .i64 (cmpQ a b) := hC 13 (by simp)
  have e14 : vs 14 = .bool false := hC 14 (by simp)
  have e15 : vs 15 = .bool false := hC 15 (by simp)
  have E : Fr w [(b3, 4, Fq.pair 0 0), (b2, 4, Fq.pair b.num (b.den : Int)), (b1, 4, Fq.pair a.num (a.den : Int))] w4 := E4
  rw [lay_all hL]
  simp only [putAll, dstOf, List.length_cons, List.length_nil, Nat.zero_add, Nat.reduceAdd, List.getElem?_toArray, List.getElem?_cons_zero, List.getElem?_cons_succ, Option.bind_some, Act.put, List.setIfInBounds_toArray, List.set_cons_succ, List.set_cons_zero]
  rw [e0, e2, e3, e4, e5, e7, e8, e9, e10, e13, e14, e15]
  generalize vs 1 = u4_1
  generalize vs 6 = u4_6
  generalize vs 11 = u4_11
  generalize vs 12 = u4_12
  clear e0 e2 e3 e4 e5 e7 e8 e9 e10 e13 e14 e15 hC hn E4 hL vs L nb
  go_upto_region 3 with (fail)
  refine region_fr (C := [Fq.pair a.num (a.den : Int), Fq.is (.int .i64 (cmpI a.num 0)), Fq.is (.bool true), Fq.is (.bool true)]) (ks := [none, none, none]) (new := []) E rfl (by kernel_rfl) rfl rfl (fun hp => ⟨?_, ?_, ?_, ?_, trivial⟩) ?_
  · exact q_loadRat hp (free_of rfl) trivial (List.mem_iff_getElem?.2 ⟨2, rfl⟩) (.inl rfl) rfl (sq_out rfl rfl (fun _ _ => rfl)) (fun us w hl h => h)
  · exact q_call1 (F := (Fq.pair a.num (a.den : Int)).P) hp (free_of rfl) trivial (enq_Q_Sign) (sq_in 0 rfl rfl (by simp) rfl (fun v w h => h)) (fun v w h => exSignQ h)
  · exact q_one (F := fun v _ => v = .int .i64 (cmpI a.num 0)) hp (free_of rfl) trivial (sq_in 1 rfl rfl (by simp) rfl (fun v w h => h)) (fun ρ w hc h => ⟨.bool true, by simp [execOp, go_sem, h, hc, T4.out], rfl⟩)
  · exact q_assign hp (free_of rfl) trivial (sq_in 2 rfl rfl (by simp) rfl (fun v w h => h))
  intro L vs w5 nb hL hC hn E5
  have e1 : vs 1 = .int .i64 (cmpI a.num 0) := hC 1 (by simp)
  have e2 : vs 2 = .bool true := hC 2 (by simp)
  have e3 : vs 3 = .bool true := hC 3 (by simp)
  have E : Fr w [(b3, 4, Fq.pair 0 0), (b2, 4, Fq.pair b.num (b.den : Int)), (b1, 4, Fq.pair a.num (a.den : Int))] w5 := E5
  rw [lay_all hL]
  simp only [putAll, dstOf, List.length_cons, List.length_nil, Nat.zero_add, Nat.reduceAdd, List.getElem?_toArray, List.getElem?_cons_zero, List.getElem?_cons_succ, Option.bind_some, Act.put, List.setIfInBounds_toArray, List.set_cons_succ, List.set_cons_zero]
  rw [e1, e2, e3]
  generalize vs 0 = u5_0
  clear e1 e2 e3 hC hn E5 hL vs L nb
  clear T1 T2 T3 T4
  go_upto_region 4 with (fail)
  refine region_fr (C := [Fq.pair a.num (a.den : Int), Fq.pair b.num (b.den : Int), Fq.pair ((simF ((a.den : Int) + (b.den : Int)).toNat a.num a.den b.num b.den).1) ((simF ((a.den : Int) + (b.den : Int)).toNat a.num a.den b.num b.den).2), Fq.any, Fq.is (.int .i64 0)]) (ks := [some (3, Fq.pair ((simF ((a.den : Int) + (b.den : Int)).toNat a.num a.den b.num b.den).1) ((simF ((a.den : Int) + (b.den : Int)).toNat a.num a.den b.num b.den).2)), none, none]) (new := []) E rfl (by kernel_rfl) rfl rfl (fun hp => ⟨?_, ?_, ?_, ?_, ?_, trivial⟩) ?_
  · exact q_loadRat hp (free_of rfl) trivial (List.mem_iff_getElem?.2 ⟨2, rfl⟩) (.inl rfl) rfl (sq_out rfl rfl (fun _ _ => rfl)) (fun us w hl h => h)
  · exact q_loadRat hp (free_of rfl) trivial (List.mem_iff_getElem?.2 ⟨1, rfl⟩) (.inl rfl) rfl (sq_out rfl rfl (fun _ _ => rfl)) (fun us w hl h => h)
  · exact q_call2 (F := (Fq.pair a.num (a.den : Int)).P) (G := (Fq.pair b.num (b.den : Int)).P) hp (free_of rfl) trivial (enq_Q_simplest) (sq_in 0 rfl rfl (by simp) rfl (fun v w h => h)) (sq_in 1 rfl rfl (by simp) rfl (fun v w h => h)) (fun v v' w h h' => exSimplest h h' ha.out hb.out ho)
  · exact q_storeOldRat hp (List.mem_iff_getElem?.2 ⟨0, rfl⟩) rfl rfl (sq_out rfl rfl (fun _ _ => rfl)) (sq_in 2 rfl rfl (by simp) rfl (fun v w h => ratV_pair h)) (fun _ _ => trivial) (newik_ne rfl)
  · exact q_assign hp (free_of rfl) trivial (sq_const (fun _ => rfl))
  intro L vs w6 nb hL hC hn E6
  have e4 : vs 4 = .int .i64 0 := hC 4 (by simp)
  have E : Fr w [(b3, 4, Fq.pair ((simF ((a.den : Int) + (b.den : Int)).toNat a.num a.den b.num b.den).1) ((simF ((a.den : Int) + (b.den : Int)).toNat a.num a.den b.num b.den).2)), (b2, 4, Fq.pair b.num (b.den : Int)), (b1, 4, Fq.pair a.num (a.den : Int))] w6 := E6
  rw [lay_all hL]
  simp only [putAll, dstOf, List.length_cons, List.length_nil, Nat.zero_add, Nat.reduceAdd, List.getElem?_toArray, List.getElem?_cons_zero, List.getElem?_cons_succ, Option.bind_some, Act.put, List.setIfInBounds_toArray, List.set_cons_succ, List.set_cons_zero]
  rw [e4]
  generalize vs 0 = u6_0
  generalize vs 1 = u6_1
  generalize vs 2 = u6_2
  clear e4 hC hn E6 hL vs L nb
  clear ho
  obtain ⟨p0, p1, p2, p3, c0, c1, c2, c3, hP⟩ := box_pair (E.box 0 rfl)
  clear ha hb
  go_wp2
  refine bodyPost_ret (v := .tuple #[.agg #[p0, p1, p2, p3], .int .i64 0]) ?_ rfl ⟨_, rfl, E.below, ⟨_, _, rfl, hP, rfl⟩⟩
  simp [results, Tryz.results42, go_sem, c0, c1, c2, c3]

set_option maxRecDepth 100000 in
set_option maxHeartbeats 4000000 in
theorem exExamples (w : World) :
    Calls Tryz.prog 7 #[] w fun e w' => ∃ v', e = .returned v' ∧ Below w.heap.size w w' ∧ v' = .bool true := by
  go_enter Tryz.func7, Tryz.ntmps7
  go_upto_region 1 with (fail)
  have E := Fr.start w
  have B1 : Hid (Rb (Rat.divInt (1) (2)) 3) := rb_lit (by decide) (by decide) (by decide)
  have B2 : Hid (Rb (Rat.divInt (1) (3)) 3) := rb_lit (by decide) (by decide) (by decide)
  refine region_fr (C := [Fq.pair (Rat.divInt (1) (2)).num ((Rat.divInt (1) (2)).den : Int), Fq.pair (Rat.divInt (1) (3)).num ((Rat.divInt (1) (3)).den : Int), Fq.any, Fq.any, Fq.any, Fq.any]) (ks := []) (new := [⟨2, 4, 4, Fq.pair 0 0, Fq.pair (Rat.divInt (1) (2)).num ((Rat.divInt (1) (2)).den : Int), none⟩, ⟨3, 5, 4, Fq.pair 0 0, Fq.pair (Rat.divInt (1) (3)).num ((Rat.divInt (1) (3)).den : Int), none⟩]) E rfl (by kernel_rfl) rfl rfl (fun hp => ⟨?_, ?_, ?_, ?_, ?_, ?_, trivial⟩) ?_
  · exact q_call2 (F := (Fq.is (.int .i64 1)).P) (G := (Fq.is (.int .i64 2)).P) hp (free_of rfl) trivial (enq_S_Of) (sq_const (fun _ => rfl)) (sq_const (fun _ => rfl)) (fun v v' w h h' => (by subst h; subst h'; exact exSOf (n := 1) (d := 2) (by decide) (of_lit (by decide)) (of_lit (by decide))))
  · exact q_call2 (F := (Fq.is (.int .i64 1)).P) (G := (Fq.is (.int .i64 3)).P) hp (free_of rfl) trivial (enq_S_Of) (sq_const (fun _ => rfl)) (sq_const (fun _ => rfl)) (fun v v' w h h' => (by subst h; subst h'; exact exSOf (n := 1) (d := 3) (by decide) (of_lit (by decide)) (of_lit (by decide))))
  · exact q_allocRat hp (List.mem_iff_getElem?.2 ⟨0, rfl⟩) rfl rfl rfl rfl (Nat.ne_of_beq_eq_false rfl) (fun _ _ => trivial) (old_ne rfl) (newk_ne rfl) (fun w => Pair.zero w)
  · exact q_allocRat hp (List.mem_iff_getElem?.2 ⟨1, rfl⟩) rfl rfl rfl rfl (Nat.ne_of_beq_eq_false rfl) (fun _ _ => trivial) (old_ne rfl) (newk_ne rfl) (fun w => Pair.zero w)
  · exact q_storeNewRat hp (List.mem_iff_getElem?.2 ⟨0, rfl⟩) rfl rfl rfl (own_ptr rfl rfl (by simp) rfl) (sq_in 0 rfl rfl (by simp) rfl (fun v w h => ratV_pair h)) (fun _ _ => trivial) (old_ne rfl) (newi_ne rfl)
  · exact q_storeNewRat hp (List.mem_iff_getElem?.2 ⟨1, rfl⟩) rfl rfl rfl (own_ptr rfl rfl (by simp) rfl) (sq_in 1 rfl rfl (by simp) rfl (fun v w h => ratV_pair h)) (fun _ _ => trivial) (old_ne rfl) (newi_ne rfl)
  intro L vs w3 nb hL hC hn E3
  have e2 : vs 2 = .pointer (some ⟨nb 2, 0, none⟩) := hn _ (List.mem_iff_getElem?.2 ⟨0, rfl⟩)
  have e3 : vs 3 = .pointer (some ⟨nb 3, 0, none⟩) := hn _ (List.mem_iff_getElem?.2 ⟨1, rfl⟩)
  have E : Fr w [(nb 2, 4, Fq.pair (Rat.divInt (1) (2)).num ((Rat.divInt (1) (2)).den : Int)), (nb 3, 4, Fq.pair (Rat.divInt (1) (3)).num ((Rat.divInt (1) (3)).den : Int))] w3 := E3
  rw [lay_all hL]
  simp only [putAll, dstOf, List.length_cons, List.length_nil, Nat.zero_add, Nat.reduceAdd, List.getElem?_toArray, List.getElem?_cons_zero, List.getElem?_cons_succ, Option.bind_some, Act.put, List.setIfInBounds_toArray, List.set_cons_succ, List.set_cons_zero]
  rw [e2, e3]
  generalize nb 2 = b3_2 at E ⊢
  generalize nb 3 = b3_3 at E ⊢
  generalize vs 0 = u3_0
  generalize vs 1 = u3_1
  clear e2 e3 hC hn E3 hL vs L nb
  go_upto_region 2 with (fail)
  have B4 : Hid (ab ((-6)) < pw 3) := ab_lit (by decide)
  have B5 : Hid (ab ((4)) < pw 3) := ab_lit (by decide)
  have B6 : Hid (Rb (Rat.divInt (-6) (4)) 3) := rb_divInt (by decide) (Int.lt_of_lt_of_le B4.out (pw_le (by omega))) (Int.lt_of_lt_of_le B5.out (pw_le (by omega)))
  refine region_fr (C := [Fq.num (-6), Fq.num (4), Fq.tup2 (Fq.pair (Rat.divInt (-6) (4)).num ((Rat.divInt (-6) (4)).den : Int)) (Fq.is (.int .i64 0)), Fq.tup2 (Fq.pair (Rat.divInt (-6) (4)).num ((Rat.divInt (-6) (4)).den : Int)) (Fq.is (.int .i64 0)), Fq.pair (Rat.divInt (-6) (4)).num ((Rat.divInt (-6) (4)).den : Int), Fq.is (.int .i64 0), Fq.any, Fq.any, Fq.is (.int .i64 0)]) (ks := [none, none]) (new := [⟨6, 7, 4, Fq.pair 0 0, Fq.pair (Rat.divInt (-6) (4)).num ((Rat.divInt (-6) (4)).den : Int), none⟩]) E rfl (by kernel_rfl) rfl rfl (fun hp => ⟨?_, ?_, ?_, ?_, ?_, ?_, ?_, ?_, ?_, trivial⟩) ?_
  · exact q_call1 (F := (Fq.is (.int .i64 (-6))).P) hp (free_of rfl) trivial (enq_R_Of) (sq_const (fun _ => rfl)) (fun v w h => (by subst h; exact rOfK w (-6) (by omega) (by omega)))
  · exact q_call1 (F := (Fq.is (.int .i64 4)).P) hp (free_of rfl) trivial (enq_R_Of) (sq_const (fun _ => rfl)) (fun v w h => (by subst h; exact rOfK w (4) (by omega) (by omega)))
  · exact q_call2 (F := (Fq.num (-6)).P) (G := (Fq.num (4)).P) hp (free_of rfl) trivial (enq_Q_New) (sq_in 0 rfl rfl (by simp) rfl (fun v w h => h)) (sq_in 1 rfl rfl (by simp) rfl (fun v w h => h)) (fun v v' w h h' => exNewP h h' (by decide) (Int.lt_of_lt_of_le B4.out (pw_le (by omega))) (Int.lt_of_lt_of_le B5.out (pw_le (by omega))))
  · exact q_move hp (free_of rfl) trivial (sq_in 2 rfl rfl (by simp) rfl (fun v w h => h))
  · exact q_extract2 hp (free_of rfl) trivial (sq_in 3 rfl rfl (by simp) rfl (fun v w h => h)) (fun v1 v2 w h1 h2 => ⟨_, rfl, h1⟩)
  · exact q_extract2 hp (free_of rfl) trivial (sq_in 3 rfl rfl (by simp) rfl (fun v w h => h)) (fun v1 v2 w h1 h2 => ⟨_, rfl, h2⟩)
  · exact q_allocRat hp (List.mem_iff_getElem?.2 ⟨0, rfl⟩) rfl rfl rfl rfl (Nat.ne_of_beq_eq_false rfl) (fun _ _ => trivial) (old_ne rfl) (newk_ne rfl) (fun w => Pair.zero w)
  · exact q_storeNewRat hp (List.mem_iff_getElem?.2 ⟨0, rfl⟩) rfl rfl rfl (own_ptr rfl rfl (by simp) rfl) (sq_in 4 rfl rfl (by simp) rfl (fun v w h => ratV_pair h)) (fun _ _ => trivial) (old_ne rfl) (newi_ne rfl)
  · exact q_assign hp (free_of rfl) trivial (sq_in 5 rfl rfl (by simp) rfl (fun v w h => h))
  intro L vs w7 nb hL hC hn E7
  have e5 : vs 5 = .int .i64 0 := hC 5 (by simp)
  have e8 : vs 8 = .int .i64 0 := hC 8 (by simp)
  have e6 : vs 6 = .pointer (some ⟨nb 6, 0, none⟩) := hn _ (List.mem_iff_getElem?.2 ⟨0, rfl⟩)
  have E : Fr w [(nb 6, 4, Fq.pair (Rat.divInt (-6) (4)).num ((Rat.divInt (-6) (4)).den : Int)), (b3_2, 4, Fq.pair (Rat.divInt (1) (2)).num ((Rat.divInt (1) (2)).den : Int)), (b3_3, 4, Fq.pair (Rat.divInt (1) (3)).num ((Rat.divInt (1) (3)).den : Int))] w7 := E7
  rw [lay_all hL]
  simp only [putAll, dstOf, List.length_cons, List.length_nil, Nat.zero_add, Nat.reduceAdd, List.getElem?_toArray, List.getElem?_cons_zero, List.getElem?_cons_succ, Option.bind_some, Act.put, List.setIfInBounds_toArray, List.set_cons_succ, List.set_cons_zero]
  rw [e5, e8, e6]
  generalize nb 6 = b7_6 at E ⊢
  generalize vs 0 = u7_0
  generalize vs 1 = u7_1
  generalize vs 2 = u7_2
  generalize vs 3 = u7_3
  generalize vs 4 = u7_4
  clear e5 e8 e6 hC hn E7 hL vs L nb
  go_upto_region 3 with (fail)
  have B8 : Hid (ab ((1)) < pw 3) := ab_lit (by decide)
  have B9 : Hid (ab ((0)) < pw 3) := ab_lit (by decide)
  refine region_fr (C := [Fq.num (1), Fq.num (0), Fq.tup2 (Fq.pair 0 0) (Fq.is (.int .i64 4)), Fq.tup2 (Fq.pair 0 0) (Fq.is (.int .i64 4)), Fq.pair 0 0, Fq.is (.int .i64 4), Fq.any, Fq.any, Fq.is (.int .i64 4)]) (ks := [none, none, none]) (new := [⟨6, 7, 4, Fq.pair 0 0, Fq.pair 0 0, none⟩]) E rfl (by kernel_rfl) rfl rfl (fun hp => ⟨?_, ?_, ?_, ?_, ?_, ?_, ?_, ?_, ?_, trivial⟩) ?_
  · exact q_call1 (F := (Fq.is (.int .i64 1)).P) hp (free_of rfl) trivial (enq_R_Of) (sq_const (fun _ => rfl)) (fun v w h => (by subst h; exact rOfK w (1) (by omega) (by omega)))
  · exact q_call1 (F := (Fq.is (.int .i64 0)).P) hp (free_of rfl) trivial (enq_R_Of) (sq_const (fun _ => rfl)) (fun v w h => (by subst h; exact rOfK w (0) (by omega) (by omega)))
  · exact q_call2 (F := (Fq.num (1)).P) (G := (Fq.num (0)).P) hp (free_of rfl) trivial (enq_Q_New) (sq_in 0 rfl rfl (by simp) rfl (fun v w h => h)) (sq_in 1 rfl rfl (by simp) rfl (fun v w h => h)) (fun v v' w h h' => exNewZ h h' rfl (Int.lt_of_lt_of_le B8.out (pw_le (by omega))) (Int.lt_of_lt_of_le B9.out (pw_le (by omega))))
  · exact q_move hp (free_of rfl) trivial (sq_in 2 rfl rfl (by simp) rfl (fun v w h => h))
  · exact q_extract2 hp (free_of rfl) trivial (sq_in 3 rfl rfl (by simp) rfl (fun v w h => h)) (fun v1 v2 w h1 h2 => ⟨_, rfl, h1⟩)
  · exact q_extract2 hp (free_of rfl) trivial (sq_in 3 rfl rfl (by simp) rfl (fun v w h => h)) (fun v1 v2 w h1 h2 => ⟨_, rfl, h2⟩)
  · exact q_allocRat hp (List.mem_iff_getElem?.2 ⟨0, rfl⟩) rfl rfl rfl rfl (Nat.ne_of_beq_eq_false rfl) (fun _ _ => trivial) (old_ne rfl) (newk_ne rfl) (fun w => Pair.zero w)
  · exact q_storeNewRat hp (List.mem_iff_getElem?.2 ⟨0, rfl⟩) rfl rfl rfl (own_ptr rfl rfl (by simp) rfl) (sq_in 4 rfl rfl (by simp) rfl (fun v w h => ratV_pair h)) (fun _ _ => trivial) (old_ne rfl) (newi_ne rfl)
  · exact q_assign hp (free_of rfl) trivial (sq_in 5 rfl rfl (by simp) rfl (fun v w h => h))
  intro L vs w10 nb hL hC hn E10
  have e5 : vs 5 = .int .i64 4 := hC 5 (by simp)
  have e8 : vs 8 = .int .i64 4 := hC 8 (by simp)
  have e6 : vs 6 = .pointer (some ⟨nb 6, 0, none⟩) := hn _ (List.mem_iff_getElem?.2 ⟨0, rfl⟩)
  have E : Fr w [(nb 6, 4, Fq.pair 0 0), (b7_6, 4, Fq.pair (Rat.divInt (-6) (4)).num ((Rat.divInt (-6) (4)).den : Int)), (b3_2, 4, Fq.pair (Rat.divInt (1) (2)).num ((Rat.divInt (1) (2)).den : Int)), (b3_3, 4, Fq.pair (Rat.divInt (1) (3)).num ((Rat.divInt (1) (3)).den : Int))] w10 := E10
  rw [lay_all hL]
  simp only [putAll, dstOf, List.length_cons, List.length_nil, Nat.zero_add, Nat.reduceAdd, List.getElem?_toArray, List.getElem?_cons_zero, List.getElem?_cons_succ, Option.bind_some, Act.put, List.setIfInBounds_toArray, List.set_cons_succ, List.set_cons_zero]
  rw [e5, e8, e6]
  generalize nb 6 = b10_6 at E ⊢
  generalize vs 0 = u10_0
  generalize vs 1 = u10_1
  generalize vs 2 = u10_2
  generalize vs 3 = u10_3
  generalize vs 4 = u10_4
  clear e5 e8 e6 hC hn E10 hL vs L nb
  go_upto_region 4 with (fail)
  refine region_fr (C := [Fq.pair (Rat.divInt (-6) (4)).num ((Rat.divInt (-6) (4)).den : Int), Fq.tup2 (Fq.is (.string (bytesOf (ratText (Rat.divInt (-6) (4)))))) (Fq.is (.int .i64 0)), Fq.tup2 (Fq.is (.string (bytesOf (ratText (Rat.divInt (-6) (4)))))) (Fq.is (.int .i64 0)), Fq.is (.string (bytesOf (ratText (Rat.divInt (-6) (4))))), Fq.is (.int .i64 0), Fq.is (.string (bytesOf (ratText (Rat.divInt (-6) (4))))), Fq.is (.int .i64 0)]) (ks := [none, none, none, none]) (new := []) E rfl (by kernel_rfl) rfl rfl (fun hp => ⟨?_, ?_, ?_, ?_, ?_, ?_, ?_, trivial⟩) ?_
  · exact q_loadRat hp (free_of rfl) trivial (List.mem_iff_getElem?.2 ⟨1, rfl⟩) (.inl rfl) rfl (sq_out rfl rfl (fun _ _ => rfl)) (fun us w hl h => h)
  · exact q_call1 (F := (Fq.pair (Rat.divInt (-6) (4)).num ((Rat.divInt (-6) (4)).den : Int)).P) hp (free_of rfl) trivial (enq_Q_Text) (sq_in 0 rfl rfl (by simp) rfl (fun v w h => h)) (fun v w h => exTextQ h (rb_le B6.out (by omega)))
  · exact q_move hp (free_of rfl) trivial (sq_in 1 rfl rfl (by simp) rfl (fun v w h => h))
  · exact q_extract2 hp (free_of rfl) trivial (sq_in 2 rfl rfl (by simp) rfl (fun v w h => h)) (fun v1 v2 w h1 h2 => ⟨_, rfl, h1⟩)
  · exact q_extract2 hp (free_of rfl) trivial (sq_in 2 rfl rfl (by simp) rfl (fun v w h => h)) (fun v1 v2 w h1 h2 => ⟨_, rfl, h2⟩)
  · exact q_assign hp (free_of rfl) trivial (sq_in 3 rfl rfl (by simp) rfl (fun v w h => h))
  · exact q_assign hp (free_of rfl) trivial (sq_in 4 rfl rfl (by simp) rfl (fun v w h => h))
  intro L vs w11 nb hL hC hn E11
  have e3 : vs 3 = .string (bytesOf (ratText (Rat.divInt (-6) (4)))) := hC 3 (by simp)
  have e4 : vs 4 = .int .i64 0 := hC 4 (by simp)
  have e5 : vs 5 = .string (bytesOf (ratText (Rat.divInt (-6) (4)))) := hC 5 (by simp)
  have e6 : vs 6 = .int .i64 0 := hC 6 (by simp)
  have E : Fr w [(b10_6, 4, Fq.pair 0 0), (b7_6, 4, Fq.pair (Rat.divInt (-6) (4)).num ((Rat.divInt (-6) (4)).den : Int)), (b3_2, 4, Fq.pair (Rat.divInt (1) (2)).num ((Rat.divInt (1) (2)).den : Int)), (b3_3, 4, Fq.pair (Rat.divInt (1) (3)).num ((Rat.divInt (1) (3)).den : Int))] w11 := E11
  rw [lay_all hL]
  simp only [putAll, dstOf, List.length_cons, List.length_nil, Nat.zero_add, Nat.reduceAdd, List.getElem?_toArray, List.getElem?_cons_zero, List.getElem?_cons_succ, Option.bind_some, Act.put, List.setIfInBounds_toArray, List.set_cons_succ, List.set_cons_zero]
  rw [e3, e4, e5, e6]
  generalize vs 0 = u11_0
  generalize vs 1 = u11_1
  generalize vs 2 = u11_2
  clear e3 e4 e5 e6 hC hn E11 hL vs L nb
  go_upto_region 5 with (fail)
  have B12 : Hid (Rb (Rat.divInt (2) (5)) 3) := rb_lit (by decide) (by decide) (by decide)
  refine region_fr (C := [Fq.pair (Rat.divInt (1) (3)).num ((Rat.divInt (1) (3)).den : Int), Fq.pair (Rat.divInt (2) (5)).num ((Rat.divInt (2) (5)).den : Int), Fq.tup2 (Fq.pair ((simF (((Rat.divInt (1) (3)).den : Int) + ((Rat.divInt (2) (5)).den : Int)).toNat (Rat.divInt (1) (3)).num ((Rat.divInt (1) (3)).den : Int) (Rat.divInt (2) (5)).num ((Rat.divInt (2) (5)).den : Int)).1) ((simF (((Rat.divInt (1) (3)).den : Int) + ((Rat.divInt (2) (5)).den : Int)).toNat (Rat.divInt (1) (3)).num ((Rat.divInt (1) (3)).den : Int) (Rat.divInt (2) (5)).num ((Rat.divInt (2) (5)).den : Int)).2)) (Fq.is (.int .i64 0)), Fq.tup2 (Fq.pair ((simF (((Rat.divInt (1) (3)).den : Int) + ((Rat.divInt (2) (5)).den : Int)).toNat (Rat.divInt (1) (3)).num ((Rat.divInt (1) (3)).den : Int) (Rat.divInt (2) (5)).num ((Rat.divInt (2) (5)).den : Int)).1) ((simF (((Rat.divInt (1) (3)).den : Int) + ((Rat.divInt (2) (5)).den : Int)).toNat (Rat.divInt (1) (3)).num ((Rat.divInt (1) (3)).den : Int) (Rat.divInt (2) (5)).num ((Rat.divInt (2) (5)).den : Int)).2)) (Fq.is (.int .i64 0)), Fq.pair ((simF (((Rat.divInt (1) (3)).den : Int) + ((Rat.divInt (2) (5)).den : Int)).toNat (Rat.divInt (1) (3)).num ((Rat.divInt (1) (3)).den : Int) (Rat.divInt (2) (5)).num ((Rat.divInt (2) (5)).den : Int)).1) ((simF (((Rat.divInt (1) (3)).den : Int) + ((Rat.divInt (2) (5)).den : Int)).toNat (Rat.divInt (1) (3)).num ((Rat.divInt (1) (3)).den : Int) (Rat.divInt (2) (5)).num ((Rat.divInt (2) (5)).den : Int)).2), Fq.is (.int .i64 0), Fq.any, Fq.any, Fq.is (.int .i64 0)]) (ks := [none, none, none, none]) (new := [⟨6, 7, 4, Fq.pair 0 0, Fq.pair ((simF (((Rat.divInt (1) (3)).den : Int) + ((Rat.divInt (2) (5)).den : Int)).toNat (Rat.divInt (1) (3)).num ((Rat.divInt (1) (3)).den : Int) (Rat.divInt (2) (5)).num ((Rat.divInt (2) (5)).den : Int)).1) ((simF (((Rat.divInt (1) (3)).den : Int) + ((Rat.divInt (2) (5)).den : Int)).toNat (Rat.divInt (1) (3)).num ((Rat.divInt (1) (3)).den : Int) (Rat.divInt (2) (5)).num ((Rat.divInt (2) (5)).den : Int)).2), none⟩]) E rfl (by kernel_rfl) rfl rfl (fun hp => ⟨?_, ?_, ?_, ?_, ?_, ?_, ?_, ?_, ?_, trivial⟩) ?_
  · exact q_loadRat hp (free_of rfl) trivial (List.mem_iff_getElem?.2 ⟨3, rfl⟩) (.inl rfl) rfl (sq_out rfl rfl (fun _ _ => rfl)) (fun us w hl h => h)
  · exact q_call2 (F := (Fq.is (.int .i64 2)).P) (G := (Fq.is (.int .i64 5)).P) hp (free_of rfl) trivial (enq_S_Of) (sq_const (fun _ => rfl)) (sq_const (fun _ => rfl)) (fun v v' w h h' => (by subst h; subst h'; exact exSOf (n := 2) (d := 5) (by decide) (of_lit (by decide)) (of_lit (by decide))))
  · exact q_call2 (F := (Fq.pair (Rat.divInt (1) (3)).num ((Rat.divInt (1) (3)).den : Int)).P) (G := (Fq.pair (Rat.divInt (2) (5)).num ((Rat.divInt (2) (5)).den : Int)).P) hp (free_of rfl) trivial (enq_Q_Between) (sq_in 0 rfl rfl (by simp) rfl (fun v w h => h)) (sq_in 1 rfl rfl (by simp) rfl (fun v w h => h)) (fun v v' w h h' => exBetP h h' (rb_le B2.out (by omega)) (rb_le B12.out (by omega)) (by decide +kernel) (by decide +kernel))
  · exact q_move hp (free_of rfl) trivial (sq_in 2 rfl rfl (by simp) rfl (fun v w h => h))
  · exact q_extract2 hp (free_of rfl) trivial (sq_in 3 rfl rfl (by simp) rfl (fun v w h => h)) (fun v1 v2 w h1 h2 => ⟨_, rfl, h1⟩)
  · exact q_extract2 hp (free_of rfl) trivial (sq_in 3 rfl rfl (by simp) rfl (fun v w h => h)) (fun v1 v2 w h1 h2 => ⟨_, rfl, h2⟩)
  · exact q_allocRat hp (List.mem_iff_getElem?.2 ⟨0, rfl⟩) rfl rfl rfl rfl (Nat.ne_of_beq_eq_false rfl) (fun _ _ => trivial) (old_ne rfl) (newk_ne rfl) (fun w => Pair.zero w)
  · exact q_storeNewRat hp (List.mem_iff_getElem?.2 ⟨0, rfl⟩) rfl rfl rfl (own_ptr rfl rfl (by simp) rfl) (sq_in 4 rfl rfl (by simp) rfl (fun v w h => ratV_pair h)) (fun _ _ => trivial) (old_ne rfl) (newi_ne rfl)
  · exact q_assign hp (free_of rfl) trivial (sq_in 5 rfl rfl (by simp) rfl (fun v w h => h))
  intro L vs w13 nb hL hC hn E13
  have e5 : vs 5 = .int .i64 0 := hC 5 (by simp)
  have e8 : vs 8 = .int .i64 0 := hC 8 (by simp)
  have e6 : vs 6 = .pointer (some ⟨nb 6, 0, none⟩) := hn _ (List.mem_iff_getElem?.2 ⟨0, rfl⟩)
  have E : Fr w [(nb 6, 4, Fq.pair ((simF (((Rat.divInt (1) (3)).den : Int) + ((Rat.divInt (2) (5)).den : Int)).toNat (Rat.divInt (1) (3)).num ((Rat.divInt (1) (3)).den : Int) (Rat.divInt (2) (5)).num ((Rat.divInt (2) (5)).den : Int)).1) ((simF (((Rat.divInt (1) (3)).den : Int) + ((Rat.divInt (2) (5)).den : Int)).toNat (Rat.divInt (1) (3)).num ((Rat.divInt (1) (3)).den : Int) (Rat.divInt (2) (5)).num ((Rat.divInt (2) (5)).den : Int)).2)), (b10_6, 4, Fq.pair 0 0), (b7_6, 4, Fq.pair (Rat.divInt (-6) (4)).num ((Rat.divInt (-6) (4)).den : Int)), (b3_2, 4, Fq.pair (Rat.divInt (1) (2)).num ((Rat.divInt (1) (2)).den : Int)), (b3_3, 4, Fq.pair (Rat.divInt (1) (3)).num ((Rat.divInt (1) (3)).den : Int))] w13 := E13
  rw [lay_all hL]
  simp only [putAll, dstOf, List.length_cons, List.length_nil, Nat.zero_add, Nat.reduceAdd, List.getElem?_toArray, List.getElem?_cons_zero, List.getElem?_cons_succ, Option.bind_some, Act.put, List.setIfInBounds_toArray, List.set_cons_succ, List.set_cons_zero]
  rw [e5, e8, e6]
  generalize nb 6 = b13_6 at E ⊢
  generalize vs 0 = u13_0
  generalize vs 1 = u13_1
  generalize vs 2 = u13_2
  generalize vs 3 = u13_3
  generalize vs 4 = u13_4
  clear e5 e8 e6 hC hn E13 hL vs L nb
  go_upto_region 6 with (fail)
  have B14 : Hid (Rb (Rat.divInt (17) (50)) 3) := rb_lit (by decide) (by decide) (by decide)
  have B15 : Hid (Rb (Rat.divInt (9) (25)) 3) := rb_lit (by decide) (by decide) (by decide)
  refine region_fr (C := [Fq.pair (Rat.divInt (17) (50)).num ((Rat.divInt (17) (50)).den : Int), Fq.pair (Rat.divInt (9) (25)).num ((Rat.divInt (9) (25)).den : Int), Fq.tup2 (Fq.pair ((simF (((Rat.divInt (17) (50)).den : Int) + ((Rat.divInt (9) (25)).den : Int)).toNat (Rat.divInt (17) (50)).num ((Rat.divInt (17) (50)).den : Int) (Rat.divInt (9) (25)).num ((Rat.divInt (9) (25)).den : Int)).1) ((simF (((Rat.divInt (17) (50)).den : Int) + ((Rat.divInt (9) (25)).den : Int)).toNat (Rat.divInt (17) (50)).num ((Rat.divInt (17) (50)).den : Int) (Rat.divInt (9) (25)).num ((Rat.divInt (9) (25)).den : Int)).2)) (Fq.is (.int .i64 0)), Fq.tup2 (Fq.pair ((simF (((Rat.divInt (17) (50)).den : Int) + ((Rat.divInt (9) (25)).den : Int)).toNat (Rat.divInt (17) (50)).num ((Rat.divInt (17) (50)).den : Int) (Rat.divInt (9) (25)).num ((Rat.divInt (9) (25)).den : Int)).1) ((simF (((Rat.divInt (17) (50)).den : Int) + ((Rat.divInt (9) (25)).den : Int)).toNat (Rat.divInt (17) (50)).num ((Rat.divInt (17) (50)).den : Int) (Rat.divInt (9) (25)).num ((Rat.divInt (9) (25)).den : Int)).2)) (Fq.is (.int .i64 0)), Fq.pair ((simF (((Rat.divInt (17) (50)).den : Int) + ((Rat.divInt (9) (25)).den : Int)).toNat (Rat.divInt (17) (50)).num ((Rat.divInt (17) (50)).den : Int) (Rat.divInt (9) (25)).num ((Rat.divInt (9) (25)).den : Int)).1) ((simF (((Rat.divInt (17) (50)).den : Int) + ((Rat.divInt (9) (25)).den : Int)).toNat (Rat.divInt (17) (50)).num ((Rat.divInt (17) (50)).den : Int) (Rat.divInt (9) (25)).num ((Rat.divInt (9) (25)).den : Int)).2), Fq.is (.int .i64 0), Fq.any, Fq.any, Fq.is (.int .i64 0)]) (ks := [none, none, none, none, none]) (new := [⟨6, 7, 4, Fq.pair 0 0, Fq.pair ((simF (((Rat.divInt (17) (50)).den : Int) + ((Rat.divInt (9) (25)).den : Int)).toNat (Rat.divInt (17) (50)).num ((Rat.divInt (17) (50)).den : Int) (Rat.divInt (9) (25)).num ((Rat.divInt (9) (25)).den : Int)).1) ((simF (((Rat.divInt (17) (50)).den : Int) + ((Rat.divInt (9) (25)).den : Int)).toNat (Rat.divInt (17) (50)).num ((Rat.divInt (17) (50)).den : Int) (Rat.divInt (9) (25)).num ((Rat.divInt (9) (25)).den : Int)).2), none⟩]) E rfl (by kernel_rfl) rfl rfl (fun hp => ⟨?_, ?_, ?_, ?_, ?_, ?_, ?_, ?_, ?_, trivial⟩) ?_
  · exact q_call2 (F := (Fq.is (.int .i64 17)).P) (G := (Fq.is (.int .i64 50)).P) hp (free_of rfl) trivial (enq_S_Of) (sq_const (fun _ => rfl)) (sq_const (fun _ => rfl)) (fun v v' w h h' => (by subst h; subst h'; exact exSOf (n := 17) (d := 50) (by decide) (of_lit (by decide)) (of_lit (by decide))))
  · exact q_call2 (F := (Fq.is (.int .i64 9)).P) (G := (Fq.is (.int .i64 25)).P) hp (free_of rfl) trivial (enq_S_Of) (sq_const (fun _ => rfl)) (sq_const (fun _ => rfl)) (fun v v' w h h' => (by subst h; subst h'; exact exSOf (n := 9) (d := 25) (by decide) (of_lit (by decide)) (of_lit (by decide))))
  · exact q_call2 (F := (Fq.pair (Rat.divInt (17) (50)).num ((Rat.divInt (17) (50)).den : Int)).P) (G := (Fq.pair (Rat.divInt (9) (25)).num ((Rat.divInt (9) (25)).den : Int)).P) hp (free_of rfl) trivial (enq_Q_Between) (sq_in 0 rfl rfl (by simp) rfl (fun v w h => h)) (sq_in 1 rfl rfl (by simp) rfl (fun v w h => h)) (fun v v' w h h' => exBetP h h' (rb_le B14.out (by omega)) (rb_le B15.out (by omega)) (by decide +kernel) (by decide +kernel))
  · exact q_move hp (free_of rfl) trivial (sq_in 2 rfl rfl (by simp) rfl (fun v w h => h))
  · exact q_extract2 hp (free_of rfl) trivial (sq_in 3 rfl rfl (by simp) rfl (fun v w h => h)) (fun v1 v2 w h1 h2 => ⟨_, rfl, h1⟩)
  · exact q_extract2 hp (free_of rfl) trivial (sq_in 3 rfl rfl (by simp) rfl (fun v w h => h)) (fun v1 v2 w h1 h2 => ⟨_, rfl, h2⟩)
  · exact q_allocRat hp (List.mem_iff_getElem?.2 ⟨0, rfl⟩) rfl rfl rfl rfl (Nat.ne_of_beq_eq_false rfl) (fun _ _ => trivial) (old_ne rfl) (newk_ne rfl) (fun w => Pair.zero w)
  · exact q_storeNewRat hp (List.mem_iff_getElem?.2 ⟨0, rfl⟩) rfl rfl rfl (own_ptr rfl rfl (by simp) rfl) (sq_in 4 rfl rfl (by simp) rfl (fun v w h => ratV_pair h)) (fun _ _ => trivial) (old_ne rfl) (newi_ne rfl)
  · exact q_assign hp (free_of rfl) trivial (sq_in 5 rfl rfl (by simp) rfl (fun v w h => h))
  intro L vs w16 nb hL hC hn E16
  have e5 : vs 5 = .int .i64 0 := hC 5 (by simp)
  have e8 : vs 8 = .int .i64 0 := hC 8 (by simp)
  have e6 : vs 6 = .pointer (some ⟨nb 6, 0, none⟩) := hn _ (List.mem_iff_getElem?.2 ⟨0, rfl⟩)
  have E : Fr w [(nb 6, 4, Fq.pair ((simF (((Rat.divInt (17) (50)).den : Int) + ((Rat.divInt (9) (25)).den : Int)).toNat (Rat.divInt (17) (50)).num ((Rat.divInt (17) (50)).den : Int) (Rat.divInt (9) (25)).num ((Rat.divInt (9) (25)).den : Int)).1) ((simF (((Rat.divInt (17) (50)).den : Int) + ((Rat.divInt (9) (25)).den : Int)).toNat (Rat.divInt (17) (50)).num ((Rat.divInt (17) (50)).den : Int) (Rat.divInt (9) (25)).num ((Rat.divInt (9) (25)).den : Int)).2)), (b13_6, 4, Fq.pair ((simF (((Rat.divInt (1) (3)).den : Int) + ((Rat.divInt (2) (5)).den : Int)).toNat (Rat.divInt (1) (3)).num ((Rat.divInt (1) (3)).den : Int) (Rat.divInt (2) (5)).num ((Rat.divInt (2) (5)).den : Int)).1) ((simF (((Rat.divInt (1) (3)).den : Int) + ((Rat.divInt (2) (5)).den : Int)).toNat (Rat.divInt (1) (3)).num ((Rat.divInt (1) (3)).den : Int) (Rat.divInt (2) (5)).num ((Rat.divInt (2) (5)).den : Int)).2)), (b10_6, 4, Fq.pair 0 0), (b7_6, 4, Fq.pair (Rat.divInt (-6) (4)).num ((Rat.divInt (-6) (4)).den : Int)), (b3_2, 4, Fq.pair (Rat.divInt (1) (2)).num ((Rat.divInt (1) (2)).den : Int)), (b3_3, 4, Fq.pair (Rat.divInt (1) (3)).num ((Rat.divInt (1) (3)).den : Int))] w16 := E16
  rw [lay_all hL]
  simp only [putAll, dstOf, List.length_cons, List.length_nil, Nat.zero_add, Nat.reduceAdd, List.getElem?_toArray, List.getElem?_cons_zero, List.getElem?_cons_succ, Option.bind_some, Act.put, List.setIfInBounds_toArray, List.set_cons_succ, List.set_cons_zero]
  rw [e5, e8, e6]
  generalize nb 6 = b16_6 at E ⊢
  generalize vs 0 = u16_0
  generalize vs 1 = u16_1
  generalize vs 2 = u16_2
  generalize vs 3 = u16_3
  generalize vs 4 = u16_4
  clear e5 e8 e6 hC hn E16 hL vs L nb
  go_upto_region 7 with (fail)
  refine region_fr (C := [Fq.pair (Rat.divInt (1) (2)).num ((Rat.divInt (1) (2)).den : Int), Fq.pair (Rat.divInt (1) (3)).num ((Rat.divInt (1) (3)).den : Int), Fq.tup2 (Fq.pair 0 0) (Fq.is (.int .i64 1)), Fq.tup2 (Fq.pair 0 0) (Fq.is (.int .i64 1)), Fq.pair 0 0, Fq.is (.int .i64 1), Fq.any, Fq.any, Fq.is (.int .i64 1)]) (ks := [none, none, none, none, none, none]) (new := [⟨6, 7, 4, Fq.pair 0 0, Fq.pair 0 0, none⟩]) E rfl (by kernel_rfl) rfl rfl (fun hp => ⟨?_, ?_, ?_, ?_, ?_, ?_, ?_, ?_, ?_, trivial⟩) ?_
  · exact q_loadRat hp (free_of rfl) trivial (List.mem_iff_getElem?.2 ⟨4, rfl⟩) (.inl rfl) rfl (sq_out rfl rfl (fun _ _ => rfl)) (fun us w hl h => h)
  · exact q_loadRat hp (free_of rfl) trivial (List.mem_iff_getElem?.2 ⟨5, rfl⟩) (.inl rfl) rfl (sq_out rfl rfl (fun _ _ => rfl)) (fun us w hl h => h)
  · exact q_call2 (F := (Fq.pair (Rat.divInt (1) (2)).num ((Rat.divInt (1) (2)).den : Int)).P) (G := (Fq.pair (Rat.divInt (1) (3)).num ((Rat.divInt (1) (3)).den : Int)).P) hp (free_of rfl) trivial (enq_Q_Between) (sq_in 0 rfl rfl (by simp) rfl (fun v w h => h)) (sq_in 1 rfl rfl (by simp) rfl (fun v w h => h)) (fun v v' w h h' => exBetA h h' (rb_le B1.out (by omega)) (rb_le B2.out (by omega)) (by decide +kernel))
  · exact q_move hp (free_of rfl) trivial (sq_in 2 rfl rfl (by simp) rfl (fun v w h => h))
  · exact q_extract2 hp (free_of rfl) trivial (sq_in 3 rfl rfl (by simp) rfl (fun v w h => h)) (fun v1 v2 w h1 h2 => ⟨_, rfl, h1⟩)
  · exact q_extract2 hp (free_of rfl) trivial (sq_in 3 rfl rfl (by simp) rfl (fun v w h => h)) (fun v1 v2 w h1 h2 => ⟨_, rfl, h2⟩)
  · exact q_allocRat hp (List.mem_iff_getElem?.2 ⟨0, rfl⟩) rfl rfl rfl rfl (Nat.ne_of_beq_eq_false rfl) (fun _ _ => trivial) (old_ne rfl) (newk_ne rfl) (fun w => Pair.zero w)
  · exact q_storeNewRat hp (List.mem_iff_getElem?.2 ⟨0, rfl⟩) rfl rfl rfl (own_ptr rfl rfl (by simp) rfl) (sq_in 4 rfl rfl (by simp) rfl (fun v w h => ratV_pair h)) (fun _ _ => trivial) (old_ne rfl) (newi_ne rfl)
  · exact q_assign hp (free_of rfl) trivial (sq_in 5 rfl rfl (by simp) rfl (fun v w h => h))
  intro L vs w17 nb hL hC hn E17
  have e5 : vs 5 = .int .i64 1 := hC 5 (by simp)
  have e8 : vs 8 = .int .i64 1 := hC 8 (by simp)
  have e6 : vs 6 = .pointer (some ⟨nb 6, 0, none⟩) := hn _ (List.mem_iff_getElem?.2 ⟨0, rfl⟩)
  have E : Fr w [(nb 6, 4, Fq.pair 0 0), (b16_6, 4, Fq.pair ((simF (((Rat.divInt (17) (50)).den : Int) + ((Rat.divInt (9) (25)).den : Int)).toNat (Rat.divInt (17) (50)).num ((Rat.divInt (17) (50)).den : Int) (Rat.divInt (9) (25)).num ((Rat.divInt (9) (25)).den : Int)).1) ((simF (((Rat.divInt (17) (50)).den : Int) + ((Rat.divInt (9) (25)).den : Int)).toNat (Rat.divInt (17) (50)).num ((Rat.divInt (17) (50)).den : Int) (Rat.divInt (9) (25)).num ((Rat.divInt (9) (25)).den : Int)).2)), (b13_6, 4, Fq.pair ((simF (((Rat.divInt (1) (3)).den : Int) + ((Rat.divInt (2) (5)).den : Int)).toNat (Rat.divInt (1) (3)).num ((Rat.divInt (1) (3)).den : Int) (Rat.divInt (2) (5)).num ((Rat.divInt (2) (5)).den : Int)).1) ((simF (((Rat.divInt (1) (3)).den : Int) + ((Rat.divInt (2) (5)).den : Int)).toNat (Rat.divInt (1) (3)).num ((Rat.divInt (1) (3)).den : Int) (Rat.divInt (2) (5)).num ((Rat.divInt (2) (5)).den : Int)).2)), (b10_6, 4, Fq.pair 0 0), (b7_6, 4, Fq.pair (Rat.divInt (-6) (4)).num ((Rat.divInt (-6) (4)).den : Int)), (b3_2, 4, Fq.pair (Rat.divInt (1) (2)).num ((Rat.divInt (1) (2)).den : Int)), (b3_3, 4, Fq.pair (Rat.divInt (1) (3)).num ((Rat.divInt (1) (3)).den : Int))] w17 := E17
  rw [lay_all hL]
  simp only [putAll, dstOf, List.length_cons, List.length_nil, Nat.zero_add, Nat.reduceAdd, List.getElem?_toArray, List.getElem?_cons_zero, List.getElem?_cons_succ, Option.bind_some, Act.put, List.setIfInBounds_toArray, List.set_cons_succ, List.set_cons_zero]
  rw [e5, e8, e6]
  generalize nb 6 = b17_6 at E ⊢
  generalize vs 0 = u17_0
  generalize vs 1 = u17_1
  generalize vs 2 = u17_2
  generalize vs 3 = u17_3
  generalize vs 4 = u17_4
  clear e5 e8 e6 hC hn E17 hL vs L nb
  go_upto_region 8 with (fail)
  refine region_fr (C := [Fq.tup2 (Fq.pair 0 0) (Fq.is (.int .i64 3)), Fq.tup2 (Fq.pair 0 0) (Fq.is (.int .i64 3)), Fq.pair 0 0, Fq.is (.int .i64 3), Fq.any, Fq.any, Fq.is (.int .i64 3)]) (ks := [none, none, none, none, none, none, none]) (new := [⟨4, 5, 4, Fq.pair 0 0, Fq.pair 0 0, none⟩]) E rfl (by kernel_rfl) rfl rfl (fun hp => ⟨?_, ?_, ?_, ?_, ?_, ?_, ?_, trivial⟩) ?_
  · exact q_call1 (F := (Fq.is (.string { data := #[50, 47, 52] })).P) hp (free_of rfl) trivial (enq_Q_Parse) (sq_const (fun _ => rfl)) (fun v w h => (by subst h; exact exParse24 w))
  · exact q_move hp (free_of rfl) trivial (sq_in 0 rfl rfl (by simp) rfl (fun v w h => h))
  · exact q_extract2 hp (free_of rfl) trivial (sq_in 1 rfl rfl (by simp) rfl (fun v w h => h)) (fun v1 v2 w h1 h2 => ⟨_, rfl, h1⟩)
  · exact q_extract2 hp (free_of rfl) trivial (sq_in 1 rfl rfl (by simp) rfl (fun v w h => h)) (fun v1 v2 w h1 h2 => ⟨_, rfl, h2⟩)
  · exact q_allocRat hp (List.mem_iff_getElem?.2 ⟨0, rfl⟩) rfl rfl rfl rfl (Nat.ne_of_beq_eq_false rfl) (fun _ _ => trivial) (old_ne rfl) (newk_ne rfl) (fun w => Pair.zero w)
  · exact q_storeNewRat hp (List.mem_iff_getElem?.2 ⟨0, rfl⟩) rfl rfl rfl (own_ptr rfl rfl (by simp) rfl) (sq_in 2 rfl rfl (by simp) rfl (fun v w h => ratV_pair h)) (fun _ _ => trivial) (old_ne rfl) (newi_ne rfl)
  · exact q_assign hp (free_of rfl) trivial (sq_in 3 rfl rfl (by simp) rfl (fun v w h => h))
  intro L vs w18 nb hL hC hn E18
  have e3 : vs 3 = .int .i64 3 := hC 3 (by simp)
  have e6 : vs 6 = .int .i64 3 := hC 6 (by simp)
  have e4 : vs 4 = .pointer (some ⟨nb 4, 0, none⟩) := hn _ (List.mem_iff_getElem?.2 ⟨0, rfl⟩)
  have E : Fr w [(nb 4, 4, Fq.pair 0 0), (b17_6, 4, Fq.pair 0 0), (b16_6, 4, Fq.pair ((simF (((Rat.divInt (17) (50)).den : Int) + ((Rat.divInt (9) (25)).den : Int)).toNat (Rat.divInt (17) (50)).num ((Rat.divInt (17) (50)).den : Int) (Rat.divInt (9) (25)).num ((Rat.divInt (9) (25)).den : Int)).1) ((simF (((Rat.divInt (17) (50)).den : Int) + ((Rat.divInt (9) (25)).den : Int)).toNat (Rat.divInt (17) (50)).num ((Rat.divInt (17) (50)).den : Int) (Rat.divInt (9) (25)).num ((Rat.divInt (9) (25)).den : Int)).2)), (b13_6, 4, Fq.pair ((simF (((Rat.divInt (1) (3)).den : Int) + ((Rat.divInt (2) (5)).den : Int)).toNat (Rat.divInt (1) (3)).num ((Rat.divInt (1) (3)).den : Int) (Rat.divInt (2) (5)).num ((Rat.divInt (2) (5)).den : Int)).1) ((simF (((Rat.divInt (1) (3)).den : Int) + ((Rat.divInt (2) (5)).den : Int)).toNat (Rat.divInt (1) (3)).num ((Rat.divInt (1) (3)).den : Int) (Rat.divInt (2) (5)).num ((Rat.divInt (2) (5)).den : Int)).2)), (b10_6, 4, Fq.pair 0 0), (b7_6, 4, Fq.pair (Rat.divInt (-6) (4)).num ((Rat.divInt (-6) (4)).den : Int)), (b3_2, 4, Fq.pair (Rat.divInt (1) (2)).num ((Rat.divInt (1) (2)).den : Int)), (b3_3, 4, Fq.pair (Rat.divInt (1) (3)).num ((Rat.divInt (1) (3)).den : Int))] w18 := E18
  rw [lay_all hL]
  simp only [putAll, dstOf, List.length_cons, List.length_nil, Nat.zero_add, Nat.reduceAdd, List.getElem?_toArray, List.getElem?_cons_zero, List.getElem?_cons_succ, Option.bind_some, Act.put, List.setIfInBounds_toArray, List.set_cons_succ, List.set_cons_zero]
  rw [e3, e6, e4]
  generalize nb 4 = b18_4 at E ⊢
  generalize vs 0 = u18_0
  generalize vs 1 = u18_1
  generalize vs 2 = u18_2
  clear e3 e6 e4 hC hn E18 hL vs L nb
  have tx : Hid (bytesOf (ratText (Rat.divInt (-6) 4)) = { data := #[45, 51, 47, 50] }) := text_ex
  go_upto_region 9 with (fail)
  refine region_fr (C := [Fq.is (.int .i64 0), Fq.is (.bool false), Fq.is (.bool false), Fq.is (.int .i64 4), Fq.is (.bool false), Fq.is (.bool false), Fq.is (.bool false), Fq.is (.int .i64 0), Fq.is (.bool false), Fq.is (.bool false), Fq.is (.bool false), Fq.is (.int .i64 0), Fq.is (.bool false), Fq.is (.bool false), Fq.is (.bool false), Fq.is (.int .i64 0), Fq.is (.bool false), Fq.is (.bool false), Fq.is (.bool false), Fq.is (.int .i64 1), Fq.is (.bool false), Fq.is (.bool false), Fq.is (.bool false), Fq.is (.int .i64 3), Fq.is (.bool false), Fq.is (.bool false), Fq.is (.bool false), Fq.is (.string (bytesOf (ratText (Rat.divInt (-6) (4))))), Fq.is (.bool false), Fq.is (.bool false)]) (ks := [none, none, none, none, none, none, none, none]) (new := []) E rfl (by kernel_rfl) rfl rfl (fun hp => ⟨?_, ?_, ?_, ?_, ?_, ?_, ?_, ?_, ?_, ?_, ?_, ?_, ?_, ?_, ?_, ?_, ?_, ?_, ?_, ?_, ?_, ?_, ?_, ?_, ?_, ?_, ?_, ?_, ?_, ?_, trivial⟩) ?_
  · exact q_move hp (free_of rfl) trivial (sq_out rfl rfl (fun _ _ => rfl))
  · exact q_one (F := fun v _ => v = .int .i64 0) hp (free_of rfl) trivial (sq_in 0 rfl rfl (by simp) rfl (fun v w h => h)) (fun ρ w hc h => ⟨.bool false, by simp [execOp, go_sem, h, hc], rfl⟩)
  · exact q_move hp (free_of rfl) trivial (sq_in 1 rfl rfl (by simp) rfl (fun v w h => h))
  · exact q_move hp (free_of rfl) (gq_some rfl rfl (by simp) rfl (fun v w h => h)) (sq_out rfl rfl (fun _ _ => rfl))
  · exact q_one (F := fun v _ => v = .int .i64 4) hp (free_of rfl) (gq_some rfl rfl (by simp) rfl (fun v w h => h)) (sq_in 3 rfl rfl (by simp) rfl (fun v w h => h)) (fun ρ w hc h => ⟨.bool false, by simp [execOp, go_sem, h, hc], rfl⟩)
  · exact q_two (F := fun v _ => v = .bool false) (G := fun v _ => v = .bool false) hp (free_of rfl) trivial (sq_in 2 rfl rfl (by simp) rfl (fun v w h => h)) (sq_in 4 rfl rfl (by simp) rfl (fun v w h => h)) (fun ρ w hc h h' => ⟨_, by simp [execOp, go_sem, h, h'], rfl⟩)
  · exact q_move hp (free_of rfl) trivial (sq_in 5 rfl rfl (by simp) rfl (fun v w h => h))
  · exact q_move hp (free_of rfl) (gq_some rfl rfl (by simp) rfl (fun v w h => h)) (sq_out rfl rfl (fun _ _ => rfl))
  · exact q_one (F := fun v _ => v = .int .i64 0) hp (free_of rfl) (gq_some rfl rfl (by simp) rfl (fun v w h => h)) (sq_in 7 rfl rfl (by simp) rfl (fun v w h => h)) (fun ρ w hc h => ⟨.bool false, by simp [execOp, go_sem, h, hc], rfl⟩)
  · exact q_two (F := fun v _ => v = .bool false) (G := fun v _ => v = .bool false) hp (free_of rfl) trivial (sq_in 6 rfl rfl (by simp) rfl (fun v w h => h)) (sq_in 8 rfl rfl (by simp) rfl (fun v w h => h)) (fun ρ w hc h h' => ⟨_, by simp [execOp, go_sem, h, h'], rfl⟩)
  · exact q_move hp (free_of rfl) trivial (sq_in 9 rfl rfl (by simp) rfl (fun v w h => h))
  · exact q_move hp (free_of rfl) (gq_some rfl rfl (by simp) rfl (fun v w h => h)) (sq_out rfl rfl (fun _ _ => rfl))
  · exact q_one (F := fun v _ => v = .int .i64 0) hp (free_of rfl) (gq_some rfl rfl (by simp) rfl (fun v w h => h)) (sq_in 11 rfl rfl (by simp) rfl (fun v w h => h)) (fun ρ w hc h => ⟨.bool false, by simp [execOp, go_sem, h, hc], rfl⟩)
  · exact q_two (F := fun v _ => v = .bool false) (G := fun v _ => v = .bool false) hp (free_of rfl) trivial (sq_in 10 rfl rfl (by simp) rfl (fun v w h => h)) (sq_in 12 rfl rfl (by simp) rfl (fun v w h => h)) (fun ρ w hc h h' => ⟨_, by simp [execOp, go_sem, h, h'], rfl⟩)
  · exact q_move hp (free_of rfl) trivial (sq_in 13 rfl rfl (by simp) rfl (fun v w h => h))
  · exact q_move hp (free_of rfl) (gq_some rfl rfl (by simp) rfl (fun v w h => h)) (sq_out rfl rfl (fun _ _ => rfl))
  · exact q_one (F := fun v _ => v = .int .i64 0) hp (free_of rfl) (gq_some rfl rfl (by simp) rfl (fun v w h => h)) (sq_in 15 rfl rfl (by simp) rfl (fun v w h => h)) (fun ρ w hc h => ⟨.bool false, by simp [execOp, go_sem, h, hc], rfl⟩)
  · exact q_two (F := fun v _ => v = .bool false) (G := fun v _ => v = .bool false) hp (free_of rfl) trivial (sq_in 14 rfl rfl (by simp) rfl (fun v w h => h)) (sq_in 16 rfl rfl (by simp) rfl (fun v w h => h)) (fun ρ w hc h h' => ⟨_, by simp [execOp, go_sem, h, h'], rfl⟩)
  · exact q_move hp (free_of rfl) trivial (sq_in 17 rfl rfl (by simp) rfl (fun v w h => h))
  · exact q_move hp (free_of rfl) (gq_some rfl rfl (by simp) rfl (fun v w h => h)) (sq_out rfl rfl (fun _ _ => rfl))
  · exact q_one (F := fun v _ => v = .int .i64 1) hp (free_of rfl) (gq_some rfl rfl (by simp) rfl (fun v w h => h)) (sq_in 19 rfl rfl (by simp) rfl (fun v w h => h)) (fun ρ w hc h => ⟨.bool false, by simp [execOp, go_sem, h, hc], rfl⟩)
  · exact q_two (F := fun v _ => v = .bool false) (G := fun v _ => v = .bool false) hp (free_of rfl) trivial (sq_in 18 rfl rfl (by simp) rfl (fun v w h => h)) (sq_in 20 rfl rfl (by simp) rfl (fun v w h => h)) (fun ρ w hc h h' => ⟨_, by simp [execOp, go_sem, h, h'], rfl⟩)
  · exact q_move hp (free_of rfl) trivial (sq_in 21 rfl rfl (by simp) rfl (fun v w h => h))
  · exact q_move hp (free_of rfl) (gq_some rfl rfl (by simp) rfl (fun v w h => h)) (sq_out rfl rfl (fun _ _ => rfl))
  · exact q_one (F := fun v _ => v = .int .i64 3) hp (free_of rfl) (gq_some rfl rfl (by simp) rfl (fun v w h => h)) (sq_in 23 rfl rfl (by simp) rfl (fun v w h => h)) (fun ρ w hc h => ⟨.bool false, by simp [execOp, go_sem, h, hc], rfl⟩)
  · exact q_two (F := fun v _ => v = .bool false) (G := fun v _ => v = .bool false) hp (free_of rfl) trivial (sq_in 22 rfl rfl (by simp) rfl (fun v w h => h)) (sq_in 24 rfl rfl (by simp) rfl (fun v w h => h)) (fun ρ w hc h h' => ⟨_, by simp [execOp, go_sem, h, h'], rfl⟩)
  · exact q_move hp (free_of rfl) trivial (sq_in 25 rfl rfl (by simp) rfl (fun v w h => h))
  · exact q_move hp (free_of rfl) (gq_some rfl rfl (by simp) rfl (fun v w h => h)) (sq_out rfl rfl (fun _ _ => rfl))
  · exact q_one (F := fun v _ => v = .string (bytesOf (ratText (Rat.divInt (-6) (4))))) hp (free_of rfl) (gq_some rfl rfl (by simp) rfl (fun v w h => h)) (sq_in 27 rfl rfl (by simp) rfl (fun v w h => h)) (fun ρ w hc h => ⟨.bool false, by simp [execOp, go_sem, h, hc, tx.out], rfl⟩)
  · exact q_two (F := fun v _ => v = .bool false) (G := fun v _ => v = .bool false) hp (free_of rfl) trivial (sq_in 26 rfl rfl (by simp) rfl (fun v w h => h)) (sq_in 28 rfl rfl (by simp) rfl (fun v w h => h)) (fun ρ w hc h h' => ⟨_, by simp [execOp, go_sem, h, h'], rfl⟩)
  intro L vs w19 nb hL hC hn E19
  have e0 : vs 0 = .int .i64 0 := hC 0 (by simp)
  have e1 : vs 1 = .bool false := hC 1 (by simp)
  have e2 : vs 2 = .bool false := hC 2 (by simp)
  have e3 : vs 3 = .int .i64 4 := hC 3 (by simp)
  have e4 : vs 4 = .bool false := hC 4 (by simp)
  have e5 : vs 5 = .bool false := hC 5 (by simp)
  have e6 : vs 6 = .bool false := hC 6 (by simp)
  have e7 : vs 7 = .int .i64 0 := hC 7 (by simp)
  have e8 : vs 8 = .bool false := hC 8 (by simp)
  have e9 : vs 9 = .bool false := hC 9 (by simp)
  have e10 : vs 10 = .bool false := hC 10 (by simp)
  have e11 : vs 11 = .int .i64 0 := hC 11 (by simp)
  have e12 : vs 12 = .bool false := hC 12 (by simp)
  have e13 : vs 13 = .bool false := hC 13 (by simp)
  have e14 : vs 14 = .bool false := hC 14 (by simp)
  have e15 : vs 15 = .int .i64 0 := hC 15 (by simp)
  have e16 : vs 16 = .bool false := hC 16 (by simp)
  have e17 : vs 17 = .bool false := hC 17 (by simp)
  have e18 : vs 18 = .bool false := hC 18 (by simp)
  have e19 : vs 19 = .int .i64 1 := hC 19 (by simp)
  have e20 : vs 20 = .bool false := hC 20 (by simp)
  have e21 : vs 21 = .bool false := hC 21 (by simp)
  have e22 : vs 22 = .bool false := hC 22 (by simp)
  have e23 : vs 23 = .int .i64 3 := hC 23 (by simp)
  have e24 : vs 24 = .bool false := hC 24 (by simp)
  have e25 : vs 25 = .bool false := hC 25 (by simp)
  have e26 : vs 26 = .bool false := hC 26 (by simp)
  have e27 : vs 27 = .string (bytesOf (ratText (Rat.divInt (-6) (4)))) := hC 27 (by simp)
  have e28 : vs 28 = .bool false := hC 28 (by simp)
  have e29 : vs 29 = .bool false := hC 29 (by simp)
  have E : Fr w [(b18_4, 4, Fq.pair 0 0), (b17_6, 4, Fq.pair 0 0), (b16_6, 4, Fq.pair ((simF (((Rat.divInt (17) (50)).den : Int) + ((Rat.divInt (9) (25)).den : Int)).toNat (Rat.divInt (17) (50)).num ((Rat.divInt (17) (50)).den : Int) (Rat.divInt (9) (25)).num ((Rat.divInt (9) (25)).den : Int)).1) ((simF (((Rat.divInt (17) (50)).den : Int) + ((Rat.divInt (9) (25)).den : Int)).toNat (Rat.divInt (17) (50)).num ((Rat.divInt (17) (50)).den : Int) (Rat.divInt (9) (25)).num ((Rat.divInt (9) (25)).den : Int)).2)), (b13_6, 4, Fq.pair ((simF (((Rat.divInt (1) (3)).den : Int) + ((Rat.divInt (2) (5)).den : Int)).toNat (Rat.divInt (1) (3)).num ((Rat.divInt (1) (3)).den : Int) (Rat.divInt (2) (5)).num ((Rat.divInt (2) (5)).den : Int)).1) ((simF (((Rat.divInt (1) (3)).den : Int) + ((Rat.divInt (2) (5)).den : Int)).toNat (Rat.divInt (1) (3)).num ((Rat.divInt (1) (3)).den : Int) (Rat.divInt (2) (5)).num ((Rat.divInt (2) (5)).den : Int)).2)), (b10_6, 4, Fq.pair 0 0), (b7_6, 4, Fq.pair (Rat.divInt (-6) (4)).num ((Rat.divInt (-6) (4)).den : Int)), (b3_2, 4, Fq.pair (Rat.divInt (1) (2)).num ((Rat.divInt (1) (2)).den : Int)), (b3_3, 4, Fq.pair (Rat.divInt (1) (3)).num ((Rat.divInt (1) (3)).den : Int))] w19 := E19
  rw [lay_all hL]
  simp only [putAll, dstOf, List.length_cons, List.length_nil, Nat.zero_add, Nat.reduceAdd, List.getElem?_toArray, List.getElem?_cons_zero, List.getElem?_cons_succ, Option.bind_some, Act.put, List.setIfInBounds_toArray, List.set_cons_succ, List.set_cons_zero]
  rw [e0, e1, e2, e3, e4, e5, e6, e7, e8, e9, e10, e11, e12, e13, e14, e15, e16, e17, e18, e19, e20, e21, e22, e23, e24, e25, e26, e27, e28, e29]
  clear e0 e1 e2 e3 e4 e5 e6 e7 e8 e9 e10 e11 e12 e13 e14 e15 e16 e17 e18 e19 e20 e21 e22 e23 e24 e25 e26 e27 e28 e29 hC hn E19 hL vs L nb
  go_upto_region 11 with (fail)
  have B20 : Hid (Rb (Rat.divInt (-3) (2)) 3) := rb_lit (by decide) (by decide) (by decide)
  have B21 : Hid (Rb ((Rat.divInt (1) (2)) + (Rat.divInt (1) (3))) 7) := rb_le (rb_add B1.out B2.out) (by omega)
  have B22 : Hid (Rb (Rat.divInt (5) (6)) 3) := rb_lit (by decide) (by decide) (by decide)
  have B23 : Hid (Rb (Rat.divInt (5) (14)) 3) := rb_lit (by decide) (by decide) (by decide)
  have B24 : Hid (Rb (Rat.divInt (-1) (2)) 3) := rb_lit (by decide) (by decide) (by decide)
  have B25 : Hid (ab ((Rat.divInt (-1) (2)).floor) < pw 4) := Int.lt_of_lt_of_le (rb_floor B24.out) (pw_le (by omega))
  have B26 : Hid (ab ((-1)) < pw 3) := ab_lit (by decide)
  refine region_fr (C := [Fq.pair (Rat.divInt (-6) (4)).num ((Rat.divInt (-6) (4)).den : Int), Fq.pair (Rat.divInt (-3) (2)).num ((Rat.divInt (-3) (2)).den : Int), Fq.is (.bool true), Fq.is (.bool true), Fq.pair (Rat.divInt (1) (2)).num ((Rat.divInt (1) (2)).den : Int), Fq.pair (Rat.divInt (1) (3)).num ((Rat.divInt (1) (3)).den : Int), Fq.pair ((Rat.divInt (1) (2)) + (Rat.divInt (1) (3))).num (((Rat.divInt (1) (2)) + (Rat.divInt (1) (3))).den : Int), Fq.pair (Rat.divInt (5) (6)).num ((Rat.divInt (5) (6)).den : Int), Fq.is (.bool true), Fq.is (.bool true), Fq.is (.bool true), Fq.pair ((simF (((Rat.divInt (1) (3)).den : Int) + ((Rat.divInt (2) (5)).den : Int)).toNat (Rat.divInt (1) (3)).num ((Rat.divInt (1) (3)).den : Int) (Rat.divInt (2) (5)).num ((Rat.divInt (2) (5)).den : Int)).1) ((simF (((Rat.divInt (1) (3)).den : Int) + ((Rat.divInt (2) (5)).den : Int)).toNat (Rat.divInt (1) (3)).num ((Rat.divInt (1) (3)).den : Int) (Rat.divInt (2) (5)).num ((Rat.divInt (2) (5)).den : Int)).2), Fq.pair (Rat.divInt (1) (3)).num ((Rat.divInt (1) (3)).den : Int), Fq.is (.bool true), Fq.is (.bool true), Fq.is (.bool true), Fq.pair ((simF (((Rat.divInt (17) (50)).den : Int) + ((Rat.divInt (9) (25)).den : Int)).toNat (Rat.divInt (17) (50)).num ((Rat.divInt (17) (50)).den : Int) (Rat.divInt (9) (25)).num ((Rat.divInt (9) (25)).den : Int)).1) ((simF (((Rat.divInt (17) (50)).den : Int) + ((Rat.divInt (9) (25)).den : Int)).toNat (Rat.divInt (17) (50)).num ((Rat.divInt (17) (50)).den : Int) (Rat.divInt (9) (25)).num ((Rat.divInt (9) (25)).den : Int)).2), Fq.pair (Rat.divInt (5) (14)).num ((Rat.divInt (5) (14)).den : Int), Fq.is (.bool true), Fq.is (.bool true), Fq.is (.bool true), Fq.pair (Rat.divInt (-1) (2)).num ((Rat.divInt (-1) (2)).den : Int), Fq.num ((Rat.divInt (-1) (2)).floor), Fq.num (-1), Fq.is (.bool true), Fq.is (.bool true), Fq.is (.bool true), Fq.pair (Rat.divInt (1) (2)).num ((Rat.divInt (1) (2)).den : Int), Fq.is (.bool true), Fq.is (.bool true), Fq.is (.bool true), Fq.pair 0 0, Fq.is (.bool false), Fq.is (.bool true), Fq.is (.bool true), Fq.is (.bool true)]) (ks := [none, none, none, none, none, none, none, none]) (new := []) E rfl (by kernel_rfl) rfl rfl (fun hp => ⟨?_, ?_, ?_, ?_, ?_, ?_, ?_, ?_, ?_, ?_, ?_, ?_, ?_, ?_, ?_, ?_, ?_, ?_, ?_, ?_, ?_, ?_, ?_, ?_, ?_, ?_, ?_, ?_, ?_, ?_, ?_, ?_, ?_, ?_, ?_, ?_, trivial⟩) ?_
  · exact q_loadRat hp (free_of rfl) trivial (List.mem_iff_getElem?.2 ⟨5, rfl⟩) (.inl rfl) rfl (sq_out rfl rfl (fun _ _ => rfl)) (fun us w hl h => h)
  · exact q_call2 (F := (Fq.is (.int .i64 (-3))).P) (G := (Fq.is (.int .i64 2)).P) hp (free_of rfl) trivial (enq_S_Of) (sq_const (fun _ => rfl)) (sq_const (fun _ => rfl)) (fun v v' w h h' => (by subst h; subst h'; exact exSOf (n := -3) (d := 2) (by decide) (of_lit (by decide)) (of_lit (by decide))))
  · exact q_call2 (F := (Fq.pair (Rat.divInt (-6) (4)).num ((Rat.divInt (-6) (4)).den : Int)).P) (G := (Fq.pair (Rat.divInt (-3) (2)).num ((Rat.divInt (-3) (2)).den : Int)).P) hp (free_of rfl) trivial (enq_S_Same) (sq_in 0 rfl rfl (by simp) rfl (fun v w h => h)) (sq_in 1 rfl rfl (by simp) rfl (fun v w h => h)) (fun v v' w h h' => exSSameQ h h' (by decide +kernel))
  · exact q_move hp (free_of rfl) trivial (sq_in 2 rfl rfl (by simp) rfl (fun v w h => h))
  · exact q_loadRat hp (free_of rfl) (gq_some rfl rfl (by simp) rfl (fun v w h => h)) (List.mem_iff_getElem?.2 ⟨6, rfl⟩) (.inl rfl) rfl (sq_out rfl rfl (fun _ _ => rfl)) (fun us w hl h => h)
  · exact q_loadRat hp (free_of rfl) (gq_some rfl rfl (by simp) rfl (fun v w h => h)) (List.mem_iff_getElem?.2 ⟨7, rfl⟩) (.inl rfl) rfl (sq_out rfl rfl (fun _ _ => rfl)) (fun us w hl h => h)
  · exact q_call2 (F := (Fq.pair (Rat.divInt (1) (2)).num ((Rat.divInt (1) (2)).den : Int)).P) (G := (Fq.pair (Rat.divInt (1) (3)).num ((Rat.divInt (1) (3)).den : Int)).P) hp (free_of rfl) (gq_some rfl rfl (by simp) rfl (fun v w h => h)) (enq_Q_Add) (sq_in 4 rfl rfl (by simp) rfl (fun v w h => h)) (sq_in 5 rfl rfl (by simp) rfl (fun v w h => h)) (fun v v' w h h' => exAddQ h h' (rb_le B1.out (by omega)) (rb_le B2.out (by omega)))
  · exact q_call2 (F := (Fq.is (.int .i64 5)).P) (G := (Fq.is (.int .i64 6)).P) hp (free_of rfl) (gq_some rfl rfl (by simp) rfl (fun v w h => h)) (enq_S_Of) (sq_const (fun _ => rfl)) (sq_const (fun _ => rfl)) (fun v v' w h h' => (by subst h; subst h'; exact exSOf (n := 5) (d := 6) (by decide) (of_lit (by decide)) (of_lit (by decide))))
  · exact q_call2 (F := (Fq.pair ((Rat.divInt (1) (2)) + (Rat.divInt (1) (3))).num (((Rat.divInt (1) (2)) + (Rat.divInt (1) (3))).den : Int)).P) (G := (Fq.pair (Rat.divInt (5) (6)).num ((Rat.divInt (5) (6)).den : Int)).P) hp (free_of rfl) (gq_some rfl rfl (by simp) rfl (fun v w h => h)) (enq_S_Same) (sq_in 6 rfl rfl (by simp) rfl (fun v w h => h)) (sq_in 7 rfl rfl (by simp) rfl (fun v w h => h)) (fun v v' w h h' => exSSameQ h h' (by decide +kernel))
  · exact q_two (F := fun v _ => v = .bool true) (G := fun v _ => v = .bool true) hp (free_of rfl) trivial (sq_in 3 rfl rfl (by simp) rfl (fun v w h => h)) (sq_in 8 rfl rfl (by simp) rfl (fun v w h => h)) (fun ρ w hc h h' => ⟨_, by simp [execOp, go_sem, h, h'], rfl⟩)
  · exact q_move hp (free_of rfl) trivial (sq_in 9 rfl rfl (by simp) rfl (fun v w h => h))
  · exact q_loadRat hp (free_of rfl) (gq_some rfl rfl (by simp) rfl (fun v w h => h)) (List.mem_iff_getElem?.2 ⟨3, rfl⟩) (.inl rfl) rfl (sq_out rfl rfl (fun _ _ => rfl)) (fun us w hl h => h)
  · exact q_loadRat hp (free_of rfl) (gq_some rfl rfl (by simp) rfl (fun v w h => h)) (List.mem_iff_getElem?.2 ⟨7, rfl⟩) (.inl rfl) rfl (sq_out rfl rfl (fun _ _ => rfl)) (fun us w hl h => h)
  · exact q_call2 (F := (Fq.pair ((simF (((Rat.divInt (1) (3)).den : Int) + ((Rat.divInt (2) (5)).den : Int)).toNat (Rat.divInt (1) (3)).num ((Rat.divInt (1) (3)).den : Int) (Rat.divInt (2) (5)).num ((Rat.divInt (2) (5)).den : Int)).1) ((simF (((Rat.divInt (1) (3)).den : Int) + ((Rat.divInt (2) (5)).den : Int)).toNat (Rat.divInt (1) (3)).num ((Rat.divInt (1) (3)).den : Int) (Rat.divInt (2) (5)).num ((Rat.divInt (2) (5)).den : Int)).2)).P) (G := (Fq.pair (Rat.divInt (1) (3)).num ((Rat.divInt (1) (3)).den : Int)).P) hp (free_of rfl) (gq_some rfl rfl (by simp) rfl (fun v w h => h)) (enq_S_Same) (sq_in 11 rfl rfl (by simp) rfl (fun v w h => h)) (sq_in 12 rfl rfl (by simp) rfl (fun v w h => h)) (fun v v' w h h' => exSSameT h h' (by decide +kernel) (by decide +kernel))
  · exact q_two (F := fun v _ => v = .bool true) (G := fun v _ => v = .bool true) hp (free_of rfl) trivial (sq_in 10 rfl rfl (by simp) rfl (fun v w h => h)) (sq_in 13 rfl rfl (by simp) rfl (fun v w h => h)) (fun ρ w hc h h' => ⟨_, by simp [execOp, go_sem, h, h'], rfl⟩)
  · exact q_move hp (free_of rfl) trivial (sq_in 14 rfl rfl (by simp) rfl (fun v w h => h))
  · exact q_loadRat hp (free_of rfl) (gq_some rfl rfl (by simp) rfl (fun v w h => h)) (List.mem_iff_getElem?.2 ⟨2, rfl⟩) (.inl rfl) rfl (sq_out rfl rfl (fun _ _ => rfl)) (fun us w hl h => h)
  · exact q_call2 (F := (Fq.is (.int .i64 5)).P) (G := (Fq.is (.int .i64 14)).P) hp (free_of rfl) (gq_some rfl rfl (by simp) rfl (fun v w h => h)) (enq_S_Of) (sq_const (fun _ => rfl)) (sq_const (fun _ => rfl)) (fun v v' w h h' => (by subst h; subst h'; exact exSOf (n := 5) (d := 14) (by decide) (of_lit (by decide)) (of_lit (by decide))))
  · exact q_call2 (F := (Fq.pair ((simF (((Rat.divInt (17) (50)).den : Int) + ((Rat.divInt (9) (25)).den : Int)).toNat (Rat.divInt (17) (50)).num ((Rat.divInt (17) (50)).den : Int) (Rat.divInt (9) (25)).num ((Rat.divInt (9) (25)).den : Int)).1) ((simF (((Rat.divInt (17) (50)).den : Int) + ((Rat.divInt (9) (25)).den : Int)).toNat (Rat.divInt (17) (50)).num ((Rat.divInt (17) (50)).den : Int) (Rat.divInt (9) (25)).num ((Rat.divInt (9) (25)).den : Int)).2)).P) (G := (Fq.pair (Rat.divInt (5) (14)).num ((Rat.divInt (5) (14)).den : Int)).P) hp (free_of rfl) (gq_some rfl rfl (by simp) rfl (fun v w h => h)) (enq_S_Same) (sq_in 16 rfl rfl (by simp) rfl (fun v w h => h)) (sq_in 17 rfl rfl (by simp) rfl (fun v w h => h)) (fun v v' w h h' => exSSameT h h' (by decide +kernel) (by decide +kernel))
  · exact q_two (F := fun v _ => v = .bool true) (G := fun v _ => v = .bool true) hp (free_of rfl) trivial (sq_in 15 rfl rfl (by simp) rfl (fun v w h => h)) (sq_in 18 rfl rfl (by simp) rfl (fun v w h => h)) (fun ρ w hc h h' => ⟨_, by simp [execOp, go_sem, h, h'], rfl⟩)
  · exact q_move hp (free_of rfl) trivial (sq_in 19 rfl rfl (by simp) rfl (fun v w h => h))
  · exact q_call2 (F := (Fq.is (.int .i64 (-1))).P) (G := (Fq.is (.int .i64 2)).P) hp (free_of rfl) (gq_some rfl rfl (by simp) rfl (fun v w h => h)) (enq_S_Of) (sq_const (fun _ => rfl)) (sq_const (fun _ => rfl)) (fun v v' w h h' => (by subst h; subst h'; exact exSOf (n := -1) (d := 2) (by decide) (of_lit (by decide)) (of_lit (by decide))))
  · exact q_call1 (F := (Fq.pair (Rat.divInt (-1) (2)).num ((Rat.divInt (-1) (2)).den : Int)).P) hp (free_of rfl) (gq_some rfl rfl (by simp) rfl (fun v w h => h)) (enq_Q_Floor) (sq_in 21 rfl rfl (by simp) rfl (fun v w h => h)) (fun v w h => exFloorQ h (rb_le B24.out (by omega)))
  · exact q_call1 (F := (Fq.is (.int .i64 (-1))).P) hp (free_of rfl) (gq_some rfl rfl (by simp) rfl (fun v w h => h)) (enq_R_Of) (sq_const (fun _ => rfl)) (fun v w h => (by subst h; exact rOfK w (-1) (by omega) (by omega)))
  · exact q_call2 (F := (Fq.num ((Rat.divInt (-1) (2)).floor)).P) (G := (Fq.num (-1)).P) hp (free_of rfl) (gq_some rfl rfl (by simp) rfl (fun v w h => h)) (enq_R_Same) (sq_in 22 rfl rfl (by simp) rfl (fun v w h => h)) (sq_in 23 rfl rfl (by simp) rfl (fun v w h => h)) (fun v v' w h h' => exRSameB h h' (by decide +kernel))
  · exact q_two (F := fun v _ => v = .bool true) (G := fun v _ => v = .bool true) hp (free_of rfl) trivial (sq_in 20 rfl rfl (by simp) rfl (fun v w h => h)) (sq_in 24 rfl rfl (by simp) rfl (fun v w h => h)) (fun ρ w hc h h' => ⟨_, by simp [execOp, go_sem, h, h'], rfl⟩)
  · exact q_move hp (free_of rfl) trivial (sq_in 25 rfl rfl (by simp) rfl (fun v w h => h))
  · exact q_loadRat hp (free_of rfl) (gq_some rfl rfl (by simp) rfl (fun v w h => h)) (List.mem_iff_getElem?.2 ⟨6, rfl⟩) (.inl rfl) rfl (sq_out rfl rfl (fun _ _ => rfl)) (fun us w hl h => h)
  · exact q_call1 (F := (Fq.pair (Rat.divInt (1) (2)).num ((Rat.divInt (1) (2)).den : Int)).P) hp (free_of rfl) (gq_some rfl rfl (by simp) rfl (fun v w h => h)) (enq_Q_Valid) (sq_in 27 rfl rfl (by simp) rfl (fun v w h => h)) (fun v w h => exValidQ h (rb_le B1.out (by omega)))
  · exact q_two (F := fun v _ => v = .bool true) (G := fun v _ => v = .bool true) hp (free_of rfl) trivial (sq_in 26 rfl rfl (by simp) rfl (fun v w h => h)) (sq_in 28 rfl rfl (by simp) rfl (fun v w h => h)) (fun ρ w hc h h' => ⟨_, by simp [execOp, go_sem, h, h'], rfl⟩)
  · exact q_move hp (free_of rfl) trivial (sq_in 29 rfl rfl (by simp) rfl (fun v w h => h))
  · exact q_zeroRat hp (free_of rfl) (gq_some rfl rfl (by simp) rfl (fun v w h => h)) (fun v w h => h)
  · exact q_call1 (F := (Fq.pair 0 0).P) hp (free_of rfl) (gq_some rfl rfl (by simp) rfl (fun v w h => h)) (enq_Q_Valid) (sq_in 31 rfl rfl (by simp) rfl (fun v w h => h)) (fun v w h => exValidN h (by decide))
  · exact q_one (F := fun v _ => v = .bool false) hp (free_of rfl) (gq_some rfl rfl (by simp) rfl (fun v w h => h)) (sq_in 32 rfl rfl (by simp) rfl (fun v w h => h)) (fun ρ w _ h => ⟨.bool true, by simp [execOp, go_sem, h], rfl⟩)
  · exact q_two (F := fun v _ => v = .bool true) (G := fun v _ => v = .bool true) hp (free_of rfl) trivial (sq_in 30 rfl rfl (by simp) rfl (fun v w h => h)) (sq_in 33 rfl rfl (by simp) rfl (fun v w h => h)) (fun ρ w hc h h' => ⟨_, by simp [execOp, go_sem, h, h'], rfl⟩)
  · exact q_assign hp (free_of rfl) trivial (sq_in 34 rfl rfl (by simp) rfl (fun v w h => h))
  intro L vs w27 nb hL hC hn E27
  have e2 : vs 2 = .bool true := hC 2 (by simp)
  have e3 : vs 3 = .bool true := hC 3 (by simp)
  have e8 : vs 8 = .bool true := hC 8 (by simp)
  have e9 : vs 9 = .bool true := hC 9 (by simp)
  have e10 : vs 10 = .bool true := hC 10 (by simp)
  have e13 : vs 13 = .bool true := hC 13 (by simp)
  have e14 : vs 14 = .bool true := hC 14 (by simp)
  have e15 : vs 15 = .bool true := hC 15 (by simp)
  have e18 : vs 18 = .bool true := hC 18 (by simp)
  have e19 : vs 19 = .bool true := hC 19 (by simp)
  have e20 : vs 20 = .bool true := hC 20 (by simp)
  have e24 : vs 24 = .bool true := hC 24 (by simp)
  have e25 : vs 25 = .bool true := hC 25 (by simp)
  have e26 : vs 26 = .bool true := hC 26 (by simp)
  have e28 : vs 28 = .bool true := hC 28 (by simp)
  have e29 : vs 29 = .bool true := hC 29 (by simp)
  have e30 : vs 30 = .bool true := hC 30 (by simp)
  have e32 : vs 32 = .bool false := hC 32 (by simp)
  have e33 : vs 33 = .bool true := hC 33 (by simp)
  have e34 : vs 34 = .bool true := hC 34 (by simp)
  have e35 : vs 35 = .bool true := hC 35 (by simp)
  have E : Fr w [(b18_4, 4, Fq.pair 0 0), (b17_6, 4, Fq.pair 0 0), (b16_6, 4, Fq.pair ((simF (((Rat.divInt (17) (50)).den : Int) + ((Rat.divInt (9) (25)).den : Int)).toNat (Rat.divInt (17) (50)).num ((Rat.divInt (17) (50)).den : Int) (Rat.divInt (9) (25)).num ((Rat.divInt (9) (25)).den : Int)).1) ((simF (((Rat.divInt (17) (50)).den : Int) + ((Rat.divInt (9) (25)).den : Int)).toNat (Rat.divInt (17) (50)).num ((Rat.divInt (17) (50)).den : Int) (Rat.divInt (9) (25)).num ((Rat.divInt (9) (25)).den : Int)).2)), (b13_6, 4, Fq.pair ((simF (((Rat.divInt (1) (3)).den : Int) + ((Rat.divInt (2) (5)).den : Int)).toNat (Rat.divInt (1) (3)).num ((Rat.divInt (1) (3)).den : Int) (Rat.divInt (2) (5)).num ((Rat.divInt (2) (5)).den : Int)).1) ((simF (((Rat.divInt (1) (3)).den : Int) + ((Rat.divInt (2) (5)).den : Int)).toNat (Rat.divInt (1) (3)).num ((Rat.divInt (1) (3)).den : Int) (Rat.divInt (2) (5)).num ((Rat.divInt (2) (5)).den : Int)).2)), (b10_6, 4, Fq.pair 0 0), (b7_6, 4, Fq.pair (Rat.divInt (-6) (4)).num ((Rat.divInt (-6) (4)).den : Int)), (b3_2, 4, Fq.pair (Rat.divInt (1) (2)).num ((Rat.divInt (1) (2)).den : Int)), (b3_3, 4, Fq.pair (Rat.divInt (1) (3)).num ((Rat.divInt (1) (3)).den : Int))] w27 := E27
  rw [lay_all hL]
  simp only [putAll, dstOf, List.length_cons, List.length_nil, Nat.zero_add, Nat.reduceAdd, List.getElem?_toArray, List.getElem?_cons_zero, List.getElem?_cons_succ, Option.bind_some, Act.put, List.setIfInBounds_toArray, List.set_cons_succ, List.set_cons_zero]
  rw [e2, e3, e8, e9, e10, e13, e14, e15, e18, e19, e20, e24, e25, e26, e28, e29, e30, e32, e33, e34, e35]
  generalize vs 0 = u27_0
  generalize vs 1 = u27_1
  generalize vs 4 = u27_4
  generalize vs 5 = u27_5
  generalize vs 6 = u27_6
  generalize vs 7 = u27_7
  generalize vs 11 = u27_11
  generalize vs 12 = u27_12
  generalize vs 16 = u27_16
  generalize vs 17 = u27_17
  generalize vs 21 = u27_21
  generalize vs 22 = u27_22
  generalize vs 23 = u27_23
  generalize vs 27 = u27_27
  generalize vs 31 = u27_31
  clear e2 e3 e8 e9 e10 e13 e14 e15 e18 e19 e20 e24 e25 e26 e28 e29 e30 e32 e33 e34 e35 hC hn E27 hL vs L nb
  clear tx
  clear B1 B2 B4 B5 B6 B8 B9 B12 B14 B15 B20 B21 B22 B23 B24 B25 B26
  go_wp2
  refine bodyPost_ret (v := .bool true) ?_ rfl (by first | exact ⟨_, rfl, E.below, rfl⟩ | exact ⟨_, rfl, E.below⟩ | exact ⟨rfl, E.below⟩)
  simp [results, Tryz.results7, go_sem]

end Go.Proofs.YtoimphnhmpmipaaGreat

/- Walk of the law on the field of fractions. -/
namespace Go.Proofs.YtoimphnhmpmipaaGreat
open Go Go.RowKit

theorem enq_K_examples (args : Array Value) (w : World) : (callFunc 7 args).run Tryz.prog w = .ok (.enter 7 args) w := enter_of Tryz.func7 (by kernel_rfl) rfl args w

section
variable {os : List Oper} {Q : Exit → Act → World → Prop} {a : Act} {p : Pq} {B B0 : Nat} {w0 : World}
variable {i s : Nat} {d : Option Tmp} {ty : TypeId} {ps : String} {af : Array Edge} {gd : Option (Nat × Bool)}
end

end Go.Proofs.YtoimphnhmpmipaaGreat

/- Steps of a region over slices of fractions. -/
namespace Go.Proofs.YtoimphnhmpmipaaGreat
open Go Go.RowKit

/-- Fractions, one behind the other. -/
def Rats (w : World) (us : List Value) (qs : List (Int × Int)) : Prop :=
  us.length = qs.length * 4 ∧ ∀ i n d, qs[i]? = some (n, d) → Pair w (.agg #[us.getD (i * 4) undef, us.getD (i * 4 + 1) undef, us.getD (i * 4 + 2) undef, us.getD (i * 4 + 3) undef]) n d
def Fq.rats (qs : List (Int × Int)) : Fq := ⟨fun v w => ∃ us : List Value, v = .agg us.toArray ∧ Rats w us qs,
  fun ⟨us, e, hl, h⟩ hb => ⟨us, e, hl, fun i n d hi => (h i n d hi).mono hb⟩, fun ⟨us, e, hl, h⟩ ha ht hl2 => ⟨us, e, hl, fun i n d hi => (Fq.pair n d).put (h i n d hi) ha ht hl2⟩⟩

section
variable {os : List Oper} {Q : Exit → Act → World → Prop} {a : Act} {p : Pq} {B B0 : Nat} {w0 : World}
variable {i s : Nat} {d : Option Tmp} {ty : TypeId} {ps : String} {af : Array Edge} {gd : Option (Nat × Bool)}

theorem q_lenR {x : Operand} {ad : Option Addr} {k c : Nat} (hp : p.Ok B B0) (hF : p.Free i) (hg : GdQ os a p B B0 w0 af gd) (hx : SrcQ os a p B B0 w0 af x fun v _ => v = .slice ad k c) (hC : ∀ w, (p.c i).P (.int .i64 k) w) :
    StepQ os Q a p B B0 w0 i { dst := d, op := .call { callee := .builtin .len, args := #[x], argTypes := #[74] }, type := ty, pos := ps, after := af, guard := gd } :=
  q_one hp hF hg hx fun ρ w _ h => ⟨.int .i64 k, by simp [go_sem, h], hC w⟩

/-- An element's address. -/
theorem q_index {b l k : Nat} {x y : Operand} (hp : p.Ok B B0) (hF : p.Free i) (hg : GdQ os a p B B0 w0 af gd) (hx : SrcQ os a p B B0 w0 af x fun v _ => v = .slice (some ⟨b, 0, none⟩) l l) (hy : SrcQ os a p B B0 w0 af y fun v _ => v = .int .i64 k) (hk : k < l)
    (hC : ∀ w, (p.c i).P (.pointer (some ⟨b, k * 4, none⟩)) w) :
    StepQ os Q a p B B0 w0 i { dst := d, op := .indexAddr 74 x y, type := ty, pos := ps, after := af, guard := gd } :=
  q_two hp hF hg hx hy fun ρ w _ h h' => ⟨_, by
    have h0 : (k : Int) < (l : Int) := by omega
    have h1 : (0 : Int) ≤ (k : Int) := by omega
    simp [execOp, go_sem, h, h', h0, h1], hC w⟩

/-- A fraction, loaded out of a part of a box. -/
theorem q_loadRatAt {o : Ob} {off : Nat} {x : Operand} (hp : p.Ok B B0) (hF : p.Free i) (hg : GdQ os a p B B0 w0 af gd) (ho : o ∈ p.old) (hk : o.F1 = o.F0 ∨ leadsB os 9 o.k i = true) (hoff : off + 4 ≤ o.m)
    (hx : SrcQ os a p B B0 w0 af x fun u _ => u = .pointer (some ⟨o.b, off, none⟩)) (hC : ∀ (us : List Value) (w : World), us.length = o.m → o.F0.P (.agg us.toArray) w → (p.c i).P (.agg #[us.getD off undef, us.getD (off + 1) undef, us.getD (off + 2) undef, us.getD (off + 3) undef]) w) :
    StepQ os Q a p B B0 w0 i { dst := d, op := .load 31 x, type := ty, pos := ps, after := af, guard := gd } := by
  refine stq_val hp hF hg fun L vs w hG hL hc hd => ?_
  obtain ⟨us, hl, h0, hat, ht, hP⟩ := box_now ho hk hG hL hc
  have e := hx L vs w hG hd
  have c0 := (hat off (by omega)).1
  have c1 := (hat (off + 1) (by omega)).1
  have c2 := (hat (off + 2) (by omega)).1
  have c3 := (hat (off + 3) (by omega)).1
  refine ⟨_, ?_, hC us w hl hP⟩
  generalize (lay os.toArray L vs os.toArray.size a).eval = ρ at e
  generalize us.getD off undef = u0 at c0 ⊢
  generalize us.getD (off + 1) undef = u1 at c1 ⊢
  generalize us.getD (off + 2) undef = u2 at c2 ⊢
  generalize us.getD (off + 3) undef = u3 at c3 ⊢
  simp [execOp, go_sem, e, c0, c1, c2, c3]

theorem ld_rats {qs : List (Int × Int)} {k : Nat} {n d : Int} {us : List Value} {w : World} (hk : qs[k]? = some (n, d)) (h : (Fq.rats qs).P (.agg us.toArray) w) : Pair w (.agg #[us.getD (k * 4) undef, us.getD (k * 4 + 1) undef, us.getD (k * 4 + 2) undef, us.getD (k * 4 + 3) undef]) n d := by
  obtain ⟨us', e, _, h⟩ := h
  injection e with e
  have e2 := congrArg Array.toList e
  simp at e2
  subst e2
  exact h k n d hk

/-- A value is passed on inside the region. -/
theorem stepS_assign {same : List (Nat × Nat)} {j : Nat} (hp : p.Ok B B0) (hF : p.Free i) (ha : apartB (os.map (·.dst)) = true) (hj : (os.map (·.dst))[j]? = some (some s)) (hs : s < a.tmps.size) (hdep : depA af j = true) (hC : ∀ v w, (p.c i).P v w)
    (hsm : same.all (fun x => x.1 != i || x.2 == j) = true) (hne : j ≠ i) : StepS os Q a p B B0 w0 same i { dst := d, op := .assign (.tmp s), type := ty, pos := ps, after := af, guard := none } := by
  intro hio L vs w hG hL hd hc
  have hLj := depA_of hdep hd
  have he := lay_in (vs := vs) ha hLj hj hs
  refine wpOp_step hio fun K' hK => ?_
  have hwn : Region.wanted ({ dst := d, op := .assign (.tmp s), type := ty, pos := ps, after := af, guard := none } : Oper) (yielded os.toArray (lay os.toArray L vs os.toArray.size a).tmps) = true := rfl
  rw [if_pos hwn]
  have e : (execOp (lay os.toArray L vs os.toArray.size a).eval ({ dst := d, op := .assign (.tmp s), type := ty, pos := ps, after := af, guard := none } : Oper)).run Tryz.prog w = .ok (.value (vs j)) w := by
    generalize (lay os.toArray L vs os.toArray.size a).eval = ρ at he
    simp [execOp, go_sem, he]
  unfold Oper.wp
  rw [e]
  refine hK _ _ ⟨_, rfl, hG.1.plain hp hF (Below.refl _ _) (hC _ _), fun x hx h1 => ?_⟩
  by_cases hx1 : x.1 = i
  · have h2 : x.2 = j := by
      have := List.all_eq_true.1 hsm x hx
      simpa [hx1] using this
    rw [hx1, h2, up_same, up_ne _ _ hne, up_ne _ _ hne]
    exact ⟨hLj, rfl⟩
  · rw [up_ne _ _ hx1] at h1
    obtain ⟨h2, h3⟩ := hG.2 x hx h1
    have hx2 : x.2 ≠ i := fun e => by rw [e, hL] at h2; cases h2
    rw [up_ne _ _ hx1, up_ne _ _ hx2, up_ne _ _ hx2]
    exact ⟨h2, h3⟩

/-- A slice is built of four fractions. -/
theorem q_buildRats4 {n0 : Nb} {x y z t : Operand} {n1 d1 n2 d2 n3 d3 n4 d4 : Int} (hp : p.Ok B B0) (hi : n0 ∈ p.new) (hii : n0.i = i) (hki : n0.k = i) (hsl : n0.s = some 4) (hm : n0.m = 16) (hF1 : n0.F1 = Fq.rats [(n1, d1), (n2, d2), (n3, d3), (n4, d4)])
    (hx : SrcQ os a p B B0 w0 af x fun v w => Pair w v n1 d1) (hy : SrcQ os a p B B0 w0 af y fun v w => Pair w v n2 d2) (hz : SrcQ os a p B B0 w0 af z fun v w => Pair w v n3 d3) (ht : SrcQ os a p B B0 w0 af t fun v w => Pair w v n4 d4)
    (hC : ∀ v w', (p.c i).P v w') (h1 : ∀ o ∈ p.old, o.k ≠ i) (h2 : ∀ n ∈ p.new, n.i ≠ i → n.k ≠ i) :
    StepQ os Q a p B B0 w0 i { dst := d, op := .buildSlice 74 4 #[(0, x), (1, y), (2, z), (3, t)], type := ty, pos := ps, after := af, guard := none } := by
  intro hio L vs w hG hL hd hc
  have p1 := hx L vs w hG hd
  have p2 := hy L vs w hG hd
  have p3 := hz L vs w hG hd
  have p4 := ht L vs w hG hd
  obtain ⟨m1, a1, k1, c1, m1', a1', k1', c1', e1, _⟩ := ratV_pair p1
  obtain ⟨m2, a2, k2, c2, m2', a2', k2', c2', e2, _⟩ := ratV_pair p2
  obtain ⟨m3, a3, k3, c3, m3', a3', k3', c3', e3, _⟩ := ratV_pair p3
  obtain ⟨m4, a4, k4, c4, m4', a4', k4', c4', e4, _⟩ := ratV_pair p4
  rw [e1] at p1
  rw [e2] at p2
  rw [e3] at p3
  rw [e4] at p4
  obtain ⟨us, hus⟩ : ∃ us : List Value, us = [.bool m1, .slice a1 k1 c1, .bool m1', .slice a1' k1' c1', .bool m2, .slice a2 k2 c2, .bool m2', .slice a2' k2' c2', .bool m3, .slice a3 k3 c3, .bool m3', .slice a3' k3' c3', .bool m4, .slice a4 k4 c4, .bool m4', .slice a4' k4' c4'] := ⟨_, rfl⟩
  have hwn : Region.wanted ({ dst := d, op := .buildSlice 74 4 #[(0, x), (1, y), (2, z), (3, t)], type := ty, pos := ps, after := af, guard := none } : Oper) (yielded os.toArray (lay os.toArray L vs os.toArray.size a).tmps) = true := rfl
  refine wpOp_step hio fun K' hK => ?_
  rw [if_pos hwn]
  have e : (execOp (lay os.toArray L vs os.toArray.size a).eval ({ dst := d, op := .buildSlice 74 4 #[(0, x), (1, y), (2, z), (3, t)], type := ty, pos := ps, after := af, guard := none } : Oper)).run Tryz.prog w = .ok (.value (.slice (some ⟨w.heap.size, 0, none⟩) 4 4)) (w.alloc (.cells us.toArray 31)) := by
    generalize (lay os.toArray L vs os.toArray.size a).eval = ρ at e1 e2 e3 e4
    simp [execOp, go_sem, e1, e2, e3, e4, hus]
  unfold Oper.wp
  rw [e]
  have hb := alloc_below w (.cells us.toArray 31)
  subst hii
  have hnow : n0.now (up L n0.i true) = n0.F1 := by
    unfold Nb.now
    rw [hsl]
    rfl
  have hlay := hG.lay hp hi (F := n0.F1) hnow hC h1 h2 31 (us := us) (by rw [hus, hm]; rfl) (by omega) (by
      rw [hus]
      intro u hu q e
      simp at hu
      rcases hu with rfl | rfl | rfl | rfl | rfl | rfl | rfl | rfl | rfl | rfl | rfl | rfl | rfl | rfl | rfl | rfl <;> cases e) (by
      rw [hF1]
      refine ⟨us, rfl, by rw [hus]; rfl, fun k n d hk => ?_⟩
      match k, hk with
      | 0, hk => injection hk with hk; injection hk with q1 q2; subst q1; subst q2; have hm := p1.mono hb; rw [hus] at hm; rw [hus]; exact hm
      | 1, hk => injection hk with hk; injection hk with q1 q2; subst q1; subst q2; have hm := p2.mono hb; rw [hus] at hm; rw [hus]; exact hm
      | 2, hk => injection hk with hk; injection hk with q1 q2; subst q1; subst q2; have hm := p3.mono hb; rw [hus] at hm; rw [hus]; exact hm
      | 3, hk => injection hk with hk; injection hk with q1 q2; subst q1; subst q2; have hm := p4.mono hb; rw [hus] at hm; rw [hus]; exact hm
      | k + 4, hk => simp at hk)
  have hptr : n0.ptr w.heap.size = .slice (some ⟨w.heap.size, 0, none⟩) 4 4 := by unfold Nb.ptr; rw [hsl]
  rw [hptr] at hlay
  exact hK _ _ ⟨_, rfl, hlay⟩

end

theorem newks_ne {C : List Fq} {bs : List (Nat × Nat × Fq)} {ks : List (Option (Nat × Fq))} {new : List Nb} {len i : Nat} (h : new.all (fun n => n.i == i || n.k != i) = true) : ∀ n ∈ (plq C bs ks new len).new, n.i ≠ i → n.k ≠ i := fun n hn hi e => by
  have := List.all_eq_true.1 h n hn
  simp [e, hi] at this

end Go.Proofs.YtoimphnhmpmipaaGreat

/- Walks: the reference's arithmetic of fractions. -/
namespace Go.Proofs.YtoimphnhmpmipaaGreat
open Go Go.RowKit

theorem exRCmpN {w : World} {v v' : Value} {z z' : Int} (h : Num w v z) (h' : Num w v' z') : Calls Tryz.prog 44 #[v, v'] w fun e w' => ∃ v', e = .returned v' ∧ Below w.heap.size w w' ∧ v' = .int .i64 (cmpI z z') :=
  (RCmpV h h').mono fun _ _ hh => ⟨_, hh.1, hh.2, rfl⟩

set_option maxRecDepth 100000 in
set_option maxHeartbeats 4000000 in
theorem exSAddQ {w : World} {v v' : Value} {a b : Rat} (h : Pair w v a.num a.den) (h' : Pair w v' b.num b.den) (ha : Rb a 300) (hb : Rb b 300) :
    Calls Tryz.prog 15 #[v, v'] w fun e w' => ∃ v', e = .returned v' ∧ Below w.heap.size w w' ∧ Pair w' v' (a + b).num ((a + b).den : Int) := by
  replace ha := hidd ha
  replace hb := hidd hb
  obtain ⟨n0, ao0, k0, c0, n0', ao0', k0', c0', rfl, _⟩ := ratV_pair h
  obtain ⟨n1, ao1, k1, c1, n1', ao1', k1', c1', rfl, _⟩ := ratV_pair h'
  obtain ⟨w1, b1, hw1, hb1, hs1, E⟩ := fr_start w (F := Fq.pair a.num (a.den : Int)) (us := [.bool n0, .slice ao0 k0 c0, .bool n0', .slice ao0' k0' c0']) 31 rfl (by simp) (tame_rat _ _ _ _ _ _ _ _) h
  obtain ⟨w2, b2, hw2, hb2, hs2, E⟩ := fr_more E hs1 (F := Fq.pair b.num (b.den : Int)) (us := [.bool n1, .slice ao1 k1 c1, .bool n1', .slice ao1' k1' c1']) 31 rfl (by simp) (tame_rat _ _ _ _ _ _ _ _) (h'.mono E.below)
  obtain ⟨w3, b3, hw3, hb3, hs3, E⟩ := fr_more E hs2 (F := Fq.pair 0 0) (us := [.bool false, .slice none 0 0, .bool false, .slice none 0 0]) 31 rfl (by simp) (tame_rat _ _ _ _ _ _ _ _) (Pair.zero _)
  go_enter Tryz.func15, Tryz.ntmps15
  go_upto_region 1 with (fail)
  rw [← hw1]
  rw [← hw2]
  rw [← hw3]
  rw [← hb3]
  rw [← hb2]
  rw [← hb1]
  clear hw1 hw2 hw3 hb1 hb2 hb3 hs3 hs1 hs2
  have B4 : Hid (ab ((a.num * (b.den : Int))) < pw 600) := ab_mulM ha.out.1 hb.out.2 (by omega)
  have B5 : Hid (ab ((b.num * (a.den : Int))) < pw 600) := ab_mulM hb.out.1 ha.out.2 (by omega)
  have B6 : Hid (ab (((a.num * (b.den : Int)) + (b.num * (a.den : Int)))) < pw 601) := ab_addB B4.out B5.out (by omega) (by omega)
  have B7 : Hid (ab (((a.den : Int) * (b.den : Int))) < pw 600) := ab_mulM ha.out.2 hb.out.2 (by omega)
  have B8 : Hid (Rb (Rat.divInt ((a.num * (b.den : Int)) + (b.num * (a.den : Int))) ((a.den : Int) * (b.den : Int))) 601) := rb_divInt (den_mul_ne a b) (Int.lt_of_lt_of_le B6.out (pw_le (by omega))) (Int.lt_of_lt_of_le B7.out (pw_le (by omega)))
  refine region_fr (C := [Fq.is (.pointer (some ⟨b1, 0, none⟩)), Fq.num a.num, Fq.is (.pointer (some ⟨b2, 2, none⟩)), Fq.num (b.den : Int), Fq.num (a.num * (b.den : Int)), Fq.is (.pointer (some ⟨b2, 0, none⟩)), Fq.num b.num, Fq.is (.pointer (some ⟨b1, 2, none⟩)), Fq.num (a.den : Int), Fq.num (b.num * (a.den : Int)), Fq.num ((a.num * (b.den : Int)) + (b.num * (a.den : Int))), Fq.is (.pointer (some ⟨b1, 2, none⟩)), Fq.num (a.den : Int), Fq.is (.pointer (some ⟨b2, 2, none⟩)), Fq.num (b.den : Int), Fq.num ((a.den : Int) * (b.den : Int)), Fq.pair (Rat.divInt ((a.num * (b.den : Int)) + (b.num * (a.den : Int))) ((a.den : Int) * (b.den : Int))).num ((Rat.divInt ((a.num * (b.den : Int)) + (b.num * (a.den : Int))) ((a.den : Int) * (b.den : Int))).den : Int), Fq.any]) (ks := [some (17, Fq.pair (Rat.divInt ((a.num * (b.den : Int)) + (b.num * (a.den : Int))) ((a.den : Int) * (b.den : Int))).num ((Rat.divInt ((a.num * (b.den : Int)) + (b.num * (a.den : Int))) ((a.den : Int) * (b.den : Int))).den : Int)), none, none]) (new := []) E rfl (by kernel_rfl) rfl rfl (fun hp => ⟨?_, ?_, ?_, ?_, ?_, ?_, ?_, ?_, ?_, ?_, ?_, ?_, ?_, ?_, ?_, ?_, ?_, ?_, trivial⟩) ?_
  · exact q_addr (b := b1) (off := 0) (off' := 0) hp (free_of rfl) trivial (sq_out rfl rfl (fun _ _ => rfl)) (fun ρ w h => by simp [execOp, go_sem, h]) (fun _ => rfl)
  · exact q_loadInt (off := 0) hp (free_of rfl) trivial (List.mem_iff_getElem?.2 ⟨2, rfl⟩) (.inl rfl) (Nat.le_of_ble_eq_true rfl) (sq_in 0 rfl rfl (by simp) rfl (fun v w h => h)) (fun us w hl h => ld_pn hl h)
  · exact q_addr (b := b2) (off := 0) (off' := 2) hp (free_of rfl) trivial (sq_out rfl rfl (fun _ _ => rfl)) (fun ρ w h => by simp [execOp, go_sem, h]) (fun _ => rfl)
  · exact q_loadInt (off := 2) hp (free_of rfl) trivial (List.mem_iff_getElem?.2 ⟨1, rfl⟩) (.inl rfl) (Nat.le_of_ble_eq_true rfl) (sq_in 2 rfl rfl (by simp) rfl (fun v w h => h)) (fun us w hl h => ld_pd hl h)
  · exact q_call2 (F := (Fq.num a.num).P) (G := (Fq.num (b.den : Int)).P) hp (free_of rfl) trivial (enq_R_Mul) (sq_in 1 rfl rfl (by simp) rfl (fun v w h => h)) (sq_in 3 rfl rfl (by simp) rfl (fun v w h => h)) (fun v v' w h h' => exK (RMulV h h') B4.out (by omega))
  · exact q_addr (b := b2) (off := 0) (off' := 0) hp (free_of rfl) trivial (sq_out rfl rfl (fun _ _ => rfl)) (fun ρ w h => by simp [execOp, go_sem, h]) (fun _ => rfl)
  · exact q_loadInt (off := 0) hp (free_of rfl) trivial (List.mem_iff_getElem?.2 ⟨1, rfl⟩) (.inl rfl) (Nat.le_of_ble_eq_true rfl) (sq_in 5 rfl rfl (by simp) rfl (fun v w h => h)) (fun us w hl h => ld_pn hl h)
  · exact q_addr (b := b1) (off := 0) (off' := 2) hp (free_of rfl) trivial (sq_out rfl rfl (fun _ _ => rfl)) (fun ρ w h => by simp [execOp, go_sem, h]) (fun _ => rfl)
  · exact q_loadInt (off := 2) hp (free_of rfl) trivial (List.mem_iff_getElem?.2 ⟨2, rfl⟩) (.inl rfl) (Nat.le_of_ble_eq_true rfl) (sq_in 7 rfl rfl (by simp) rfl (fun v w h => h)) (fun us w hl h => ld_pd hl h)
  · exact q_call2 (F := (Fq.num b.num).P) (G := (Fq.num (a.den : Int)).P) hp (free_of rfl) trivial (enq_R_Mul) (sq_in 6 rfl rfl (by simp) rfl (fun v w h => h)) (sq_in 8 rfl rfl (by simp) rfl (fun v w h => h)) (fun v v' w h h' => exK (RMulV h h') B5.out (by omega))
  · exact q_call2 (F := (Fq.num (a.num * (b.den : Int))).P) (G := (Fq.num (b.num * (a.den : Int))).P) hp (free_of rfl) trivial (enq_R_Add) (sq_in 4 rfl rfl (by simp) rfl (fun v w h => h)) (sq_in 9 rfl rfl (by simp) rfl (fun v w h => h)) (fun v v' w h h' => exK (RAddV h h') B6.out (by omega))
  · exact q_addr (b := b1) (off := 0) (off' := 2) hp (free_of rfl) trivial (sq_out rfl rfl (fun _ _ => rfl)) (fun ρ w h => by simp [execOp, go_sem, h]) (fun _ => rfl)
  · exact q_loadInt (off := 2) hp (free_of rfl) trivial (List.mem_iff_getElem?.2 ⟨2, rfl⟩) (.inl rfl) (Nat.le_of_ble_eq_true rfl) (sq_in 11 rfl rfl (by simp) rfl (fun v w h => h)) (fun us w hl h => ld_pd hl h)
  · exact q_addr (b := b2) (off := 0) (off' := 2) hp (free_of rfl) trivial (sq_out rfl rfl (fun _ _ => rfl)) (fun ρ w h => by simp [execOp, go_sem, h]) (fun _ => rfl)
  · exact q_loadInt (off := 2) hp (free_of rfl) trivial (List.mem_iff_getElem?.2 ⟨1, rfl⟩) (.inl rfl) (Nat.le_of_ble_eq_true rfl) (sq_in 13 rfl rfl (by simp) rfl (fun v w h => h)) (fun us w hl h => ld_pd hl h)
  · exact q_call2 (F := (Fq.num (a.den : Int)).P) (G := (Fq.num (b.den : Int)).P) hp (free_of rfl) trivial (enq_R_Mul) (sq_in 12 rfl rfl (by simp) rfl (fun v w h => h)) (sq_in 14 rfl rfl (by simp) rfl (fun v w h => h)) (fun v v' w h h' => exK (RMulV h h') B7.out (by omega))
  · exact q_call2 (F := (Fq.num ((a.num * (b.den : Int)) + (b.num * (a.den : Int)))).P) (G := (Fq.num ((a.den : Int) * (b.den : Int))).P) hp (free_of rfl) trivial (enq_S_over) (sq_in 10 rfl rfl (by simp) rfl (fun v w h => h)) (sq_in 15 rfl rfl (by simp) rfl (fun v w h => h)) (fun v v' w h h' => exSOver h h' (den_mul_ne a b) (Int.lt_of_lt_of_le B6.out (pw_le (by omega))) (Int.lt_of_lt_of_le B7.out (pw_le (by omega))))
  · exact q_storeOldRat hp (List.mem_iff_getElem?.2 ⟨0, rfl⟩) rfl rfl (sq_out rfl rfl (fun _ _ => rfl)) (sq_in 16 rfl rfl (by simp) rfl (fun v w h => ratV_pair h)) (fun _ _ => trivial) (newik_ne rfl)
  intro L vs w9 nb hL hC hn E9
  have e0 : vs 0 = .pointer (some ⟨b1, 0, none⟩) := hC 0 (by simp)
  have e2 : vs 2 = .pointer (some ⟨b2, 2, none⟩) := hC 2 (by simp)
  have e5 : vs 5 = .pointer (some ⟨b2, 0, none⟩) := hC 5 (by simp)
  have e7 : vs 7 = .pointer (some ⟨b1, 2, none⟩) := hC 7 (by simp)
  have e11 : vs 11 = .pointer (some ⟨b1, 2, none⟩) := hC 11 (by simp)
  have e13 : vs 13 = .pointer (some ⟨b2, 2, none⟩) := hC 13 (by simp)
  have E : Fr w [(b3, 4, Fq.pair (Rat.divInt ((a.num * (b.den : Int)) + (b.num * (a.den : Int))) ((a.den : Int) * (b.den : Int))).num ((Rat.divInt ((a.num * (b.den : Int)) + (b.num * (a.den : Int))) ((a.den : Int) * (b.den : Int))).den : Int)), (b2, 4, Fq.pair b.num (b.den : Int)), (b1, 4, Fq.pair a.num (a.den : Int))] w9 := E9
  rw [lay_all hL]
  simp only [putAll, dstOf, List.length_cons, List.length_nil, Nat.zero_add, Nat.reduceAdd, List.getElem?_toArray, List.getElem?_cons_zero, List.getElem?_cons_succ, Option.bind_some, Act.put, List.setIfInBounds_toArray, List.set_cons_succ, List.set_cons_zero]
  rw [e0, e2, e5, e7, e11, e13]
  generalize vs 1 = u9_1
  generalize vs 3 = u9_3
  generalize vs 4 = u9_4
  generalize vs 6 = u9_6
  generalize vs 8 = u9_8
  generalize vs 9 = u9_9
  generalize vs 10 = u9_10
  generalize vs 12 = u9_12
  generalize vs 14 = u9_14
  generalize vs 15 = u9_15
  generalize vs 16 = u9_16
  clear e0 e2 e5 e7 e11 e13 hC hn E9 hL vs L nb
  obtain ⟨p0, p1, p2, p3, c0, c1, c2, c3, hP⟩ := box_pair (E.box 0 rfl)
  clear B4 B5 B6 B7 B8 ha hb
  go_wp2
  refine bodyPost_ret (v := .agg #[p0, p1, p2, p3]) ?_ rfl ⟨_, rfl, E.below, by rw [add_div a b]; exact hP⟩
  simp [results, Tryz.results15, go_sem, c0, c1, c2, c3]

set_option maxRecDepth 100000 in
set_option maxHeartbeats 4000000 in
theorem exSMulQ {w : World} {v v' : Value} {a b : Rat} (h : Pair w v a.num a.den) (h' : Pair w v' b.num b.den) (ha : Rb a 300) (hb : Rb b 300) :
    Calls Tryz.prog 19 #[v, v'] w fun e w' => ∃ v', e = .returned v' ∧ Below w.heap.size w w' ∧ Pair w' v' (a * b).num ((a * b).den : Int) := by
  replace ha := hidd ha
  replace hb := hidd hb
  obtain ⟨n0, ao0, k0, c0, n0', ao0', k0', c0', rfl, _⟩ := ratV_pair h
  obtain ⟨n1, ao1, k1, c1, n1', ao1', k1', c1', rfl, _⟩ := ratV_pair h'
  obtain ⟨w1, b1, hw1, hb1, hs1, E⟩ := fr_start w (F := Fq.pair a.num (a.den : Int)) (us := [.bool n0, .slice ao0 k0 c0, .bool n0', .slice ao0' k0' c0']) 31 rfl (by simp) (tame_rat _ _ _ _ _ _ _ _) h
  obtain ⟨w2, b2, hw2, hb2, hs2, E⟩ := fr_more E hs1 (F := Fq.pair b.num (b.den : Int)) (us := [.bool n1, .slice ao1 k1 c1, .bool n1', .slice ao1' k1' c1']) 31 rfl (by simp) (tame_rat _ _ _ _ _ _ _ _) (h'.mono E.below)
  obtain ⟨w3, b3, hw3, hb3, hs3, E⟩ := fr_more E hs2 (F := Fq.pair 0 0) (us := [.bool false, .slice none 0 0, .bool false, .slice none 0 0]) 31 rfl (by simp) (tame_rat _ _ _ _ _ _ _ _) (Pair.zero _)
  go_enter Tryz.func19, Tryz.ntmps19
  go_upto_region 1 with (fail)
  rw [← hw1]
  rw [← hw2]
  rw [← hw3]
  rw [← hb3]
  rw [← hb2]
  rw [← hb1]
  clear hw1 hw2 hw3 hb1 hb2 hb3 hs3 hs1 hs2
  have B4 : Hid (ab ((a.num * b.num)) < pw 600) := ab_mulM ha.out.1 hb.out.1 (by omega)
  have B5 : Hid (ab (((a.den : Int) * (b.den : Int))) < pw 600) := ab_mulM ha.out.2 hb.out.2 (by omega)
  have B6 : Hid (Rb (Rat.divInt (a.num * b.num) ((a.den : Int) * (b.den : Int))) 600) := rb_divInt (den_mul_ne a b) (Int.lt_of_lt_of_le B4.out (pw_le (by omega))) (Int.lt_of_lt_of_le B5.out (pw_le (by omega)))
  refine region_fr (C := [Fq.is (.pointer (some ⟨b1, 0, none⟩)), Fq.num a.num, Fq.is (.pointer (some ⟨b2, 0, none⟩)), Fq.num b.num, Fq.num (a.num * b.num), Fq.is (.pointer (some ⟨b1, 2, none⟩)), Fq.num (a.den : Int), Fq.is (.pointer (some ⟨b2, 2, none⟩)), Fq.num (b.den : Int), Fq.num ((a.den : Int) * (b.den : Int)), Fq.pair (Rat.divInt (a.num * b.num) ((a.den : Int) * (b.den : Int))).num ((Rat.divInt (a.num * b.num) ((a.den : Int) * (b.den : Int))).den : Int), Fq.any]) (ks := [some (11, Fq.pair (Rat.divInt (a.num * b.num) ((a.den : Int) * (b.den : Int))).num ((Rat.divInt (a.num * b.num) ((a.den : Int) * (b.den : Int))).den : Int)), none, none]) (new := []) E rfl (by kernel_rfl) rfl rfl (fun hp => ⟨?_, ?_, ?_, ?_, ?_, ?_, ?_, ?_, ?_, ?_, ?_, ?_, trivial⟩) ?_
  · exact q_addr (b := b1) (off := 0) (off' := 0) hp (free_of rfl) trivial (sq_out rfl rfl (fun _ _ => rfl)) (fun ρ w h => by simp [execOp, go_sem, h]) (fun _ => rfl)
  · exact q_loadInt (off := 0) hp (free_of rfl) trivial (List.mem_iff_getElem?.2 ⟨2, rfl⟩) (.inl rfl) (Nat.le_of_ble_eq_true rfl) (sq_in 0 rfl rfl (by simp) rfl (fun v w h => h)) (fun us w hl h => ld_pn hl h)
  · exact q_addr (b := b2) (off := 0) (off' := 0) hp (free_of rfl) trivial (sq_out rfl rfl (fun _ _ => rfl)) (fun ρ w h => by simp [execOp, go_sem, h]) (fun _ => rfl)
  · exact q_loadInt (off := 0) hp (free_of rfl) trivial (List.mem_iff_getElem?.2 ⟨1, rfl⟩) (.inl rfl) (Nat.le_of_ble_eq_true rfl) (sq_in 2 rfl rfl (by simp) rfl (fun v w h => h)) (fun us w hl h => ld_pn hl h)
  · exact q_call2 (F := (Fq.num a.num).P) (G := (Fq.num b.num).P) hp (free_of rfl) trivial (enq_R_Mul) (sq_in 1 rfl rfl (by simp) rfl (fun v w h => h)) (sq_in 3 rfl rfl (by simp) rfl (fun v w h => h)) (fun v v' w h h' => exK (RMulV h h') B4.out (by omega))
  · exact q_addr (b := b1) (off := 0) (off' := 2) hp (free_of rfl) trivial (sq_out rfl rfl (fun _ _ => rfl)) (fun ρ w h => by simp [execOp, go_sem, h]) (fun _ => rfl)
  · exact q_loadInt (off := 2) hp (free_of rfl) trivial (List.mem_iff_getElem?.2 ⟨2, rfl⟩) (.inl rfl) (Nat.le_of_ble_eq_true rfl) (sq_in 5 rfl rfl (by simp) rfl (fun v w h => h)) (fun us w hl h => ld_pd hl h)
  · exact q_addr (b := b2) (off := 0) (off' := 2) hp (free_of rfl) trivial (sq_out rfl rfl (fun _ _ => rfl)) (fun ρ w h => by simp [execOp, go_sem, h]) (fun _ => rfl)
  · exact q_loadInt (off := 2) hp (free_of rfl) trivial (List.mem_iff_getElem?.2 ⟨1, rfl⟩) (.inl rfl) (Nat.le_of_ble_eq_true rfl) (sq_in 7 rfl rfl (by simp) rfl (fun v w h => h)) (fun us w hl h => ld_pd hl h)
  · exact q_call2 (F := (Fq.num (a.den : Int)).P) (G := (Fq.num (b.den : Int)).P) hp (free_of rfl) trivial (enq_R_Mul) (sq_in 6 rfl rfl (by simp) rfl (fun v w h => h)) (sq_in 8 rfl rfl (by simp) rfl (fun v w h => h)) (fun v v' w h h' => exK (RMulV h h') B5.out (by omega))
  · exact q_call2 (F := (Fq.num (a.num * b.num)).P) (G := (Fq.num ((a.den : Int) * (b.den : Int))).P) hp (free_of rfl) trivial (enq_S_over) (sq_in 4 rfl rfl (by simp) rfl (fun v w h => h)) (sq_in 9 rfl rfl (by simp) rfl (fun v w h => h)) (fun v v' w h h' => exSOver h h' (den_mul_ne a b) (Int.lt_of_lt_of_le B4.out (pw_le (by omega))) (Int.lt_of_lt_of_le B5.out (pw_le (by omega))))
  · exact q_storeOldRat hp (List.mem_iff_getElem?.2 ⟨0, rfl⟩) rfl rfl (sq_out rfl rfl (fun _ _ => rfl)) (sq_in 10 rfl rfl (by simp) rfl (fun v w h => ratV_pair h)) (fun _ _ => trivial) (newik_ne rfl)
  intro L vs w7 nb hL hC hn E7
  have e0 : vs 0 = .pointer (some ⟨b1, 0, none⟩) := hC 0 (by simp)
  have e2 : vs 2 = .pointer (some ⟨b2, 0, none⟩) := hC 2 (by simp)
  have e5 : vs 5 = .pointer (some ⟨b1, 2, none⟩) := hC 5 (by simp)
  have e7 : vs 7 = .pointer (some ⟨b2, 2, none⟩) := hC 7 (by simp)
  have E : Fr w [(b3, 4, Fq.pair (Rat.divInt (a.num * b.num) ((a.den : Int) * (b.den : Int))).num ((Rat.divInt (a.num * b.num) ((a.den : Int) * (b.den : Int))).den : Int)), (b2, 4, Fq.pair b.num (b.den : Int)), (b1, 4, Fq.pair a.num (a.den : Int))] w7 := E7
  rw [lay_all hL]
  simp only [putAll, dstOf, List.length_cons, List.length_nil, Nat.zero_add, Nat.reduceAdd, List.getElem?_toArray, List.getElem?_cons_zero, List.getElem?_cons_succ, Option.bind_some, Act.put, List.setIfInBounds_toArray, List.set_cons_succ, List.set_cons_zero]
  rw [e0, e2, e5, e7]
  generalize vs 1 = u7_1
  generalize vs 3 = u7_3
  generalize vs 4 = u7_4
  generalize vs 6 = u7_6
  generalize vs 8 = u7_8
  generalize vs 9 = u7_9
  generalize vs 10 = u7_10
  clear e0 e2 e5 e7 hC hn E7 hL vs L nb
  obtain ⟨p0, p1, p2, p3, c0, c1, c2, c3, hP⟩ := box_pair (E.box 0 rfl)
  clear B4 B5 B6 ha hb
  go_wp2
  refine bodyPost_ret (v := .agg #[p0, p1, p2, p3]) ?_ rfl ⟨_, rfl, E.below, by rw [mul_div a b]; exact hP⟩
  simp [results, Tryz.results19, go_sem, c0, c1, c2, c3]

set_option maxRecDepth 100000 in
set_option maxHeartbeats 4000000 in
theorem exSNegQ {w : World} {v : Value} {a : Rat} (h : Pair w v a.num a.den) (ha : Rb a 300) :
    Calls Tryz.prog 51 #[v] w fun e w' => ∃ v', e = .returned v' ∧ Below w.heap.size w w' ∧ Pair w' v' (-a).num ((-a).den : Int) := by
  replace ha := hidd ha
  obtain ⟨n0, ao0, k0, c0, n0', ao0', k0', c0', rfl, _⟩ := ratV_pair h
  obtain ⟨w1, b1, hw1, hb1, hs1, E⟩ := fr_start w (F := Fq.pair a.num (a.den : Int)) (us := [.bool n0, .slice ao0 k0 c0, .bool n0', .slice ao0' k0' c0']) 31 rfl (by simp) (tame_rat _ _ _ _ _ _ _ _) h
  obtain ⟨w2, b2, hw2, hb2, hs2, E⟩ := fr_more E hs1 (F := Fq.pair 0 0) (us := [.bool false, .slice none 0 0, .bool false, .slice none 0 0]) 31 rfl (by simp) (tame_rat _ _ _ _ _ _ _ _) (Pair.zero _)
  go_enter Tryz.func51, Tryz.ntmps51
  go_upto_region 1 with (fail)
  rw [← hw1]
  rw [← hw2]
  rw [← hb2]
  rw [← hb1]
  clear hw1 hw2 hb1 hb2 hs2 hs1
  have B3 : Hid (ab ((-a.num)) < pw 300) := ab_negB ha.out.1
  refine region_fr (C := [Fq.is (.pointer (some ⟨b1, 0, none⟩)), Fq.num a.num, Fq.num (-a.num), Fq.is (.pointer (some ⟨b1, 2, none⟩)), Fq.num (a.den : Int), Fq.pair (-a.num) (a.den : Int), Fq.any]) (ks := [some (6, Fq.pair (-a.num) (a.den : Int)), none]) (new := []) E rfl (by kernel_rfl) rfl rfl (fun hp => ⟨?_, ?_, ?_, ?_, ?_, ?_, ?_, trivial⟩) ?_
  · exact q_addr (b := b1) (off := 0) (off' := 0) hp (free_of rfl) trivial (sq_out rfl rfl (fun _ _ => rfl)) (fun ρ w h => by simp [execOp, go_sem, h]) (fun _ => rfl)
  · exact q_loadInt (off := 0) hp (free_of rfl) trivial (List.mem_iff_getElem?.2 ⟨1, rfl⟩) (.inl rfl) (Nat.le_of_ble_eq_true rfl) (sq_in 0 rfl rfl (by simp) rfl (fun v w h => h)) (fun us w hl h => ld_pn hl h)
  · exact q_call1 (F := (Fq.num a.num).P) hp (free_of rfl) trivial (enq_R_Neg) (sq_in 1 rfl rfl (by simp) rfl (fun v w h => h)) (fun v w h => exK (RNegV h) B3.out (by omega))
  · exact q_addr (b := b1) (off := 0) (off' := 2) hp (free_of rfl) trivial (sq_out rfl rfl (fun _ _ => rfl)) (fun ρ w h => by simp [execOp, go_sem, h]) (fun _ => rfl)
  · exact q_loadInt (off := 2) hp (free_of rfl) trivial (List.mem_iff_getElem?.2 ⟨1, rfl⟩) (.inl rfl) (Nat.le_of_ble_eq_true rfl) (sq_in 3 rfl rfl (by simp) rfl (fun v w h => h)) (fun us w hl h => ld_pd hl h)
  · exact q_buildRat (n := (-a.num)) (d0 := (a.den : Int)) hp (free_of rfl) trivial (sq_in 2 rfl rfl (by simp) rfl (fun v w h => h)) (sq_in 4 rfl rfl (by simp) rfl (fun v w h => h)) (fun v w h => h)
  · exact q_storeOldRat hp (List.mem_iff_getElem?.2 ⟨0, rfl⟩) rfl rfl (sq_out rfl rfl (fun _ _ => rfl)) (sq_in 5 rfl rfl (by simp) rfl (fun v w h => ratV_pair h)) (fun _ _ => trivial) (newik_ne rfl)
  intro L vs w4 nb hL hC hn E4
  have e0 : vs 0 = .pointer (some ⟨b1, 0, none⟩) := hC 0 (by simp)
  have e3 : vs 3 = .pointer (some ⟨b1, 2, none⟩) := hC 3 (by simp)
  have E : Fr w [(b2, 4, Fq.pair (-a.num) (a.den : Int)), (b1, 4, Fq.pair a.num (a.den : Int))] w4 := E4
  rw [lay_all hL]
  simp only [putAll, dstOf, List.length_cons, List.length_nil, Nat.zero_add, Nat.reduceAdd, List.getElem?_toArray, List.getElem?_cons_zero, List.getElem?_cons_succ, Option.bind_some, Act.put, List.setIfInBounds_toArray, List.set_cons_succ, List.set_cons_zero]
  rw [e0, e3]
  generalize vs 1 = u4_1
  generalize vs 2 = u4_2
  generalize vs 4 = u4_4
  generalize vs 5 = u4_5
  clear e0 e3 hC hn E4 hL vs L nb
  obtain ⟨p0, p1, p2, p3, c0, c1, c2, c3, hP⟩ := box_pair (E.box 0 rfl)
  clear B3 ha
  go_wp2
  refine bodyPost_ret (v := .agg #[p0, p1, p2, p3]) ?_ rfl ⟨_, rfl, E.below, by rw [Rat.neg_num, Rat.neg_den]; exact hP⟩
  simp [results, Tryz.results51, go_sem, c0, c1, c2, c3]

set_option maxRecDepth 100000 in
set_option maxHeartbeats 4000000 in
theorem exSSubQ {w : World} {v v' : Value} {a b : Rat} (h : Pair w v a.num a.den) (h' : Pair w v' b.num b.den) (ha : Rb a 300) (hb : Rb b 300) :
    Calls Tryz.prog 17 #[v, v'] w fun e w' => ∃ v', e = .returned v' ∧ Below w.heap.size w w' ∧ Pair w' v' (a - b).num ((a - b).den : Int) := by
  replace ha := hidd ha
  replace hb := hidd hb
  obtain ⟨n0, ao0, k0, c0, n0', ao0', k0', c0', rfl, _⟩ := ratV_pair h
  obtain ⟨n1, ao1, k1, c1, n1', ao1', k1', c1', rfl, _⟩ := ratV_pair h'
  obtain ⟨w1, b1, hw1, hb1, hs1, E⟩ := fr_start w (F := Fq.pair a.num (a.den : Int)) (us := [.bool n0, .slice ao0 k0 c0, .bool n0', .slice ao0' k0' c0']) 31 rfl (by simp) (tame_rat _ _ _ _ _ _ _ _) h
  obtain ⟨w2, b2, hw2, hb2, hs2, E⟩ := fr_more E hs1 (F := Fq.pair b.num (b.den : Int)) (us := [.bool n1, .slice ao1 k1 c1, .bool n1', .slice ao1' k1' c1']) 31 rfl (by simp) (tame_rat _ _ _ _ _ _ _ _) (h'.mono E.below)
  obtain ⟨w3, b3, hw3, hb3, hs3, E⟩ := fr_more E hs2 (F := Fq.pair 0 0) (us := [.bool false, .slice none 0 0, .bool false, .slice none 0 0]) 31 rfl (by simp) (tame_rat _ _ _ _ _ _ _ _) (Pair.zero _)
  go_enter Tryz.func17, Tryz.ntmps17
  go_upto_region 1 with (fail)
  rw [← hw1]
  rw [← hw2]
  rw [← hw3]
  rw [← hb3]
  rw [← hb2]
  rw [← hb1]
  clear hw1 hw2 hw3 hb1 hb2 hb3 hs3 hs1 hs2
  have B4 : Hid (Rb (-b) 300) := rb_neg hb.out
  have B5 : Hid (Rb (a + (-b)) 601) := rb_le (rb_add ha.out B4.out) (by omega)
  refine region_fr (C := [Fq.pair a.num (a.den : Int), Fq.pair b.num (b.den : Int), Fq.pair (-b).num ((-b).den : Int), Fq.pair (a + (-b)).num ((a + (-b)).den : Int), Fq.any]) (ks := [some (4, Fq.pair (a + (-b)).num ((a + (-b)).den : Int)), none, none]) (new := []) E rfl (by kernel_rfl) rfl rfl (fun hp => ⟨?_, ?_, ?_, ?_, ?_, trivial⟩) ?_
  · exact q_loadRat hp (free_of rfl) trivial (List.mem_iff_getElem?.2 ⟨2, rfl⟩) (.inl rfl) rfl (sq_out rfl rfl (fun _ _ => rfl)) (fun us w hl h => h)
  · exact q_loadRat hp (free_of rfl) trivial (List.mem_iff_getElem?.2 ⟨1, rfl⟩) (.inl rfl) rfl (sq_out rfl rfl (fun _ _ => rfl)) (fun us w hl h => h)
  · exact q_call1 (F := (Fq.pair b.num (b.den : Int)).P) hp (free_of rfl) trivial (enq_S_Neg) (sq_in 1 rfl rfl (by simp) rfl (fun v w h => h)) (fun v w h => exSNegQ h (rb_le hb.out (by omega)))
  · exact q_call2 (F := (Fq.pair a.num (a.den : Int)).P) (G := (Fq.pair (-b).num ((-b).den : Int)).P) hp (free_of rfl) trivial (enq_S_Add) (sq_in 0 rfl rfl (by simp) rfl (fun v w h => h)) (sq_in 2 rfl rfl (by simp) rfl (fun v w h => h)) (fun v v' w h h' => exSAddQ h h' (rb_le ha.out (by omega)) (rb_le B4.out (by omega)))
  · exact q_storeOldRat hp (List.mem_iff_getElem?.2 ⟨0, rfl⟩) rfl rfl (sq_out rfl rfl (fun _ _ => rfl)) (sq_in 3 rfl rfl (by simp) rfl (fun v w h => ratV_pair h)) (fun _ _ => trivial) (newik_ne rfl)
  intro L vs w6 nb hL hC hn E6
  have E : Fr w [(b3, 4, Fq.pair (a + (-b)).num ((a + (-b)).den : Int)), (b2, 4, Fq.pair b.num (b.den : Int)), (b1, 4, Fq.pair a.num (a.den : Int))] w6 := E6
  rw [lay_all hL]
  simp only [putAll, dstOf, List.length_cons, List.length_nil, Nat.zero_add, Nat.reduceAdd, List.getElem?_toArray, List.getElem?_cons_zero, List.getElem?_cons_succ, Option.bind_some, Act.put, List.setIfInBounds_toArray, List.set_cons_succ, List.set_cons_zero]
  generalize vs 0 = u6_0
  generalize vs 1 = u6_1
  generalize vs 2 = u6_2
  generalize vs 3 = u6_3
  clear  hC hn E6 hL vs L nb
  obtain ⟨p0, p1, p2, p3, c0, c1, c2, c3, hP⟩ := box_pair (E.box 0 rfl)
  clear B4 B5 ha hb
  go_wp2
  refine bodyPost_ret (v := .agg #[p0, p1, p2, p3]) ?_ rfl ⟨_, rfl, E.below, by rw [Rat.sub_eq_add_neg]; exact hP⟩
  simp [results, Tryz.results17, go_sem, c0, c1, c2, c3]

set_option maxRecDepth 100000 in
set_option maxHeartbeats 4000000 in
theorem exSCmpQ {w : World} {v v' : Value} {a b : Rat} (h : Pair w v a.num a.den) (h' : Pair w v' b.num b.den) (ha : Rb a 300) (hb : Rb b 300) :
    Calls Tryz.prog 21 #[v, v'] w fun e w' => ∃ v', e = .returned v' ∧ Below w.heap.size w w' ∧ v' = .int .i64 (cmpQ a b) := by
  replace ha := hidd ha
  replace hb := hidd hb
  obtain ⟨n0, ao0, k0, c0, n0', ao0', k0', c0', rfl, _⟩ := ratV_pair h
  obtain ⟨n1, ao1, k1, c1, n1', ao1', k1', c1', rfl, _⟩ := ratV_pair h'
  obtain ⟨w1, b1, hw1, hb1, hs1, E⟩ := fr_start w (F := Fq.pair a.num (a.den : Int)) (us := [.bool n0, .slice ao0 k0 c0, .bool n0', .slice ao0' k0' c0']) 31 rfl (by simp) (tame_rat _ _ _ _ _ _ _ _) h
  obtain ⟨w2, b2, hw2, hb2, hs2, E⟩ := fr_more E hs1 (F := Fq.pair b.num (b.den : Int)) (us := [.bool n1, .slice ao1 k1 c1, .bool n1', .slice ao1' k1' c1']) 31 rfl (by simp) (tame_rat _ _ _ _ _ _ _ _) (h'.mono E.below)
  go_enter Tryz.func21, Tryz.ntmps21
  go_upto_region 1 with (fail)
  rw [← hw1]
  rw [← hw2]
  rw [← hb2]
  rw [← hb1]
  clear hw1 hw2 hb1 hb2 hs2 hs1
  have B3 : Hid (ab ((a.num * (b.den : Int))) < pw 600) := ab_mulM ha.out.1 hb.out.2 (by omega)
  have B4 : Hid (ab ((b.num * (a.den : Int))) < pw 600) := ab_mulM hb.out.1 ha.out.2 (by omega)
  refine region_fr (C := [Fq.is (.pointer (some ⟨b1, 0, none⟩)), Fq.num a.num, Fq.is (.pointer (some ⟨b2, 2, none⟩)), Fq.num (b.den : Int), Fq.num (a.num * (b.den : Int)), Fq.is (.pointer (some ⟨b2, 0, none⟩)), Fq.num b.num, Fq.is (.pointer (some ⟨b1, 2, none⟩)), Fq.num (a.den : Int), Fq.num (b.num * (a.den : Int)), Fq.is (.int .i64 (cmpI (a.num * (b.den : Int)) (b.num * (a.den : Int)))), Fq.is (.int .i64 (cmpI (a.num * (b.den : Int)) (b.num * (a.den : Int))))]) (ks := [none, none]) (new := []) E rfl (by kernel_rfl) rfl rfl (fun hp => ⟨?_, ?_, ?_, ?_, ?_, ?_, ?_, ?_, ?_, ?_, ?_, ?_, trivial⟩) ?_
  · exact q_addr (b := b1) (off := 0) (off' := 0) hp (free_of rfl) trivial (sq_out rfl rfl (fun _ _ => rfl)) (fun ρ w h => by simp [execOp, go_sem, h]) (fun _ => rfl)
  · exact q_loadInt (off := 0) hp (free_of rfl) trivial (List.mem_iff_getElem?.2 ⟨1, rfl⟩) (.inl rfl) (Nat.le_of_ble_eq_true rfl) (sq_in 0 rfl rfl (by simp) rfl (fun v w h => h)) (fun us w hl h => ld_pn hl h)
  · exact q_addr (b := b2) (off := 0) (off' := 2) hp (free_of rfl) trivial (sq_out rfl rfl (fun _ _ => rfl)) (fun ρ w h => by simp [execOp, go_sem, h]) (fun _ => rfl)
  · exact q_loadInt (off := 2) hp (free_of rfl) trivial (List.mem_iff_getElem?.2 ⟨0, rfl⟩) (.inl rfl) (Nat.le_of_ble_eq_true rfl) (sq_in 2 rfl rfl (by simp) rfl (fun v w h => h)) (fun us w hl h => ld_pd hl h)
  · exact q_call2 (F := (Fq.num a.num).P) (G := (Fq.num (b.den : Int)).P) hp (free_of rfl) trivial (enq_R_Mul) (sq_in 1 rfl rfl (by simp) rfl (fun v w h => h)) (sq_in 3 rfl rfl (by simp) rfl (fun v w h => h)) (fun v v' w h h' => exK (RMulV h h') B3.out (by omega))
  · exact q_addr (b := b2) (off := 0) (off' := 0) hp (free_of rfl) trivial (sq_out rfl rfl (fun _ _ => rfl)) (fun ρ w h => by simp [execOp, go_sem, h]) (fun _ => rfl)
  · exact q_loadInt (off := 0) hp (free_of rfl) trivial (List.mem_iff_getElem?.2 ⟨0, rfl⟩) (.inl rfl) (Nat.le_of_ble_eq_true rfl) (sq_in 5 rfl rfl (by simp) rfl (fun v w h => h)) (fun us w hl h => ld_pn hl h)
  · exact q_addr (b := b1) (off := 0) (off' := 2) hp (free_of rfl) trivial (sq_out rfl rfl (fun _ _ => rfl)) (fun ρ w h => by simp [execOp, go_sem, h]) (fun _ => rfl)
  · exact q_loadInt (off := 2) hp (free_of rfl) trivial (List.mem_iff_getElem?.2 ⟨1, rfl⟩) (.inl rfl) (Nat.le_of_ble_eq_true rfl) (sq_in 7 rfl rfl (by simp) rfl (fun v w h => h)) (fun us w hl h => ld_pd hl h)
  · exact q_call2 (F := (Fq.num b.num).P) (G := (Fq.num (a.den : Int)).P) hp (free_of rfl) trivial (enq_R_Mul) (sq_in 6 rfl rfl (by simp) rfl (fun v w h => h)) (sq_in 8 rfl rfl (by simp) rfl (fun v w h => h)) (fun v v' w h h' => exK (RMulV h h') B4.out (by omega))
  · exact q_call2 (F := (Fq.num (a.num * (b.den : Int))).P) (G := (Fq.num (b.num * (a.den : Int))).P) hp (free_of rfl) trivial (enq_R_Cmp) (sq_in 4 rfl rfl (by simp) rfl (fun v w h => h)) (sq_in 9 rfl rfl (by simp) rfl (fun v w h => h)) (fun v v' w h h' => exRCmpN h h')
  · exact q_assign hp (free_of rfl) trivial (sq_in 10 rfl rfl (by simp) rfl (fun v w h => h))
  intro L vs w5 nb hL hC hn E5
  have e0 : vs 0 = .pointer (some ⟨b1, 0, none⟩) := hC 0 (by simp)
  have e2 : vs 2 = .pointer (some ⟨b2, 2, none⟩) := hC 2 (by simp)
  have e5 : vs 5 = .pointer (some ⟨b2, 0, none⟩) := hC 5 (by simp)
  have e7 : vs 7 = .pointer (some ⟨b1, 2, none⟩) := hC 7 (by simp)
  have e10 : vs 10 = .int .i64 (cmpI (a.num * (b.den : Int)) (b.num * (a.den : Int))) := hC 10 (by simp)
  have e11 : vs 11 = .int .i64 (cmpI (a.num * (b.den : Int)) (b.num * (a.den : Int))) := hC 11 (by simp)
  have E : Fr w [(b2, 4, Fq.pair b.num (b.den : Int)), (b1, 4, Fq.pair a.num (a.den : Int))] w5 := E5
  rw [lay_all hL]
  simp only [putAll, dstOf, List.length_cons, List.length_nil, Nat.zero_add, Nat.reduceAdd, List.getElem?_toArray, List.getElem?_cons_zero, List.getElem?_cons_succ, Option.bind_some, Act.put, List.setIfInBounds_toArray, List.set_cons_succ, List.set_cons_zero]
  rw [e0, e2, e5, e7, e10, e11]
  generalize vs 1 = u5_1
  generalize vs 3 = u5_3
  generalize vs 4 = u5_4
  generalize vs 6 = u5_6
  generalize vs 8 = u5_8
  generalize vs 9 = u5_9
  clear e0 e2 e5 e7 e10 e11 hC hn E5 hL vs L nb
  clear B3 B4 ha hb
  go_wp2
  refine bodyPost_ret (v := .int .i64 (cmpI (a.num * (b.den : Int)) (b.num * (a.den : Int)))) ?_ rfl (by first | exact ⟨_, rfl, E.below, rfl⟩ | exact ⟨_, rfl, E.below⟩ | exact ⟨rfl, E.below⟩)
  simp [results, Tryz.results21, go_sem]

end Go.Proofs.YtoimphnhmpmipaaGreat

/- Steps of a region over intervals, over slices that are passed on, over arrays of descriptions. -/
namespace Go.Proofs.YtoimphnhmpmipaaGreat
open Go Go.RowKit

/-- Two fractions, one behind the other. -/
def Ivl (w : World) (v : Value) (n1 d1 n2 d2 : Int) : Prop := ∃ p q r s p' q' r' s', v = .agg #[p, q, r, s, p', q', r', s'] ∧ Pair w (.agg #[p, q, r, s]) n1 d1 ∧ Pair w (.agg #[p', q', r', s']) n2 d2
def Fq.ivl (n1 d1 n2 d2 : Int) : Fq := ⟨fun v w => Ivl w v n1 d1 n2 d2, fun ⟨p, q, r, s, p', q', r', s', e, h1, h2⟩ hb => ⟨p, q, r, s, p', q', r', s', e, h1.mono hb, h2.mono hb⟩,
  fun ⟨p, q, r, s, p', q', r', s', e, h1, h2⟩ ha ht hl => ⟨p, q, r, s, p', q', r', s', e, (Fq.pair n1 d1).put h1 ha ht hl, (Fq.pair n2 d2).put h2 ha ht hl⟩⟩
def IvlV (F : Fq) (v : Value) (w : World) : Prop := ∃ n1 a1 k1 c1 n2 a2 k2 c2 n3 a3 k3 c3 n4 a4 k4 c4, v = .agg #[.bool n1, .slice a1 k1 c1, .bool n2, .slice a2 k2 c2, .bool n3, .slice a3 k3 c3, .bool n4, .slice a4 k4 c4] ∧ F.P v w

theorem agg4 {p q r s p' q' r' s' : Value} (h : (Value.agg #[p, q, r, s]) = .agg #[p', q', r', s']) : p = p' ∧ q = q' ∧ r = r' ∧ s = s' := by
  injection h with h
  have := congrArg Array.toList h
  simpa using this

theorem Ivl.parts {w : World} {v : Value} {n1 d1 n2 d2 : Int} (h : Ivl w v n1 d1 n2 d2) : IvlV (Fq.ivl n1 d1 n2 d2) v w := by
  have h0 := h
  obtain ⟨p, q, r, s, p', q', r', s', rfl, h1, h2⟩ := h
  obtain ⟨m1, b1, j1, e1, m2, b2, j2, e2, eq1, _⟩ := ratV_pair h1
  obtain ⟨m3, b3, j3, e3, m4, b4, j4, e4, eq2, _⟩ := ratV_pair h2
  obtain ⟨rfl, rfl, rfl, rfl⟩ := agg4 eq1
  obtain ⟨rfl, rfl, rfl, rfl⟩ := agg4 eq2
  exact ⟨_, _, _, _, _, _, _, _, _, _, _, _, _, _, _, _, rfl, h0⟩

def zeroIvl : List Value := [.bool false, .slice none 0 0, .bool false, .slice none 0 0, .bool false, .slice none 0 0, .bool false, .slice none 0 0]
theorem Ivl.zero (w : World) : Ivl w (.agg zeroIvl.toArray) 0 0 0 0 := ⟨_, _, _, _, _, _, _, _, rfl, Pair.zero w, Pair.zero w⟩
theorem tame_ivl (n1 : Bool) (a1 : Option Addr) (k1 c1 : Nat) (n2 : Bool) (a2 : Option Addr) (k2 c2 : Nat) (n3 : Bool) (a3 : Option Addr) (k3 c3 : Nat) (n4 : Bool) (a4 : Option Addr) (k4 c4 : Nat) : Tame [.bool n1, .slice a1 k1 c1, .bool n2, .slice a2 k2 c2, .bool n3, .slice a3 k3 c3, .bool n4, .slice a4 k4 c4] := by
  intro u hu q e
  simp at hu
  rcases hu with rfl | rfl | rfl | rfl | rfl | rfl | rfl | rfl <;> cases e

section
variable {os : List Oper} {Q : Exit → Act → World → Prop} {a : Act} {p : Pq} {B B0 : Nat} {w0 : World}
variable {i s : Nat} {d : Option Tmp} {ty : TypeId} {ps : String} {af : Array Edge} {gd : Option (Nat × Bool)}

/-- An interval, loaded out of its box. -/
theorem q_loadIvl {o : Ob} {x : Operand} (hp : p.Ok B B0) (hF : p.Free i) (hg : GdQ os a p B B0 w0 af gd) (ho : o ∈ p.old) (hk : o.F1 = o.F0 ∨ leadsB os 9 o.k i = true) (hm : o.m = 8)
    (hx : SrcQ os a p B B0 w0 af x fun u _ => u = .pointer (some ⟨o.b, 0, none⟩)) (hC : ∀ (us : List Value) (w : World), us.length = o.m → o.F0.P (.agg us.toArray) w → (p.c i).P (.agg us.toArray) w) :
    StepQ os Q a p B B0 w0 i { dst := d, op := .load 47 x, type := ty, pos := ps, after := af, guard := gd } := by
  refine stq_val hp hF hg fun L vs w hG hL hc hd => ?_
  obtain ⟨us, hl, h0, hat, ht, hP⟩ := box_now ho hk hG hL hc
  have e := hx L vs w hG hd
  refine ⟨_, ?_, hC us w hl hP⟩
  rw [hm] at hl
  match us, hl, hat with
  | [u0, u1, u2, u3, u4, u5, u6, u7], _, hat =>
    have c0 := (hat 0 (by simp)).1
    have c1 := (hat 1 (by simp)).1
    have c2 := (hat 2 (by simp)).1
    have c3 := (hat 3 (by simp)).1
    have c4 := (hat 4 (by simp)).1
    have c5 := (hat 5 (by simp)).1
    have c6 := (hat 6 (by simp)).1
    have c7 := (hat 7 (by simp)).1
    simp at c0 c1 c2 c3 c4 c5 c6 c7
    generalize (lay os.toArray L vs os.toArray.size a).eval = ρ at e
    simp [execOp, go_sem, e, c0, c1, c2, c3, c4, c5, c6, c7]

theorem ld_ivl0 {us : List Value} {w : World} {n1 d1 n2 d2 : Int} (hl : us.length = 8) (h : (Fq.ivl n1 d1 n2 d2).P (.agg us.toArray) w) : Pair w (.agg #[us.getD 0 undef, us.getD (0 + 1) undef, us.getD (0 + 2) undef, us.getD (0 + 3) undef]) n1 d1 := by
  match us, hl with
  | [u0, u1, u2, u3, u4, u5, u6, u7], _ =>
    obtain ⟨p, q, r, s, p', q', r', s', e, h1, h2⟩ := h
    injection e with e
    have e2 := congrArg Array.toList e
    simp at e2
    obtain ⟨rfl, rfl, rfl, rfl, rfl, rfl, rfl, rfl⟩ := e2
    exact h1
theorem ld_ivl1 {us : List Value} {w : World} {n1 d1 n2 d2 : Int} (hl : us.length = 8) (h : (Fq.ivl n1 d1 n2 d2).P (.agg us.toArray) w) : Pair w (.agg #[us.getD 4 undef, us.getD (4 + 1) undef, us.getD (4 + 2) undef, us.getD (4 + 3) undef]) n2 d2 := by
  match us, hl with
  | [u0, u1, u2, u3, u4, u5, u6, u7], _ =>
    obtain ⟨p, q, r, s, p', q', r', s', e, h1, h2⟩ := h
    injection e with e
    have e2 := congrArg Array.toList e
    simp at e2
    obtain ⟨rfl, rfl, rfl, rfl, rfl, rfl, rfl, rfl⟩ := e2
    exact h2

/-- An interval is put together. -/
theorem q_buildIvl {x y : Operand} {n1 d1 n2 d2 : Int} (hp : p.Ok B B0) (hF : p.Free i) (hg : GdQ os a p B B0 w0 af gd) (hx : SrcQ os a p B B0 w0 af x fun v w => Pair w v n1 d1) (hy : SrcQ os a p B B0 w0 af y fun v w => Pair w v n2 d2) (hC : ∀ v w, Ivl w v n1 d1 n2 d2 → (p.c i).P v w) :
    StepQ os Q a p B B0 w0 i { dst := d, op := .build 47 #[(0, x), (1, y)], type := ty, pos := ps, after := af, guard := gd } := by
  refine stq_val hp hF hg fun L vs w hG hL hc hd => ?_
  have h1 := hx L vs w hG hd
  have h2 := hy L vs w hG hd
  obtain ⟨m1, b1, j1, g1, m2, b2, j2, g2, e1, _⟩ := ratV_pair h1
  obtain ⟨m3, b3, j3, g3, m4, b4, j4, g4, e2, _⟩ := ratV_pair h2
  refine ⟨.agg #[.bool m1, .slice b1 j1 g1, .bool m2, .slice b2 j2 g2, .bool m3, .slice b3 j3 g3, .bool m4, .slice b4 j4 g4], ?_, hC _ _ ⟨_, _, _, _, _, _, _, _, rfl, by rw [← e1]; exact h1, by rw [← e2]; exact h2⟩⟩
  generalize (lay os.toArray L vs os.toArray.size a).eval = ρ at e1 e2
  simp [execOp, go_sem, e1, e2]
theorem op_allocIvl {ops : Array Oper} {K : Act → World → Prop} {w : World} (ho : ops[i]? = some { dst := d, op := .alloc 47, type := ty, pos := ps, after := af, guard := none })
    (h : K (a.put d (.pointer (some ⟨w.heap.size, 0, none⟩))) (w.alloc (.cells zeroIvl.toArray 47))) : wpOp Tryz.prog ops Q i K a w := by
  refine wpOp_step ho fun K' hK => ?_
  have e : (execOp a.eval ({ dst := d, op := .alloc 47, type := ty, pos := ps, after := af, guard := none } : Oper)).run Tryz.prog w = (.ok (.value (.pointer (some ⟨w.heap.size, 0, none⟩))) (w.alloc (.cells zeroIvl.toArray 47))) := by
    generalize a.eval = ρ
    simp [execOp, go_sem, zeroIvl]
  have hwn : Region.wanted ({ dst := d, op := .alloc 47, type := ty, pos := ps, after := af, guard := none } : Oper) (yielded ops a.tmps) = true := rfl
  rw [if_pos hwn]
  unfold Oper.wp
  rw [e]
  exact hK _ _ h
theorem q_allocIvl {n0 : Nb} (hp : p.Ok B B0) (hi : n0 ∈ p.new) (hii : n0.i = i) (hsl : n0.s = none) (hm : n0.m = 8) (hk : leadsB os 9 n0.k i = true) (hki : n0.k ≠ i) (hC : ∀ v w', (p.c i).P v w') (h1 : ∀ o ∈ p.old, o.k ≠ i) (h2 : ∀ n ∈ p.new, n.k ≠ i) (hF : ∀ w', n0.F0.P (.agg zeroIvl.toArray) w') :
    StepQ os Q a p B B0 w0 i { dst := d, op := .alloc 47, type := ty, pos := ps, after := af, guard := none } := by
  subst hii
  intro hio L vs w hG hL hd hc
  exact op_allocIvl hio ⟨_, rfl, hG.alloc hp hi hsl (not_yet hc hk hL) hki hC h1 h2 _ (us := zeroIvl) hm.symm (by omega) (tame_ivl _ _ _ _ _ _ _ _ _ _ _ _ _ _ _ _) hF⟩

theorem op_storeIvl {ops : Array Oper} {K : Act → World → Prop} {w : World} {x y : Operand} {b : Nat} {us : List Value} {n1 : Bool} {a1 : Option Addr} {k1 c1 : Nat} {n2 : Bool} {a2 : Option Addr} {k2 c2 : Nat} {n3 : Bool} {a3 : Option Addr} {k3 c3 : Nat} {n4 : Bool} {a4 : Option Addr} {k4 c4 : Nat} (ho : ops[i]? = some { dst := d, op := .store 47 x y, type := ty, pos := ps, after := af, guard := none }) (hx : a.eval x = .pointer (some ⟨b, 0, none⟩)) (hy : a.eval y = .agg #[.bool n1, .slice a1 k1 c1, .bool n2, .slice a2 k2 c2, .bool n3, .slice a3 k3 c3, .bool n4, .slice a4 k4 c4]) (hat : At w b us) (hl : us.length = 8)
    (h : K (a.put d undef) (putFrom w b 0 [.bool n1, .slice a1 k1 c1, .bool n2, .slice a2 k2 c2, .bool n3, .slice a3 k3 c3, .bool n4, .slice a4 k4 c4])) : wpOp Tryz.prog ops Q i K a w := by
  refine wpOp_step ho fun K' hK => ?_
  obtain ⟨e0, f0⟩ := hat 0 (by omega)
  obtain ⟨e1, f1⟩ := hat 1 (by omega)
  obtain ⟨e2, f2⟩ := hat 2 (by omega)
  obtain ⟨e3, f3⟩ := hat 3 (by omega)
  obtain ⟨e4, f4⟩ := hat 4 (by omega)
  obtain ⟨e5, f5⟩ := hat 5 (by omega)
  obtain ⟨e6, f6⟩ := hat 6 (by omega)
  obtain ⟨e7, f7⟩ := hat 7 (by omega)
  generalize us.getD 0 undef = u0 at e0
  generalize us.getD 1 undef = u1 at e1
  generalize us.getD 2 undef = u2 at e2
  generalize us.getD 3 undef = u3 at e3
  generalize us.getD 4 undef = u4 at e4
  generalize us.getD 5 undef = u5 at e5
  generalize us.getD 6 undef = u6 at e6
  generalize us.getD 7 undef = u7 at e7
  have e : (execOp a.eval ({ dst := d, op := .store 47 x y, type := ty, pos := ps, after := af, guard := none } : Oper)).run Tryz.prog w = (.ok .skip (putFrom w b 0 [.bool n1, .slice a1 k1 c1, .bool n2, .slice a2 k2 c2, .bool n3, .slice a3 k3 c3, .bool n4, .slice a4 k4 c4])) := by
    generalize a.eval = ρ at hx hy
    simp [execOp, go_sem, hx, hy, e0, f0, e1, f1, e2, f2, e3, f3, e4, f4, e5, f5, e6, f6, e7, f7, putFrom]
  have hwn : Region.wanted ({ dst := d, op := .store 47 x y, type := ty, pos := ps, after := af, guard := none } : Oper) (yielded ops a.tmps) = true := rfl
  rw [if_pos hwn]
  unfold Oper.wp
  rw [e]
  exact hK _ _ h

theorem q_storeNewIvl {n0 : Nb} {x y : Operand} (hp : p.Ok B B0) (hi : n0 ∈ p.new) (hki : n0.k = i) (hsl : n0.s = none) (hm : n0.m = 8) (hx : ∀ L vs w, p.G B B0 w0 L vs w → (∀ e ∈ af, Region.binds .any e = true → L e.on = true) → L n0.i = true ∧ (lay os.toArray L vs os.toArray.size a).eval x = vs n0.i) (hy : SrcQ os a p B B0 w0 af y (IvlV n0.F1))
    (hC : ∀ v w', (p.c i).P v w') (h1 : ∀ o ∈ p.old, o.k ≠ i) (h2 : ∀ n ∈ p.new, n.i ≠ i) : StepQ os Q a p B B0 w0 i { dst := none, op := .store 47 x y, type := ty, pos := ps, after := af, guard := none } := by
  subst hki
  intro hio L vs w hG hL hd hc
  obtain ⟨hLi, hxe⟩ := hx L vs w hG hd
  obtain ⟨n1, a1, k1, c1, n2, a2, k2, c2, n3, a3, k3, c3, n4, a4, k4, c4, e, hP⟩ := hy L vs w hG hd
  obtain ⟨b, e1', e2, us, g1, g2, g3, g4, g5⟩ := hG.new _ hi hLi
  have e1 : vs n0.i = .pointer (some ⟨b, 0, none⟩) := by rw [e1']; unfold Nb.ptr; rw [hsl]
  rw [e] at hP
  exact op_storeIvl hio (hxe.trans e1) e g3 (by omega) ⟨undef, rfl, hG.storeNew hp hi hLi (us := [.bool n1, .slice a1 k1 c1, .bool n2, .slice a2 k2 c2, .bool n3, .slice a3 k3 c3, .bool n4, .slice a4 k4 c4]) hm.symm (tame_ivl _ _ _ _ _ _ _ _ _ _ _ _ _ _ _ _) hP hC h1 h2 e1' _⟩

theorem q_storeOldIvl {o0 : Ob} {x y : Operand} (hp : p.Ok B B0) (hi : o0 ∈ p.old) (hki : o0.k = i) (hm : o0.m = 8) (hx : SrcQ os a p B B0 w0 af x fun u _ => u = .pointer (some ⟨o0.b, 0, none⟩)) (hy : SrcQ os a p B B0 w0 af y (IvlV o0.F1))
    (hC : ∀ v w', (p.c i).P v w') (h2 : ∀ n ∈ p.new, n.i ≠ i ∧ n.k ≠ i) : StepQ os Q a p B B0 w0 i { dst := none, op := .store 47 x y, type := ty, pos := ps, after := af, guard := none } := by
  subst hki
  intro hio L vs w hG hL hd hc
  obtain ⟨n1, a1, k1, c1, n2, a2, k2, c2, n3, a3, k3, c3, n4, a4, k4, c4, e, hP⟩ := hy L vs w hG hd
  obtain ⟨us, g1, g2, g3, g4, g5⟩ := hG.old _ hi
  rw [e] at hP
  exact op_storeIvl hio (hx L vs w hG hd) e g3 (by omega) ⟨undef, rfl, hG.storeOld hp hi (us := [.bool n1, .slice a1 k1 c1, .bool n2, .slice a2 k2 c2, .bool n3, .slice a3 k3 c3, .bool n4, .slice a4 k4 c4]) hm.symm (tame_ivl _ _ _ _ _ _ _ _ _ _ _ _ _ _ _ _) hP hC h2 _⟩

theorem q_buildRats1 {n0 : Nb} {x : Operand} {n1 d1 : Int} (hp : p.Ok B B0) (hi : n0 ∈ p.new) (hii : n0.i = i) (hki : n0.k = i) (hsl : n0.s = some 1) (hm : n0.m = 4) (hF1 : n0.F1 = Fq.rats [(n1, d1)])
    (hx : SrcQ os a p B B0 w0 af x fun v w => Pair w v n1 d1)
    (hC : ∀ v w', (p.c i).P v w') (h1 : ∀ o ∈ p.old, o.k ≠ i) (h2 : ∀ n ∈ p.new, n.i ≠ i → n.k ≠ i) :
    StepQ os Q a p B B0 w0 i { dst := d, op := .buildSlice 74 1 #[(0, x)], type := ty, pos := ps, after := af, guard := none } := by
  intro hio L vs w hG hL hd hc
  have p1 := hx L vs w hG hd
  obtain ⟨m1, a1, k1, c1, m1', a1', k1', c1', e1, _⟩ := ratV_pair p1
  rw [e1] at p1
  obtain ⟨us, hus⟩ : ∃ us : List Value, us = [.bool m1, .slice a1 k1 c1, .bool m1', .slice a1' k1' c1'] := ⟨_, rfl⟩
  have hwn : Region.wanted ({ dst := d, op := .buildSlice 74 1 #[(0, x)], type := ty, pos := ps, after := af, guard := none } : Oper) (yielded os.toArray (lay os.toArray L vs os.toArray.size a).tmps) = true := rfl
  refine wpOp_step hio fun K' hK => ?_
  rw [if_pos hwn]
  have e : (execOp (lay os.toArray L vs os.toArray.size a).eval ({ dst := d, op := .buildSlice 74 1 #[(0, x)], type := ty, pos := ps, after := af, guard := none } : Oper)).run Tryz.prog w = .ok (.value (.slice (some ⟨w.heap.size, 0, none⟩) 1 1)) (w.alloc (.cells us.toArray 31)) := by
    generalize (lay os.toArray L vs os.toArray.size a).eval = ρ at e1
    simp [execOp, go_sem, e1, hus]
  unfold Oper.wp
  rw [e]
  have hb := alloc_below w (.cells us.toArray 31)
  subst hii
  have hnow : n0.now (up L n0.i true) = n0.F1 := by
    unfold Nb.now
    rw [hsl]
    rfl
  have hlay := hG.lay hp hi (F := n0.F1) hnow hC h1 h2 31 (us := us) (by rw [hus, hm]; rfl) (by omega) (by
      rw [hus]
      intro u hu q e
      simp at hu
      rcases hu with rfl | rfl | rfl | rfl <;> cases e) (by
      rw [hF1]
      refine ⟨us, rfl, by rw [hus]; rfl, fun k n d hk => ?_⟩
      match k, hk with
      | 0, hk => injection hk with hk; injection hk with q1 q2; subst q1; subst q2; have hm := p1.mono hb; rw [hus] at hm; rw [hus]; exact hm
      | k + 1, hk => simp at hk)
  have hptr : n0.ptr w.heap.size = .slice (some ⟨w.heap.size, 0, none⟩) 1 1 := by unfold Nb.ptr; rw [hsl]
  rw [hptr] at hlay
  exact hK _ _ ⟨_, rfl, hlay⟩

theorem q_buildRats2 {n0 : Nb} {x y : Operand} {n1 d1 n2 d2 : Int} (hp : p.Ok B B0) (hi : n0 ∈ p.new) (hii : n0.i = i) (hki : n0.k = i) (hsl : n0.s = some 2) (hm : n0.m = 8) (hF1 : n0.F1 = Fq.rats [(n1, d1), (n2, d2)])
    (hx : SrcQ os a p B B0 w0 af x fun v w => Pair w v n1 d1) (hy : SrcQ os a p B B0 w0 af y fun v w => Pair w v n2 d2)
    (hC : ∀ v w', (p.c i).P v w') (h1 : ∀ o ∈ p.old, o.k ≠ i) (h2 : ∀ n ∈ p.new, n.i ≠ i → n.k ≠ i) :
    StepQ os Q a p B B0 w0 i { dst := d, op := .buildSlice 74 2 #[(0, x), (1, y)], type := ty, pos := ps, after := af, guard := none } := by
  intro hio L vs w hG hL hd hc
  have p1 := hx L vs w hG hd
  obtain ⟨m1, a1, k1, c1, m1', a1', k1', c1', e1, _⟩ := ratV_pair p1
  rw [e1] at p1
  have p2 := hy L vs w hG hd
  obtain ⟨m2, a2, k2, c2, m2', a2', k2', c2', e2, _⟩ := ratV_pair p2
  rw [e2] at p2
  obtain ⟨us, hus⟩ : ∃ us : List Value, us = [.bool m1, .slice a1 k1 c1, .bool m1', .slice a1' k1' c1', .bool m2, .slice a2 k2 c2, .bool m2', .slice a2' k2' c2'] := ⟨_, rfl⟩
  have hwn : Region.wanted ({ dst := d, op := .buildSlice 74 2 #[(0, x), (1, y)], type := ty, pos := ps, after := af, guard := none } : Oper) (yielded os.toArray (lay os.toArray L vs os.toArray.size a).tmps) = true := rfl
  refine wpOp_step hio fun K' hK => ?_
  rw [if_pos hwn]
  have e : (execOp (lay os.toArray L vs os.toArray.size a).eval ({ dst := d, op := .buildSlice 74 2 #[(0, x), (1, y)], type := ty, pos := ps, after := af, guard := none } : Oper)).run Tryz.prog w = .ok (.value (.slice (some ⟨w.heap.size, 0, none⟩) 2 2)) (w.alloc (.cells us.toArray 31)) := by
    generalize (lay os.toArray L vs os.toArray.size a).eval = ρ at e1 e2
    simp [execOp, go_sem, e1, e2, hus]
  unfold Oper.wp
  rw [e]
  have hb := alloc_below w (.cells us.toArray 31)
  subst hii
  have hnow : n0.now (up L n0.i true) = n0.F1 := by
    unfold Nb.now
    rw [hsl]
    rfl
  have hlay := hG.lay hp hi (F := n0.F1) hnow hC h1 h2 31 (us := us) (by rw [hus, hm]; rfl) (by omega) (by
      rw [hus]
      intro u hu q e
      simp at hu
      rcases hu with rfl | rfl | rfl | rfl | rfl | rfl | rfl | rfl <;> cases e) (by
      rw [hF1]
      refine ⟨us, rfl, by rw [hus]; rfl, fun k n d hk => ?_⟩
      match k, hk with
      | 0, hk => injection hk with hk; injection hk with q1 q2; subst q1; subst q2; have hm := p1.mono hb; rw [hus] at hm; rw [hus]; exact hm
      | 1, hk => injection hk with hk; injection hk with q1 q2; subst q1; subst q2; have hm := p2.mono hb; rw [hus] at hm; rw [hus]; exact hm
      | k + 2, hk => simp at hk)
  have hptr : n0.ptr w.heap.size = .slice (some ⟨w.heap.size, 0, none⟩) 2 2 := by unfold Nb.ptr; rw [hsl]
  rw [hptr] at hlay
  exact hK _ _ ⟨_, rfl, hlay⟩

theorem q_buildRats3 {n0 : Nb} {x y z : Operand} {n1 d1 n2 d2 n3 d3 : Int} (hp : p.Ok B B0) (hi : n0 ∈ p.new) (hii : n0.i = i) (hki : n0.k = i) (hsl : n0.s = some 3) (hm : n0.m = 12) (hF1 : n0.F1 = Fq.rats [(n1, d1), (n2, d2), (n3, d3)])
    (hx : SrcQ os a p B B0 w0 af x fun v w => Pair w v n1 d1) (hy : SrcQ os a p B B0 w0 af y fun v w => Pair w v n2 d2) (hz : SrcQ os a p B B0 w0 af z fun v w => Pair w v n3 d3)
    (hC : ∀ v w', (p.c i).P v w') (h1 : ∀ o ∈ p.old, o.k ≠ i) (h2 : ∀ n ∈ p.new, n.i ≠ i → n.k ≠ i) :
    StepQ os Q a p B B0 w0 i { dst := d, op := .buildSlice 74 3 #[(0, x), (1, y), (2, z)], type := ty, pos := ps, after := af, guard := none } := by
  intro hio L vs w hG hL hd hc
  have p1 := hx L vs w hG hd
  obtain ⟨m1, a1, k1, c1, m1', a1', k1', c1', e1, _⟩ := ratV_pair p1
  rw [e1] at p1
  have p2 := hy L vs w hG hd
  obtain ⟨m2, a2, k2, c2, m2', a2', k2', c2', e2, _⟩ := ratV_pair p2
  rw [e2] at p2
  have p3 := hz L vs w hG hd
  obtain ⟨m3, a3, k3, c3, m3', a3', k3', c3', e3, _⟩ := ratV_pair p3
  rw [e3] at p3
  obtain ⟨us, hus⟩ : ∃ us : List Value, us = [.bool m1, .slice a1 k1 c1, .bool m1', .slice a1' k1' c1', .bool m2, .slice a2 k2 c2, .bool m2', .slice a2' k2' c2', .bool m3, .slice a3 k3 c3, .bool m3', .slice a3' k3' c3'] := ⟨_, rfl⟩
  have hwn : Region.wanted ({ dst := d, op := .buildSlice 74 3 #[(0, x), (1, y), (2, z)], type := ty, pos := ps, after := af, guard := none } : Oper) (yielded os.toArray (lay os.toArray L vs os.toArray.size a).tmps) = true := rfl
  refine wpOp_step hio fun K' hK => ?_
  rw [if_pos hwn]
  have e : (execOp (lay os.toArray L vs os.toArray.size a).eval ({ dst := d, op := .buildSlice 74 3 #[(0, x), (1, y), (2, z)], type := ty, pos := ps, after := af, guard := none } : Oper)).run Tryz.prog w = .ok (.value (.slice (some ⟨w.heap.size, 0, none⟩) 3 3)) (w.alloc (.cells us.toArray 31)) := by
    generalize (lay os.toArray L vs os.toArray.size a).eval = ρ at e1 e2 e3
    simp [execOp, go_sem, e1, e2, e3, hus]
  unfold Oper.wp
  rw [e]
  have hb := alloc_below w (.cells us.toArray 31)
  subst hii
  have hnow : n0.now (up L n0.i true) = n0.F1 := by
    unfold Nb.now
    rw [hsl]
    rfl
  have hlay := hG.lay hp hi (F := n0.F1) hnow hC h1 h2 31 (us := us) (by rw [hus, hm]; rfl) (by omega) (by
      rw [hus]
      intro u hu q e
      simp at hu
      rcases hu with rfl | rfl | rfl | rfl | rfl | rfl | rfl | rfl | rfl | rfl | rfl | rfl <;> cases e) (by
      rw [hF1]
      refine ⟨us, rfl, by rw [hus]; rfl, fun k n d hk => ?_⟩
      match k, hk with
      | 0, hk => injection hk with hk; injection hk with q1 q2; subst q1; subst q2; have hm := p1.mono hb; rw [hus] at hm; rw [hus]; exact hm
      | 1, hk => injection hk with hk; injection hk with q1 q2; subst q1; subst q2; have hm := p2.mono hb; rw [hus] at hm; rw [hus]; exact hm
      | 2, hk => injection hk with hk; injection hk with q1 q2; subst q1; subst q2; have hm := p3.mono hb; rw [hus] at hm; rw [hus]; exact hm
      | k + 3, hk => simp at hk)
  have hptr : n0.ptr w.heap.size = .slice (some ⟨w.heap.size, 0, none⟩) 3 3 := by unfold Nb.ptr; rw [hsl]
  rw [hptr] at hlay
  exact hK _ _ ⟨_, rfl, hlay⟩

/-- A slice of a box from before is passed on. -/
theorem q_callSl {o : Ob} {x : Operand} {u : Value} {f : FuncId} {ts : Array TypeId} (hp : p.Ok B B0) (hF : p.Free i) (hg : GdQ os a p B B0 w0 af gd) (hen : ∀ args w, (callFunc f args).run Tryz.prog w = .ok (.enter f args) w) (ho : o ∈ p.old) (hk : o.F1 = o.F0)
    (hx : SrcQ os a p B B0 w0 af x fun v _ => v = u) (hC : ∀ w, Bq w o.b o.m o.F0 → Calls Tryz.prog f #[u] w fun e w' => ∃ v', e = .returned v' ∧ Below w.heap.size w w' ∧ (p.c i).P v' w') :
    StepQ os Q a p B B0 w0 i { dst := d, op := .call { callee := .value (.func f), args := #[x], argTypes := ts }, type := ty, pos := ps, after := af, guard := gd } :=
  stq_call hp hF hg hen fun L vs w hG hd => ⟨#[(lay os.toArray L vs os.toArray.size a).eval x], by simp, by
    have hb := hG.old o ho
    rw [hk] at hb
    rw [hx L vs w hG hd]
    exact hC w (by simpa using hb)⟩

/-- A slice of the region is passed on behind another value. -/
theorem q_callPSl {n0 : Nb} {x y : Operand} {l : Nat} {F : Value → World → Prop} {f : FuncId} {ts : Array TypeId} (hp : p.Ok B B0) (hF : p.Free i) (hg : GdQ os a p B B0 w0 af gd) (hen : ∀ args w, (callFunc f args).run Tryz.prog w = .ok (.enter f args) w) (hi : n0 ∈ p.new) (hsl : n0.s = some l)
    (hx : SrcQ os a p B B0 w0 af x F) (hy : ∀ L vs w, p.G B B0 w0 L vs w → (∀ e ∈ af, Region.binds .any e = true → L e.on = true) → L n0.i = true ∧ (lay os.toArray L vs os.toArray.size a).eval y = vs n0.i)
    (hC : ∀ v b w, F v w → Bq w b n0.m n0.F1 → Calls Tryz.prog f #[v, .slice (some ⟨b, 0, none⟩) l l] w fun e w' => ∃ v', e = .returned v' ∧ Below w.heap.size w w' ∧ (p.c i).P v' w') :
    StepQ os Q a p B B0 w0 i { dst := d, op := .call { callee := .value (.func f), args := #[x, y], argTypes := ts }, type := ty, pos := ps, after := af, guard := gd } :=
  stq_call hp hF hg hen fun L vs w hG hd => by
    obtain ⟨hLi, hye⟩ := hy L vs w hG hd
    obtain ⟨b, e1, _, hb⟩ := hG.new _ hi hLi
    have hptr : n0.ptr b = .slice (some ⟨b, 0, none⟩) l l := by unfold Nb.ptr; rw [hsl]
    have hnow : n0.now L = n0.F1 := by
      unfold Nb.now
      rw [hsl]
      rfl
    rw [hnow] at hb
    refine ⟨#[(lay os.toArray L vs os.toArray.size a).eval x, .slice (some ⟨b, 0, none⟩) l l], ?_, hC _ b w (hx L vs w hG hd) hb⟩
    have hm : #[x, y].map (lay os.toArray L vs os.toArray.size a).eval = #[(lay os.toArray L vs os.toArray.size a).eval x, (lay os.toArray L vs os.toArray.size a).eval y] := by
      generalize (lay os.toArray L vs os.toArray.size a).eval = ρ
      simp
    rw [hm, hye, e1, hptr]

/-- A fraction out of a box that was there before the call. -/
theorem q_loadRatOut {b m off : Nat} {F : Fq} {x : Operand} (hp : p.Ok B B0) (hF : p.Free i) (hg : GdQ os a p B B0 w0 af gd) (hb : Bq w0 b m F) (hB : B = w0.heap.size) (hoff : off + 4 ≤ m)
    (hx : SrcQ os a p B B0 w0 af x fun u _ => u = .pointer (some ⟨b, off, none⟩)) (hC : ∀ (us : List Value) (w : World), us.length = m → F.P (.agg us.toArray) w → (p.c i).P (.agg #[us.getD off undef, us.getD (off + 1) undef, us.getD (off + 2) undef, us.getD (off + 3) undef]) w) :
    StepQ os Q a p B B0 w0 i { dst := d, op := .load 31 x, type := ty, pos := ps, after := af, guard := gd } := by
  subst hB
  refine stq_val hp hF hg fun L vs w hG hL hc hd => ?_
  obtain ⟨us, hl, h0, hat, ht, hP⟩ := hb.mono hG.below
  have e := hx L vs w hG hd
  have c0 := (hat off (by omega)).1
  have c1 := (hat (off + 1) (by omega)).1
  have c2 := (hat (off + 2) (by omega)).1
  have c3 := (hat (off + 3) (by omega)).1
  refine ⟨_, ?_, hC us w hl hP⟩
  generalize (lay os.toArray L vs os.toArray.size a).eval = ρ at e
  generalize us.getD off undef = u0 at c0 ⊢
  generalize us.getD (off + 1) undef = u1 at c1 ⊢
  generalize us.getD (off + 2) undef = u2 at c2 ⊢
  generalize us.getD (off + 3) undef = u3 at c3 ⊢
  simp [execOp, go_sem, e, c0, c1, c2, c3]

end

end Go.Proofs.YtoimphnhmpmipaaGreat

/- Walks: a fraction copied. -/
namespace Go.Proofs.YtoimphnhmpmipaaGreat
open Go Go.RowKit

set_option maxRecDepth 100000 in
set_option maxHeartbeats 1000000 in
theorem exClone (w : World) (ao : Option Addr) (k c : Nat) (xs : List Int) (hS : Sl w ao k c xs) (hk : k ≤ 900000) : Calls Tryz.prog 112 #[.slice ao k c] w fun e w' => ∃ ao' c', e = .returned (.slice ao' k c') ∧ Below w.heap.size w w' ∧ Sl w' ao' k c' xs := by
  have hk' : k ≤ 1000000 := by omega
  have hx := run_eql_slice_nil (P := Tryz.prog) w 22 79 ao k c Tryz.underlying22
  cases ao with
  | none =>
    have h0 : k = 0 ∧ xs = [] := by
      have h1 := hS.len
      rcases hS with ⟨_, _, _, h | ⟨b, off, h, _⟩⟩
      · rw [h] at h1
        exact ⟨by simpa using h1.symm, h⟩
      · cases h
    obtain ⟨rfl, rfl⟩ := h0
    simp only [Option.isNone_none] at hx
    go_enter Tryz.func112, Tryz.ntmps112
    go_wp2
    go_ret
    exact ⟨none, 0, rfl, Below.refl _ _, Sl.nil w⟩
  | some a =>
    simp only [Option.isNone_some] at hx
    go_enter Tryz.func112, Tryz.ntmps112
    go_wp2_with (at_builtin; refine wpList_copy_arg _ rfl _ _ rfl _ (some a) k c xs rfl rfl (hS.mono (alloc_below _ _)) hk' ?_; intro ar cr w1 hb1 hS1 hM1)
    have hb := (alloc_below w (.cells #[] 79)).trans (hb1.mono (alloc_below w (.cells #[] 79)).size)
    go_wp2
    go_ret
    exact ⟨ar, cr, rfl, hb, hS1⟩

end Go.Proofs.YtoimphnhmpmipaaGreat
