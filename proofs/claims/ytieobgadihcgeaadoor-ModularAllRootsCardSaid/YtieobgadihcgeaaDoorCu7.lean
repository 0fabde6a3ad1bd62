/- Of. -/
import Derived.Test.YtieobgadihcgeaaDoorCu6
/- Walk of the law of all roots. -/
namespace Go.Proofs.YtieobgadihcgeaaDoor
open Go Go.RowKit

theorem exMRoots {w : World} {v v' : Value} {a p k : Int} (h : Num w v a) (h' : Num w v' p) (ha : ab a < pw 90) (hm : ab p < pw 90) (hk : -9223372036854775808 ≤ k ∧ k ≤ 9223372036854775807) :
    Calls Tryd.prog 28 #[v, v', .int .i64 k] w fun e w' => ∃ v', e = .returned v' ∧ Below w.heap.size w w' ∧ ∃ l, v' = .tuple #[l, .int .i64 (rinE p k)] ∧ Nums w' l (rinL a p k) := by
  unfold rinE rinL
  by_cases h0 : p < 2 ∨ k < 1
  · rw [if_pos h0, if_pos h0]; exact exMRootsZ h h' ha hm hk h0
  · rw [if_neg h0, if_neg h0]
    by_cases h1 : p ^ k.toNat ≤ 1048576
    · rw [if_pos h1, if_pos h1, ← lifts_rootsB (by omega)]; exact exMRootsP h h' ha hm hk (by omega) (by omega) h1
    · rw [if_neg h1, if_neg h1]; exact exMRootsB h h' ha hm hk (by omega) (by omega) (fun _ => h1)
theorem tmod64 {q : Int} : -64 < Int.tmod q 64 ∧ Int.tmod q 64 < 64 := by
  rcases Int.le_total 0 q with h | h
  · rw [Int.tmod_eq_emod_of_nonneg h]; omega
  · have e : Int.tmod q 64 = -((-q) % 64) := by
      rw [← Int.tmod_eq_emod_of_nonneg (by omega), Int.neg_tmod, Int.neg_neg]
    rw [e]; omega
set_option maxRecDepth 100000 in
set_option maxHeartbeats 4000000 in
theorem ModularAllRoots_any (w : World) (hT : Tabs w) (n1 : Bool) (a1 : Option Addr) (k1 c1 : Nat) (xs1 : List Int) (h1 : Sl w a1 k1 c1 xs1) (hk1 : k1 ≤ 9223372036854775807) (q : Int) (hlq : -32768 ≤ q) (hhq : q ≤ 32767) (k : Int) (hlk : -9223372036854775808 ≤ k) (hhk : k ≤ 9223372036854775807) :
    Calls Tryd.prog 7 #[.agg #[.bool n1, .slice a1 k1 c1], .int .i16 q, .int .i64 k] w fun e w' => e = .returned (.bool true) ∧ Below w.heap.size w w' := by
  replace hT := hidd hT
  obtain ⟨a, ha⟩ : ∃ a, a = sgn n1 (val (xs1.take 2)) := ⟨_, rfl⟩
  have Ba : Hid (ab a < pw 2) := by rw [ha]; exact Num.ofMade h1.digs
  have Ha := hidd ha
  have K1 := hidd hk1
  clear ha hk1
  obtain ⟨w1, b1, hw1, hb1, hs1, E⟩ := fr_start w (F := Fq.raw n1 a1 k1 c1 xs1) (us := [.bool n1, .slice a1 k1 c1]) 24 rfl (by simp) (tame_int _ _ _ _) (show (Fq.raw n1 a1 k1 c1 xs1).P _ w from ⟨rfl, h1⟩)
  go_enter Tryd.func7, Tryd.ntmps7
  go_upto_region 1 with (fail)
  rw [← hw1]
  rw [← hb1]
  clear hw1 hb1 hs1
  obtain ⟨N, hN⟩ : ∃ N, N = Int.tmod q 64 := ⟨_, rfl⟩
  have hn := tmod64 (q := q)
  rw [← hN] at hn
  have RN := hidd hn
  have EN : Hid (Int.tmod q 64 = N) := hN.symm
  have EQ : Hid (IntKind.i64.wrap q = q) := IntWalk.i64_in _ (by omega)
  have HK := hidd (And.intro hlk hhk)
  have BN : Hid (ab N < pw 3) := small3 (by omega)
  clear hN hn hlq hhq hlk hhk
  refine region_fr (C := [Fq.is (.bool true), Fq.is (.bool true)]) (ks := [none]) (new := []) E rfl (by kernel_rfl) rfl rfl (fun hp => ⟨?_, ?_, trivial⟩) ?_
  · exact q_call0W hp (free_of rfl) trivial (enq_V_examples) rfl (fun w hbw => exVExamples (hT.out.mono hbw))
  · exact q_assign hp (free_of rfl) trivial (sq_in 0 rfl rfl (by simp) rfl (fun v w h => h))
  intro L vs w2 nb hL hC hn E2
  have e0 : vs 0 = .bool true := hC 0 (by simp)
  have e1 : vs 1 = .bool true := hC 1 (by simp)
  have E : Fr w [(b1, 2, Fq.raw n1 a1 k1 c1 xs1)] w2 := E2
  rw [lay_all hL]
  simp only [putAll, dstOf, List.length_cons, List.length_nil, Nat.zero_add, Nat.reduceAdd, List.getElem?_toArray, List.getElem?_cons_zero, List.getElem?_cons_succ, Option.bind_some, Act.put, List.setIfInBounds_toArray, List.set_cons_succ, List.set_cons_zero]
  rw [e0, e1]
  clear e0 e1 hC hn E2 hL vs L nb
  go_upto_region 2 with (fail)
  refine region_fr (C := [Fq.is (.bool true), Fq.is (.bool false)]) (ks := [none]) (new := []) E rfl (by kernel_rfl) rfl rfl (fun hp => ⟨?_, ?_, trivial⟩) ?_
  · exact q_move hp (free_of rfl) trivial (sq_out (s := 7) rfl rfl (fun _ _ => rfl))
  · exact q_one (F := fun v _ => v = .bool true) hp (free_of rfl) trivial (sq_in 0 rfl rfl (by simp) rfl (fun v w h => h)) (fun ρ w _ h => ⟨.bool false, by simp [execOp, go_sem, h], rfl⟩)
  intro L vs w3 nb hL hC hn E3
  have e0 : vs 0 = .bool true := hC 0 (by simp)
  have e1 : vs 1 = .bool false := hC 1 (by simp)
  have E : Fr w [(b1, 2, Fq.raw n1 a1 k1 c1 xs1)] w3 := E3
  rw [lay_all hL]
  simp only [putAll, dstOf, List.length_cons, List.length_nil, Nat.zero_add, Nat.reduceAdd, List.getElem?_toArray, List.getElem?_cons_zero, List.getElem?_cons_succ, Option.bind_some, Act.put, List.setIfInBounds_toArray, List.set_cons_succ, List.set_cons_zero]
  rw [e0, e1]
  clear e0 e1 hC hn E3 hL vs L nb
  go_upto_region 4 with (fail)
  refine region_fr (C := [Fq.raw n1 a1 k1 c1 xs1, Fq.num a, Fq.any, Fq.any]) (ks := [none]) (new := [⟨2, 3, 2, Fq.num 0, Fq.num a, none⟩]) E rfl (by kernel_rfl) rfl rfl (fun hp => ⟨?_, ?_, ?_, ?_, trivial⟩) ?_
  · exact q_loadRaw (off := 0) hp (free_of rfl) trivial (List.mem_iff_getElem?.2 ⟨0, rfl⟩) (.inl rfl) (Nat.le_of_ble_eq_true rfl) (sq_out (s := 3) rfl rfl (fun _ _ => rfl)) (fun us w hl h => ld_raw hl h)
  · exact q_call2 (F := (Fq.raw n1 a1 k1 c1 xs1).P) (G := (Fq.is (.int .i64 2)).P) hp (free_of rfl) trivial (enq_R_Made) (sq_in 0 rfl rfl (by simp) rfl (fun v w h => h)) (sq_const (fun _ => rfl)) (fun v v' w h h' => (by rw [Ha.out]; exact exRMade (j := 2) h h' K1.out (by omega)))
  · exact q_allocInt hp (List.mem_iff_getElem?.2 ⟨0, rfl⟩) rfl rfl rfl rfl (Nat.ne_of_beq_eq_false rfl) (fun _ _ => trivial) (old_ne rfl) (newk_ne rfl) (fun w => Num.zero w)
  · exact q_storeNewInt hp (List.mem_iff_getElem?.2 ⟨0, rfl⟩) rfl rfl rfl (own_ptr rfl rfl (by simp) rfl) (sq_in 1 rfl rfl (by simp) rfl (fun v w h => intV_num h)) (fun _ _ => trivial) (old_ne rfl) (newi_ne rfl)
  intro L vs w4 nb hL hC hn E4
  have e2 : vs 2 = .pointer (some ⟨nb 2, 0, none⟩) := hn _ (List.mem_iff_getElem?.2 ⟨0, rfl⟩)
  have E : Fr w [(nb 2, 2, Fq.num a), (b1, 2, Fq.raw n1 a1 k1 c1 xs1)] w4 := E4
  rw [lay_all hL]
  simp only [putAll, dstOf, List.length_cons, List.length_nil, Nat.zero_add, Nat.reduceAdd, List.getElem?_toArray, List.getElem?_cons_zero, List.getElem?_cons_succ, Option.bind_some, Act.put, List.setIfInBounds_toArray, List.set_cons_succ, List.set_cons_zero]
  rw [e2]
  generalize nb 2 = b4_2 at E ⊢
  generalize vs 0 = u4_0
  generalize vs 1 = u4_1
  clear e2 hC hn E4 hL vs L nb
  go_upto_region 5 with (fail)
  refine region_fr (C := [Fq.is (.int .i16 q), Fq.is (.int .i64 q), Fq.is (.int .i64 N), Fq.is (.int .i64 N)]) (ks := [none, none]) (new := []) E rfl (by kernel_rfl) rfl rfl (fun hp => ⟨?_, ?_, ?_, ?_, trivial⟩) ?_
  · exact q_move hp (free_of rfl) trivial (sq_out (s := 1) rfl rfl (fun _ _ => rfl))
  · exact q_one (F := fun v _ => v = .int .i16 q) hp (free_of rfl) trivial (sq_in 0 rfl rfl (by simp) rfl (fun v w h => h)) (fun ρ w hc h => ⟨.int .i64 q, by simp [execOp, go_sem, h, EQ.out], rfl⟩)
  · exact q_one (F := fun v _ => v = .int .i64 q) hp (free_of rfl) trivial (sq_in 1 rfl rfl (by simp) rfl (fun v w h => h)) (fun ρ w hc h => ⟨.int .i64 N, by simp [execOp, go_sem, h, hc, EN.out], rfl⟩)
  · exact q_assign hp (free_of rfl) trivial (sq_in 2 rfl rfl (by simp) rfl (fun v w h => h))
  intro L vs w5 nb hL hC hn E5
  have e0 : vs 0 = .int .i16 q := hC 0 (by simp)
  have e1 : vs 1 = .int .i64 q := hC 1 (by simp)
  have e2 : vs 2 = .int .i64 N := hC 2 (by simp)
  have e3 : vs 3 = .int .i64 N := hC 3 (by simp)
  have E : Fr w [(b4_2, 2, Fq.num a), (b1, 2, Fq.raw n1 a1 k1 c1 xs1)] w5 := E5
  rw [lay_all hL]
  simp only [putAll, dstOf, List.length_cons, List.length_nil, Nat.zero_add, Nat.reduceAdd, List.getElem?_toArray, List.getElem?_cons_zero, List.getElem?_cons_succ, Option.bind_some, Act.put, List.setIfInBounds_toArray, List.set_cons_succ, List.set_cons_zero]
  rw [e0, e1, e2, e3]
  clear e0 e1 e2 e3 hC hn E5 hL vs L nb
  clear EQ EN
  obtain ⟨tb, htb⟩ : ∃ tb, tb = decide (2 ≤ N) := ⟨_, rfl⟩
  have HTB : Hid (decide (2 ≤ N) = tb) := htb.symm
  clear htb
  go_upto_region 6 with (fail)
  refine region_fr (C := [Fq.is (.int .i64 N), Fq.is (.bool tb)]) (ks := [none, none]) (new := []) E rfl (by kernel_rfl) rfl rfl (fun hp => ⟨?_, ?_, trivial⟩) ?_
  · exact q_move hp (free_of rfl) trivial (sq_out (s := 9) rfl rfl (fun _ _ => rfl))
  · exact q_one (F := fun v _ => v = .int .i64 N) hp (free_of rfl) trivial (sq_in 0 rfl rfl (by simp) rfl (fun v w h => h)) (fun ρ w hc h => ⟨.bool tb, by simp [execOp, go_sem, h, hc, HTB.out], rfl⟩)
  intro L vs w6 nb hL hC hn E6
  have e0 : vs 0 = .int .i64 N := hC 0 (by simp)
  have e1 : vs 1 = .bool tb := hC 1 (by simp)
  have E : Fr w [(b4_2, 2, Fq.num a), (b1, 2, Fq.raw n1 a1 k1 c1 xs1)] w6 := E6
  rw [lay_all hL]
  simp only [putAll, dstOf, List.length_cons, List.length_nil, Nat.zero_add, Nat.reduceAdd, List.getElem?_toArray, List.getElem?_cons_zero, List.getElem?_cons_succ, Option.bind_some, Act.put, List.setIfInBounds_toArray, List.set_cons_succ, List.set_cons_zero]
  rw [e0, e1]
  clear e0 e1 hC hn E6 hL vs L nb
  clear HTB
  go_upto_if 24 with (fail)
  go_cut [2] from 10 (fun s W => (∃ k1 : Int, s = .int .i64 k1 ∧ -9223372036854775808 ≤ k1 ∧ k1 ≤ 9223372036854775807) ∧ Fr w [(b4_2, 2, Fq.num a), (b1, 2, Fq.raw n1 a1 k1 c1 xs1)] W)
  case first =>
    cases tb
    · go_wp2_with (fail)
      go_meet
      case rel => exact ⟨⟨_, rfl, HK.out.1, HK.out.2⟩, E⟩
    · have HS := hidd E
      clear E
      go_upto_region 9 with (fail)
      go_loopw [10, 11] (fun vm vi W => ∃ (M : Int) (i : Nat), vm = .int .i64 M ∧ vi = .int .i64 (i : Int) ∧ i ≤ 30 ∧ Fr w [(b4_2, 2, Fq.num a), (b1, 2, Fq.raw n1 a1 k1 c1 xs1)] W) (fun _ vi _ => 30 - (intOf vi).toNat)
      case atStart => exact ⟨1, 0, rfl, rfl, by omega, HS.out⟩
      case round =>
        obtain ⟨M, i, rfl, rfl, hi, E⟩ := hrel
        have HI := hidd hi
        clear HS hi
        by_cases g1 : (i : Int) < k
        · by_cases g2 : (i : Int) < 30
          · by_cases g3 : M ≤ 1048576
            · have T1 := hidd g1
              have T2 := hidd g2
              have T3 := hidd g3
              clear g1 g2 g3
              go_upto_region 9 with (fail)
              refine region_fr (C := [Fq.is (.int .i64 (i : Int)), Fq.is (.int .i64 k), Fq.is (.bool true), Fq.is (.bool true), Fq.is (.int .i64 (i : Int)), Fq.is (.bool true), Fq.is (.bool true), Fq.is (.bool true), Fq.is (.int .i64 M), Fq.is (.bool true), Fq.is (.bool true)]) (ks := [none, none]) (new := []) E rfl (by kernel_rfl) rfl rfl (fun hp => ⟨?_, ?_, ?_, ?_, ?_, ?_, ?_, ?_, ?_, ?_, ?_, trivial⟩) ?_
              · exact q_move hp (free_of rfl) trivial (sq_out (s := 11) rfl rfl (fun _ _ => rfl))
              · exact q_move hp (free_of rfl) trivial (sq_out (s := 2) rfl rfl (fun _ _ => rfl))
              · exact q_two (F := fun v _ => v = .int .i64 (i : Int)) (G := fun v _ => v = .int .i64 k) hp (free_of rfl) trivial (sq_in 0 rfl rfl (by simp) rfl (fun v w h => h)) (sq_in 1 rfl rfl (by simp) rfl (fun v w h => h)) (fun ρ w hc h h' => ⟨.bool true, by simp [execOp, go_sem, h, h', T1.out], rfl⟩)
              · exact q_move hp (free_of rfl) trivial (sq_in 2 rfl rfl (by simp) rfl (fun v w h => h))
              · exact q_move hp (free_of rfl) (gq_some rfl rfl (by simp) rfl (fun v w h => h)) (sq_out (s := 11) rfl rfl (fun _ _ => rfl))
              · exact q_one (F := fun v _ => v = .int .i64 (i : Int)) hp (free_of rfl) (gq_some rfl rfl (by simp) rfl (fun v w h => h)) (sq_in 4 rfl rfl (by simp) rfl (fun v w h => h)) (fun ρ w hc h => ⟨.bool true, by simp [execOp, go_sem, h, hc, T2.out], rfl⟩)
              · exact q_two (F := fun v _ => v = .bool true) (G := fun v _ => v = .bool true) hp (free_of rfl) trivial (sq_in 3 rfl rfl (by simp) rfl (fun v w h => h)) (sq_in 5 rfl rfl (by simp) rfl (fun v w h => h)) (fun ρ w hc h h' => ⟨_, by simp [execOp, go_sem, h, h'], rfl⟩)
              · exact q_move hp (free_of rfl) trivial (sq_in 6 rfl rfl (by simp) rfl (fun v w h => h))
              · exact q_move hp (free_of rfl) (gq_some rfl rfl (by simp) rfl (fun v w h => h)) (sq_out (s := 10) rfl rfl (fun _ _ => rfl))
              · exact q_one (F := fun v _ => v = .int .i64 M) hp (free_of rfl) (gq_some rfl rfl (by simp) rfl (fun v w h => h)) (sq_in 8 rfl rfl (by simp) rfl (fun v w h => h)) (fun ρ w hc h => ⟨.bool true, by simp [execOp, go_sem, h, hc, T3.out], rfl⟩)
              · exact q_two (F := fun v _ => v = .bool true) (G := fun v _ => v = .bool true) hp (free_of rfl) trivial (sq_in 7 rfl rfl (by simp) rfl (fun v w h => h)) (sq_in 9 rfl rfl (by simp) rfl (fun v w h => h)) (fun ρ w hc h h' => ⟨_, by simp [execOp, go_sem, h, h'], rfl⟩)
              intro L vs w7 nb hL hC hn E7
              have e0 : vs 0 = .int .i64 (i : Int) := hC 0 (by simp)
              have e1 : vs 1 = .int .i64 k := hC 1 (by simp)
              have e2 : vs 2 = .bool true := hC 2 (by simp)
              have e3 : vs 3 = .bool true := hC 3 (by simp)
              have e4 : vs 4 = .int .i64 (i : Int) := hC 4 (by simp)
              have e5 : vs 5 = .bool true := hC 5 (by simp)
              have e6 : vs 6 = .bool true := hC 6 (by simp)
              have e7 : vs 7 = .bool true := hC 7 (by simp)
              have e8 : vs 8 = .int .i64 M := hC 8 (by simp)
              have e9 : vs 9 = .bool true := hC 9 (by simp)
              have e10 : vs 10 = .bool true := hC 10 (by simp)
              have E : Fr w [(b4_2, 2, Fq.num a), (b1, 2, Fq.raw n1 a1 k1 c1 xs1)] w7 := E7
              rw [lay_all hL]
              simp only [putAll, dstOf, List.length_cons, List.length_nil, Nat.zero_add, Nat.reduceAdd, List.getElem?_toArray, List.getElem?_cons_zero, List.getElem?_cons_succ, Option.bind_some, Act.put, List.setIfInBounds_toArray, List.set_cons_succ, List.set_cons_zero]
              rw [e0, e1, e2, e3, e4, e5, e6, e7, e8, e9, e10]
              clear e0 e1 e2 e3 e4 e5 e6 e7 e8 e9 e10 hC hn E7 hL vs L nb
              have hw : wrap64 ((i : Int) + 1) = (i : Int) + 1 := by have := HI.out; simp only [wrap64]; omega
              go_wp2
              go_roundw
              case rel => exact ⟨_, i + 1, rfl, by first | go_num | (rw [hw]; go_num), by have := T2.out; omega, E⟩
              case measure => have := T2.out; first | (rw [hw]; simp [intOf]; omega) | (simp [intOf]; omega)
            · have T1 := hidd g1
              have T2 := hidd g2
              have T3 := hidd g3
              clear g1 g2 g3
              go_upto_region 9 with (fail)
              refine region_fr (C := [Fq.is (.int .i64 (i : Int)), Fq.is (.int .i64 k), Fq.is (.bool true), Fq.is (.bool true), Fq.is (.int .i64 (i : Int)), Fq.is (.bool true), Fq.is (.bool true), Fq.is (.bool true), Fq.is (.int .i64 M), Fq.is (.bool false), Fq.is (.bool false)]) (ks := [none, none]) (new := []) E rfl (by kernel_rfl) rfl rfl (fun hp => ⟨?_, ?_, ?_, ?_, ?_, ?_, ?_, ?_, ?_, ?_, ?_, trivial⟩) ?_
              · exact q_move hp (free_of rfl) trivial (sq_out (s := 11) rfl rfl (fun _ _ => rfl))
              · exact q_move hp (free_of rfl) trivial (sq_out (s := 2) rfl rfl (fun _ _ => rfl))
              · exact q_two (F := fun v _ => v = .int .i64 (i : Int)) (G := fun v _ => v = .int .i64 k) hp (free_of rfl) trivial (sq_in 0 rfl rfl (by simp) rfl (fun v w h => h)) (sq_in 1 rfl rfl (by simp) rfl (fun v w h => h)) (fun ρ w hc h h' => ⟨.bool true, by simp [execOp, go_sem, h, h', T1.out], rfl⟩)
              · exact q_move hp (free_of rfl) trivial (sq_in 2 rfl rfl (by simp) rfl (fun v w h => h))
              · exact q_move hp (free_of rfl) (gq_some rfl rfl (by simp) rfl (fun v w h => h)) (sq_out (s := 11) rfl rfl (fun _ _ => rfl))
              · exact q_one (F := fun v _ => v = .int .i64 (i : Int)) hp (free_of rfl) (gq_some rfl rfl (by simp) rfl (fun v w h => h)) (sq_in 4 rfl rfl (by simp) rfl (fun v w h => h)) (fun ρ w hc h => ⟨.bool true, by simp [execOp, go_sem, h, hc, T2.out], rfl⟩)
              · exact q_two (F := fun v _ => v = .bool true) (G := fun v _ => v = .bool true) hp (free_of rfl) trivial (sq_in 3 rfl rfl (by simp) rfl (fun v w h => h)) (sq_in 5 rfl rfl (by simp) rfl (fun v w h => h)) (fun ρ w hc h h' => ⟨_, by simp [execOp, go_sem, h, h'], rfl⟩)
              · exact q_move hp (free_of rfl) trivial (sq_in 6 rfl rfl (by simp) rfl (fun v w h => h))
              · exact q_move hp (free_of rfl) (gq_some rfl rfl (by simp) rfl (fun v w h => h)) (sq_out (s := 10) rfl rfl (fun _ _ => rfl))
              · exact q_one (F := fun v _ => v = .int .i64 M) hp (free_of rfl) (gq_some rfl rfl (by simp) rfl (fun v w h => h)) (sq_in 8 rfl rfl (by simp) rfl (fun v w h => h)) (fun ρ w hc h => ⟨.bool false, by simp [execOp, go_sem, h, hc, T3.out], rfl⟩)
              · exact q_two (F := fun v _ => v = .bool true) (G := fun v _ => v = .bool false) hp (free_of rfl) trivial (sq_in 7 rfl rfl (by simp) rfl (fun v w h => h)) (sq_in 9 rfl rfl (by simp) rfl (fun v w h => h)) (fun ρ w hc h h' => ⟨_, by simp [execOp, go_sem, h, h'], rfl⟩)
              intro L vs w8 nb hL hC hn E8
              have e0 : vs 0 = .int .i64 (i : Int) := hC 0 (by simp)
              have e1 : vs 1 = .int .i64 k := hC 1 (by simp)
              have e2 : vs 2 = .bool true := hC 2 (by simp)
              have e3 : vs 3 = .bool true := hC 3 (by simp)
              have e4 : vs 4 = .int .i64 (i : Int) := hC 4 (by simp)
              have e5 : vs 5 = .bool true := hC 5 (by simp)
              have e6 : vs 6 = .bool true := hC 6 (by simp)
              have e7 : vs 7 = .bool true := hC 7 (by simp)
              have e8 : vs 8 = .int .i64 M := hC 8 (by simp)
              have e9 : vs 9 = .bool false := hC 9 (by simp)
              have e10 : vs 10 = .bool false := hC 10 (by simp)
              have E : Fr w [(b4_2, 2, Fq.num a), (b1, 2, Fq.raw n1 a1 k1 c1 xs1)] w8 := E8
              rw [lay_all hL]
              simp only [putAll, dstOf, List.length_cons, List.length_nil, Nat.zero_add, Nat.reduceAdd, List.getElem?_toArray, List.getElem?_cons_zero, List.getElem?_cons_succ, Option.bind_some, Act.put, List.setIfInBounds_toArray, List.set_cons_succ, List.set_cons_zero]
              rw [e0, e1, e2, e3, e4, e5, e6, e7, e8, e9, e10]
              clear e0 e1 e2 e3 e4 e5 e6 e7 e8 e9 e10 hC hn E8 hL vs L nb
              clear T1 T2 T3
              by_cases h4 : M > 4096
              · by_cases h5 : M ≤ 1048576
                · have T4 := hidd h4
                  have T5 := hidd h5
                  clear h4 h5
                  go_upto_region 12 with (fail)
                  refine region_fr (C := [Fq.is (.int .i64 M), Fq.is (.bool true), Fq.is (.bool true), Fq.is (.int .i64 M), Fq.is (.bool true), Fq.is (.bool true)]) (ks := [none, none]) (new := []) E rfl (by kernel_rfl) rfl rfl (fun hp => ⟨?_, ?_, ?_, ?_, ?_, ?_, trivial⟩) ?_
                  · exact q_move hp (free_of rfl) trivial (sq_out (s := 10) rfl rfl (fun _ _ => rfl))
                  · exact q_one (F := fun v _ => v = .int .i64 M) hp (free_of rfl) trivial (sq_in 0 rfl rfl (by simp) rfl (fun v w h => h)) (fun ρ w hc h => ⟨.bool true, by simp [execOp, go_sem, h, hc, T4.out], rfl⟩)
                  · exact q_move hp (free_of rfl) trivial (sq_in 1 rfl rfl (by simp) rfl (fun v w h => h))
                  · exact q_move hp (free_of rfl) (gq_some rfl rfl (by simp) rfl (fun v w h => h)) (sq_out (s := 10) rfl rfl (fun _ _ => rfl))
                  · exact q_one (F := fun v _ => v = .int .i64 M) hp (free_of rfl) (gq_some rfl rfl (by simp) rfl (fun v w h => h)) (sq_in 3 rfl rfl (by simp) rfl (fun v w h => h)) (fun ρ w hc h => ⟨.bool true, by simp [execOp, go_sem, h, hc, T5.out], rfl⟩)
                  · exact q_two (F := fun v _ => v = .bool true) (G := fun v _ => v = .bool true) hp (free_of rfl) trivial (sq_in 2 rfl rfl (by simp) rfl (fun v w h => h)) (sq_in 4 rfl rfl (by simp) rfl (fun v w h => h)) (fun ρ w hc h h' => ⟨_, by simp [execOp, go_sem, h, h'], rfl⟩)
                  intro L vs w9 nb hL hC hn E9
                  have e0 : vs 0 = .int .i64 M := hC 0 (by simp)
                  have e1 : vs 1 = .bool true := hC 1 (by simp)
                  have e2 : vs 2 = .bool true := hC 2 (by simp)
                  have e3 : vs 3 = .int .i64 M := hC 3 (by simp)
                  have e4 : vs 4 = .bool true := hC 4 (by simp)
                  have e5 : vs 5 = .bool true := hC 5 (by simp)
                  have E : Fr w [(b4_2, 2, Fq.num a), (b1, 2, Fq.raw n1 a1 k1 c1 xs1)] w9 := E9
                  rw [lay_all hL]
                  simp only [putAll, dstOf, List.length_cons, List.length_nil, Nat.zero_add, Nat.reduceAdd, List.getElem?_toArray, List.getElem?_cons_zero, List.getElem?_cons_succ, Option.bind_some, Act.put, List.setIfInBounds_toArray, List.set_cons_succ, List.set_cons_zero]
                  rw [e0, e1, e2, e3, e4, e5]
                  clear e0 e1 e2 e3 e4 e5 hC hn E9 hL vs L nb
                  go_upto_region 13 with (fail)
                  refine region_fr (C := [Fq.is (.int .i64 1)]) (ks := [none, none]) (new := []) E rfl (by kernel_rfl) rfl rfl (fun hp => ⟨?_, trivial⟩) ?_
                  · exact q_assign hp (free_of rfl) trivial (sq_const (fun _ => rfl))
                  intro L vs w10 nb hL hC hn E10
                  have e0 : vs 0 = .int .i64 1 := hC 0 (by simp)
                  have E : Fr w [(b4_2, 2, Fq.num a), (b1, 2, Fq.raw n1 a1 k1 c1 xs1)] w10 := E10
                  rw [lay_all hL]
                  simp only [putAll, dstOf, List.length_cons, List.length_nil, Nat.zero_add, List.getElem?_toArray, List.getElem?_cons_zero, Option.bind_some, Act.put, List.setIfInBounds_toArray, List.set_cons_succ, List.set_cons_zero]
                  rw [e0]
                  clear e0 hC hn E10 hL vs L nb
                  clear T4 T5
                  go_wp2_with (fail)
                  go_meet
                  case rel => exact ⟨⟨_, rfl, by omega, by omega⟩, E⟩
                · have T4 := hidd h4
                  have T5 := hidd h5
                  clear h4 h5
                  go_upto_region 12 with (fail)
                  refine region_fr (C := [Fq.is (.int .i64 M), Fq.is (.bool true), Fq.is (.bool true), Fq.is (.int .i64 M), Fq.is (.bool false), Fq.is (.bool false)]) (ks := [none, none]) (new := []) E rfl (by kernel_rfl) rfl rfl (fun hp => ⟨?_, ?_, ?_, ?_, ?_, ?_, trivial⟩) ?_
                  · exact q_move hp (free_of rfl) trivial (sq_out (s := 10) rfl rfl (fun _ _ => rfl))
                  · exact q_one (F := fun v _ => v = .int .i64 M) hp (free_of rfl) trivial (sq_in 0 rfl rfl (by simp) rfl (fun v w h => h)) (fun ρ w hc h => ⟨.bool true, by simp [execOp, go_sem, h, hc, T4.out], rfl⟩)
                  · exact q_move hp (free_of rfl) trivial (sq_in 1 rfl rfl (by simp) rfl (fun v w h => h))
                  · exact q_move hp (free_of rfl) (gq_some rfl rfl (by simp) rfl (fun v w h => h)) (sq_out (s := 10) rfl rfl (fun _ _ => rfl))
                  · exact q_one (F := fun v _ => v = .int .i64 M) hp (free_of rfl) (gq_some rfl rfl (by simp) rfl (fun v w h => h)) (sq_in 3 rfl rfl (by simp) rfl (fun v w h => h)) (fun ρ w hc h => ⟨.bool false, by simp [execOp, go_sem, h, hc, T5.out], rfl⟩)
                  · exact q_two (F := fun v _ => v = .bool true) (G := fun v _ => v = .bool false) hp (free_of rfl) trivial (sq_in 2 rfl rfl (by simp) rfl (fun v w h => h)) (sq_in 4 rfl rfl (by simp) rfl (fun v w h => h)) (fun ρ w hc h h' => ⟨_, by simp [execOp, go_sem, h, h'], rfl⟩)
                  intro L vs w11 nb hL hC hn E11
                  have e0 : vs 0 = .int .i64 M := hC 0 (by simp)
                  have e1 : vs 1 = .bool true := hC 1 (by simp)
                  have e2 : vs 2 = .bool true := hC 2 (by simp)
                  have e3 : vs 3 = .int .i64 M := hC 3 (by simp)
                  have e4 : vs 4 = .bool false := hC 4 (by simp)
                  have e5 : vs 5 = .bool false := hC 5 (by simp)
                  have E : Fr w [(b4_2, 2, Fq.num a), (b1, 2, Fq.raw n1 a1 k1 c1 xs1)] w11 := E11
                  rw [lay_all hL]
                  simp only [putAll, dstOf, List.length_cons, List.length_nil, Nat.zero_add, Nat.reduceAdd, List.getElem?_toArray, List.getElem?_cons_zero, List.getElem?_cons_succ, Option.bind_some, Act.put, List.setIfInBounds_toArray, List.set_cons_succ, List.set_cons_zero]
                  rw [e0, e1, e2, e3, e4, e5]
                  clear e0 e1 e2 e3 e4 e5 hC hn E11 hL vs L nb
                  clear T4 T5
                  go_wp2_with (fail)
                  go_meet
                  case rel => exact ⟨⟨_, rfl, HK.out.1, HK.out.2⟩, E⟩
              · have T4 := hidd h4
                clear h4
                go_upto_region 12 with (fail)
                refine region_fr (C := [Fq.is (.int .i64 M), Fq.is (.bool false), Fq.is (.bool false), Fq.is (undef), Fq.is (undef), Fq.is (.bool false)]) (ks := [none, none]) (new := []) E rfl (by kernel_rfl) rfl rfl (fun hp => ⟨?_, ?_, ?_, ?_, ?_, ?_, trivial⟩) ?_
                · exact q_move hp (free_of rfl) trivial (sq_out (s := 10) rfl rfl (fun _ _ => rfl))
                · exact q_one (F := fun v _ => v = .int .i64 M) hp (free_of rfl) trivial (sq_in 0 rfl rfl (by simp) rfl (fun v w h => h)) (fun ρ w hc h => ⟨.bool false, by simp [execOp, go_sem, h, hc, T4.out], rfl⟩)
                · exact q_move hp (free_of rfl) trivial (sq_in 1 rfl rfl (by simp) rfl (fun v w h => h))
                · exact q_skip hp (free_of rfl) rfl (gq_some rfl rfl (by simp) rfl (fun v w h => h)) (fun _ => rfl)
                · exact q_skip hp (free_of rfl) rfl (gq_some rfl rfl (by simp) rfl (fun v w h => h)) (fun _ => rfl)
                · exact q_two (F := fun v _ => v = .bool false) (G := fun v _ => v = .bool false) hp (free_of rfl) trivial (sq_in 2 rfl rfl (by simp) rfl (fun v w h => h)) (sq_const (fun _ => rfl)) (fun ρ w hc h h' => ⟨_, by simp [execOp, go_sem, h, h'], rfl⟩)
                intro L vs w12 nb hL hC hn E12
                have e0 : vs 0 = .int .i64 M := hC 0 (by simp)
                have e1 : vs 1 = .bool false := hC 1 (by simp)
                have e2 : vs 2 = .bool false := hC 2 (by simp)
                have e3 : vs 3 = undef := hC 3 (by simp)
                have e4 : vs 4 = undef := hC 4 (by simp)
                have e5 : vs 5 = .bool false := hC 5 (by simp)
                have E : Fr w [(b4_2, 2, Fq.num a), (b1, 2, Fq.raw n1 a1 k1 c1 xs1)] w12 := E12
                rw [lay_all hL]
                simp only [putAll, dstOf, List.length_cons, List.length_nil, Nat.zero_add, Nat.reduceAdd, List.getElem?_toArray, List.getElem?_cons_zero, List.getElem?_cons_succ, Option.bind_some, Act.put, List.setIfInBounds_toArray, List.set_cons_succ, List.set_cons_zero]
                rw [e0, e1, e2, e3, e4, e5]
                clear e0 e1 e2 e3 e4 e5 hC hn E12 hL vs L nb
                clear T4
                go_wp2_with (fail)
                go_meet
                case rel => exact ⟨⟨_, rfl, HK.out.1, HK.out.2⟩, E⟩
          · have T1 := hidd g1
            have T2 := hidd g2
            clear g1 g2
            go_upto_region 9 with (fail)
            refine region_fr (C := [Fq.is (.int .i64 (i : Int)), Fq.is (.int .i64 k), Fq.is (.bool true), Fq.is (.bool true), Fq.is (.int .i64 (i : Int)), Fq.is (.bool false), Fq.is (.bool false), Fq.is (.bool false), Fq.is (undef), Fq.is (undef), Fq.is (.bool false)]) (ks := [none, none]) (new := []) E rfl (by kernel_rfl) rfl rfl (fun hp => ⟨?_, ?_, ?_, ?_, ?_, ?_, ?_, ?_, ?_, ?_, ?_, trivial⟩) ?_
            · exact q_move hp (free_of rfl) trivial (sq_out (s := 11) rfl rfl (fun _ _ => rfl))
            · exact q_move hp (free_of rfl) trivial (sq_out (s := 2) rfl rfl (fun _ _ => rfl))
            · exact q_two (F := fun v _ => v = .int .i64 (i : Int)) (G := fun v _ => v = .int .i64 k) hp (free_of rfl) trivial (sq_in 0 rfl rfl (by simp) rfl (fun v w h => h)) (sq_in 1 rfl rfl (by simp) rfl (fun v w h => h)) (fun ρ w hc h h' => ⟨.bool true, by simp [execOp, go_sem, h, h', T1.out], rfl⟩)
            · exact q_move hp (free_of rfl) trivial (sq_in 2 rfl rfl (by simp) rfl (fun v w h => h))
            · exact q_move hp (free_of rfl) (gq_some rfl rfl (by simp) rfl (fun v w h => h)) (sq_out (s := 11) rfl rfl (fun _ _ => rfl))
            · exact q_one (F := fun v _ => v = .int .i64 (i : Int)) hp (free_of rfl) (gq_some rfl rfl (by simp) rfl (fun v w h => h)) (sq_in 4 rfl rfl (by simp) rfl (fun v w h => h)) (fun ρ w hc h => ⟨.bool false, by simp [execOp, go_sem, h, hc, T2.out], rfl⟩)
            · exact q_two (F := fun v _ => v = .bool true) (G := fun v _ => v = .bool false) hp (free_of rfl) trivial (sq_in 3 rfl rfl (by simp) rfl (fun v w h => h)) (sq_in 5 rfl rfl (by simp) rfl (fun v w h => h)) (fun ρ w hc h h' => ⟨_, by simp [execOp, go_sem, h, h'], rfl⟩)
            · exact q_move hp (free_of rfl) trivial (sq_in 6 rfl rfl (by simp) rfl (fun v w h => h))
            · exact q_skip hp (free_of rfl) rfl (gq_some rfl rfl (by simp) rfl (fun v w h => h)) (fun _ => rfl)
            · exact q_skip hp (free_of rfl) rfl (gq_some rfl rfl (by simp) rfl (fun v w h => h)) (fun _ => rfl)
            · exact q_two (F := fun v _ => v = .bool false) (G := fun v _ => v = .bool false) hp (free_of rfl) trivial (sq_in 7 rfl rfl (by simp) rfl (fun v w h => h)) (sq_const (fun _ => rfl)) (fun ρ w hc h h' => ⟨_, by simp [execOp, go_sem, h, h'], rfl⟩)
            intro L vs w13 nb hL hC hn E13
            have e0 : vs 0 = .int .i64 (i : Int) := hC 0 (by simp)
            have e1 : vs 1 = .int .i64 k := hC 1 (by simp)
            have e2 : vs 2 = .bool true := hC 2 (by simp)
            have e3 : vs 3 = .bool true := hC 3 (by simp)
            have e4 : vs 4 = .int .i64 (i : Int) := hC 4 (by simp)
            have e5 : vs 5 = .bool false := hC 5 (by simp)
            have e6 : vs 6 = .bool false := hC 6 (by simp)
            have e7 : vs 7 = .bool false := hC 7 (by simp)
            have e8 : vs 8 = undef := hC 8 (by simp)
            have e9 : vs 9 = undef := hC 9 (by simp)
            have e10 : vs 10 = .bool false := hC 10 (by simp)
            have E : Fr w [(b4_2, 2, Fq.num a), (b1, 2, Fq.raw n1 a1 k1 c1 xs1)] w13 := E13
            rw [lay_all hL]
            simp only [putAll, dstOf, List.length_cons, List.length_nil, Nat.zero_add, Nat.reduceAdd, List.getElem?_toArray, List.getElem?_cons_zero, List.getElem?_cons_succ, Option.bind_some, Act.put, List.setIfInBounds_toArray, List.set_cons_succ, List.set_cons_zero]
            rw [e0, e1, e2, e3, e4, e5, e6, e7, e8, e9, e10]
            clear e0 e1 e2 e3 e4 e5 e6 e7 e8 e9 e10 hC hn E13 hL vs L nb
            clear T1 T2
            by_cases h4 : M > 4096
            · by_cases h5 : M ≤ 1048576
              · have T4 := hidd h4
                have T5 := hidd h5
                clear h4 h5
                go_upto_region 12 with (fail)
                refine region_fr (C := [Fq.is (.int .i64 M), Fq.is (.bool true), Fq.is (.bool true), Fq.is (.int .i64 M), Fq.is (.bool true), Fq.is (.bool true)]) (ks := [none, none]) (new := []) E rfl (by kernel_rfl) rfl rfl (fun hp => ⟨?_, ?_, ?_, ?_, ?_, ?_, trivial⟩) ?_
                · exact q_move hp (free_of rfl) trivial (sq_out (s := 10) rfl rfl (fun _ _ => rfl))
                · exact q_one (F := fun v _ => v = .int .i64 M) hp (free_of rfl) trivial (sq_in 0 rfl rfl (by simp) rfl (fun v w h => h)) (fun ρ w hc h => ⟨.bool true, by simp [execOp, go_sem, h, hc, T4.out], rfl⟩)
                · exact q_move hp (free_of rfl) trivial (sq_in 1 rfl rfl (by simp) rfl (fun v w h => h))
                · exact q_move hp (free_of rfl) (gq_some rfl rfl (by simp) rfl (fun v w h => h)) (sq_out (s := 10) rfl rfl (fun _ _ => rfl))
                · exact q_one (F := fun v _ => v = .int .i64 M) hp (free_of rfl) (gq_some rfl rfl (by simp) rfl (fun v w h => h)) (sq_in 3 rfl rfl (by simp) rfl (fun v w h => h)) (fun ρ w hc h => ⟨.bool true, by simp [execOp, go_sem, h, hc, T5.out], rfl⟩)
                · exact q_two (F := fun v _ => v = .bool true) (G := fun v _ => v = .bool true) hp (free_of rfl) trivial (sq_in 2 rfl rfl (by simp) rfl (fun v w h => h)) (sq_in 4 rfl rfl (by simp) rfl (fun v w h => h)) (fun ρ w hc h h' => ⟨_, by simp [execOp, go_sem, h, h'], rfl⟩)
                intro L vs w14 nb hL hC hn E14
                have e0 : vs 0 = .int .i64 M := hC 0 (by simp)
                have e1 : vs 1 = .bool true := hC 1 (by simp)
                have e2 : vs 2 = .bool true := hC 2 (by simp)
                have e3 : vs 3 = .int .i64 M := hC 3 (by simp)
                have e4 : vs 4 = .bool true := hC 4 (by simp)
                have e5 : vs 5 = .bool true := hC 5 (by simp)
                have E : Fr w [(b4_2, 2, Fq.num a), (b1, 2, Fq.raw n1 a1 k1 c1 xs1)] w14 := E14
                rw [lay_all hL]
                simp only [putAll, dstOf, List.length_cons, List.length_nil, Nat.zero_add, Nat.reduceAdd, List.getElem?_toArray, List.getElem?_cons_zero, List.getElem?_cons_succ, Option.bind_some, Act.put, List.setIfInBounds_toArray, List.set_cons_succ, List.set_cons_zero]
                rw [e0, e1, e2, e3, e4, e5]
                clear e0 e1 e2 e3 e4 e5 hC hn E14 hL vs L nb
                go_upto_region 13 with (fail)
                refine region_fr (C := [Fq.is (.int .i64 1)]) (ks := [none, none]) (new := []) E rfl (by kernel_rfl) rfl rfl (fun hp => ⟨?_, trivial⟩) ?_
                · exact q_assign hp (free_of rfl) trivial (sq_const (fun _ => rfl))
                intro L vs w15 nb hL hC hn E15
                have e0 : vs 0 = .int .i64 1 := hC 0 (by simp)
                have E : Fr w [(b4_2, 2, Fq.num a), (b1, 2, Fq.raw n1 a1 k1 c1 xs1)] w15 := E15
                rw [lay_all hL]
                simp only [putAll, dstOf, List.length_cons, List.length_nil, Nat.zero_add, List.getElem?_toArray, List.getElem?_cons_zero, Option.bind_some, Act.put, List.setIfInBounds_toArray, List.set_cons_succ, List.set_cons_zero]
                rw [e0]
                clear e0 hC hn E15 hL vs L nb
                clear T4 T5
                go_wp2_with (fail)
                go_meet
                case rel => exact ⟨⟨_, rfl, by omega, by omega⟩, E⟩
              · have T4 := hidd h4
                have T5 := hidd h5
                clear h4 h5
                go_upto_region 12 with (fail)
                refine region_fr (C := [Fq.is (.int .i64 M), Fq.is (.bool true), Fq.is (.bool true), Fq.is (.int .i64 M), Fq.is (.bool false), Fq.is (.bool false)]) (ks := [none, none]) (new := []) E rfl (by kernel_rfl) rfl rfl (fun hp => ⟨?_, ?_, ?_, ?_, ?_, ?_, trivial⟩) ?_
                · exact q_move hp (free_of rfl) trivial (sq_out (s := 10) rfl rfl (fun _ _ => rfl))
                · exact q_one (F := fun v _ => v = .int .i64 M) hp (free_of rfl) trivial (sq_in 0 rfl rfl (by simp) rfl (fun v w h => h)) (fun ρ w hc h => ⟨.bool true, by simp [execOp, go_sem, h, hc, T4.out], rfl⟩)
                · exact q_move hp (free_of rfl) trivial (sq_in 1 rfl rfl (by simp) rfl (fun v w h => h))
                · exact q_move hp (free_of rfl) (gq_some rfl rfl (by simp) rfl (fun v w h => h)) (sq_out (s := 10) rfl rfl (fun _ _ => rfl))
                · exact q_one (F := fun v _ => v = .int .i64 M) hp (free_of rfl) (gq_some rfl rfl (by simp) rfl (fun v w h => h)) (sq_in 3 rfl rfl (by simp) rfl (fun v w h => h)) (fun ρ w hc h => ⟨.bool false, by simp [execOp, go_sem, h, hc, T5.out], rfl⟩)
                · exact q_two (F := fun v _ => v = .bool true) (G := fun v _ => v = .bool false) hp (free_of rfl) trivial (sq_in 2 rfl rfl (by simp) rfl (fun v w h => h)) (sq_in 4 rfl rfl (by simp) rfl (fun v w h => h)) (fun ρ w hc h h' => ⟨_, by simp [execOp, go_sem, h, h'], rfl⟩)
                intro L vs w16 nb hL hC hn E16
                have e0 : vs 0 = .int .i64 M := hC 0 (by simp)
                have e1 : vs 1 = .bool true := hC 1 (by simp)
                have e2 : vs 2 = .bool true := hC 2 (by simp)
                have e3 : vs 3 = .int .i64 M := hC 3 (by simp)
                have e4 : vs 4 = .bool false := hC 4 (by simp)
                have e5 : vs 5 = .bool false := hC 5 (by simp)
                have E : Fr w [(b4_2, 2, Fq.num a), (b1, 2, Fq.raw n1 a1 k1 c1 xs1)] w16 := E16
                rw [lay_all hL]
                simp only [putAll, dstOf, List.length_cons, List.length_nil, Nat.zero_add, Nat.reduceAdd, List.getElem?_toArray, List.getElem?_cons_zero, List.getElem?_cons_succ, Option.bind_some, Act.put, List.setIfInBounds_toArray, List.set_cons_succ, List.set_cons_zero]
                rw [e0, e1, e2, e3, e4, e5]
                clear e0 e1 e2 e3 e4 e5 hC hn E16 hL vs L nb
                clear T4 T5
                go_wp2_with (fail)
                go_meet
                case rel => exact ⟨⟨_, rfl, HK.out.1, HK.out.2⟩, E⟩
            · have T4 := hidd h4
              clear h4
              go_upto_region 12 with (fail)
              refine region_fr (C := [Fq.is (.int .i64 M), Fq.is (.bool false), Fq.is (.bool false), Fq.is (undef), Fq.is (undef), Fq.is (.bool false)]) (ks := [none, none]) (new := []) E rfl (by kernel_rfl) rfl rfl (fun hp => ⟨?_, ?_, ?_, ?_, ?_, ?_, trivial⟩) ?_
              · exact q_move hp (free_of rfl) trivial (sq_out (s := 10) rfl rfl (fun _ _ => rfl))
              · exact q_one (F := fun v _ => v = .int .i64 M) hp (free_of rfl) trivial (sq_in 0 rfl rfl (by simp) rfl (fun v w h => h)) (fun ρ w hc h => ⟨.bool false, by simp [execOp, go_sem, h, hc, T4.out], rfl⟩)
              · exact q_move hp (free_of rfl) trivial (sq_in 1 rfl rfl (by simp) rfl (fun v w h => h))
              · exact q_skip hp (free_of rfl) rfl (gq_some rfl rfl (by simp) rfl (fun v w h => h)) (fun _ => rfl)
              · exact q_skip hp (free_of rfl) rfl (gq_some rfl rfl (by simp) rfl (fun v w h => h)) (fun _ => rfl)
              · exact q_two (F := fun v _ => v = .bool false) (G := fun v _ => v = .bool false) hp (free_of rfl) trivial (sq_in 2 rfl rfl (by simp) rfl (fun v w h => h)) (sq_const (fun _ => rfl)) (fun ρ w hc h h' => ⟨_, by simp [execOp, go_sem, h, h'], rfl⟩)
              intro L vs w17 nb hL hC hn E17
              have e0 : vs 0 = .int .i64 M := hC 0 (by simp)
              have e1 : vs 1 = .bool false := hC 1 (by simp)
              have e2 : vs 2 = .bool false := hC 2 (by simp)
              have e3 : vs 3 = undef := hC 3 (by simp)
              have e4 : vs 4 = undef := hC 4 (by simp)
              have e5 : vs 5 = .bool false := hC 5 (by simp)
              have E : Fr w [(b4_2, 2, Fq.num a), (b1, 2, Fq.raw n1 a1 k1 c1 xs1)] w17 := E17
              rw [lay_all hL]
              simp only [putAll, dstOf, List.length_cons, List.length_nil, Nat.zero_add, Nat.reduceAdd, List.getElem?_toArray, List.getElem?_cons_zero, List.getElem?_cons_succ, Option.bind_some, Act.put, List.setIfInBounds_toArray, List.set_cons_succ, List.set_cons_zero]
              rw [e0, e1, e2, e3, e4, e5]
              clear e0 e1 e2 e3 e4 e5 hC hn E17 hL vs L nb
              clear T4
              go_wp2_with (fail)
              go_meet
              case rel => exact ⟨⟨_, rfl, HK.out.1, HK.out.2⟩, E⟩
        · have T1 := hidd g1
          clear g1
          go_upto_region 9 with (fail)
          refine region_fr (C := [Fq.is (.int .i64 (i : Int)), Fq.is (.int .i64 k), Fq.is (.bool false), Fq.is (.bool false), Fq.is (undef), Fq.is (undef), Fq.is (.bool false), Fq.is (.bool false), Fq.is (undef), Fq.is (undef), Fq.is (.bool false)]) (ks := [none, none]) (new := []) E rfl (by kernel_rfl) rfl rfl (fun hp => ⟨?_, ?_, ?_, ?_, ?_, ?_, ?_, ?_, ?_, ?_, ?_, trivial⟩) ?_
          · exact q_move hp (free_of rfl) trivial (sq_out (s := 11) rfl rfl (fun _ _ => rfl))
          · exact q_move hp (free_of rfl) trivial (sq_out (s := 2) rfl rfl (fun _ _ => rfl))
          · exact q_two (F := fun v _ => v = .int .i64 (i : Int)) (G := fun v _ => v = .int .i64 k) hp (free_of rfl) trivial (sq_in 0 rfl rfl (by simp) rfl (fun v w h => h)) (sq_in 1 rfl rfl (by simp) rfl (fun v w h => h)) (fun ρ w hc h h' => ⟨.bool false, by simp [execOp, go_sem, h, h', T1.out], rfl⟩)
          · exact q_move hp (free_of rfl) trivial (sq_in 2 rfl rfl (by simp) rfl (fun v w h => h))
          · exact q_skip hp (free_of rfl) rfl (gq_some rfl rfl (by simp) rfl (fun v w h => h)) (fun _ => rfl)
          · exact q_skip hp (free_of rfl) rfl (gq_some rfl rfl (by simp) rfl (fun v w h => h)) (fun _ => rfl)
          · exact q_two (F := fun v _ => v = .bool false) (G := fun v _ => v = .bool false) hp (free_of rfl) trivial (sq_in 3 rfl rfl (by simp) rfl (fun v w h => h)) (sq_const (fun _ => rfl)) (fun ρ w hc h h' => ⟨_, by simp [execOp, go_sem, h, h'], rfl⟩)
          · exact q_move hp (free_of rfl) trivial (sq_in 6 rfl rfl (by simp) rfl (fun v w h => h))
          · exact q_skip hp (free_of rfl) rfl (gq_some rfl rfl (by simp) rfl (fun v w h => h)) (fun _ => rfl)
          · exact q_skip hp (free_of rfl) rfl (gq_some rfl rfl (by simp) rfl (fun v w h => h)) (fun _ => rfl)
          · exact q_two (F := fun v _ => v = .bool false) (G := fun v _ => v = .bool false) hp (free_of rfl) trivial (sq_in 7 rfl rfl (by simp) rfl (fun v w h => h)) (sq_const (fun _ => rfl)) (fun ρ w hc h h' => ⟨_, by simp [execOp, go_sem, h, h'], rfl⟩)
          intro L vs w18 nb hL hC hn E18
          have e0 : vs 0 = .int .i64 (i : Int) := hC 0 (by simp)
          have e1 : vs 1 = .int .i64 k := hC 1 (by simp)
          have e2 : vs 2 = .bool false := hC 2 (by simp)
          have e3 : vs 3 = .bool false := hC 3 (by simp)
          have e4 : vs 4 = undef := hC 4 (by simp)
          have e5 : vs 5 = undef := hC 5 (by simp)
          have e6 : vs 6 = .bool false := hC 6 (by simp)
          have e7 : vs 7 = .bool false := hC 7 (by simp)
          have e8 : vs 8 = undef := hC 8 (by simp)
          have e9 : vs 9 = undef := hC 9 (by simp)
          have e10 : vs 10 = .bool false := hC 10 (by simp)
          have E : Fr w [(b4_2, 2, Fq.num a), (b1, 2, Fq.raw n1 a1 k1 c1 xs1)] w18 := E18
          rw [lay_all hL]
          simp only [putAll, dstOf, List.length_cons, List.length_nil, Nat.zero_add, Nat.reduceAdd, List.getElem?_toArray, List.getElem?_cons_zero, List.getElem?_cons_succ, Option.bind_some, Act.put, List.setIfInBounds_toArray, List.set_cons_succ, List.set_cons_zero]
          rw [e0, e1, e2, e3, e4, e5, e6, e7, e8, e9, e10]
          clear e0 e1 e2 e3 e4 e5 e6 e7 e8 e9 e10 hC hn E18 hL vs L nb
          clear T1
          by_cases h4 : M > 4096
          · by_cases h5 : M ≤ 1048576
            · have T4 := hidd h4
              have T5 := hidd h5
              clear h4 h5
              go_upto_region 12 with (fail)
              refine region_fr (C := [Fq.is (.int .i64 M), Fq.is (.bool true), Fq.is (.bool true), Fq.is (.int .i64 M), Fq.is (.bool true), Fq.is (.bool true)]) (ks := [none, none]) (new := []) E rfl (by kernel_rfl) rfl rfl (fun hp => ⟨?_, ?_, ?_, ?_, ?_, ?_, trivial⟩) ?_
              · exact q_move hp (free_of rfl) trivial (sq_out (s := 10) rfl rfl (fun _ _ => rfl))
              · exact q_one (F := fun v _ => v = .int .i64 M) hp (free_of rfl) trivial (sq_in 0 rfl rfl (by simp) rfl (fun v w h => h)) (fun ρ w hc h => ⟨.bool true, by simp [execOp, go_sem, h, hc, T4.out], rfl⟩)
              · exact q_move hp (free_of rfl) trivial (sq_in 1 rfl rfl (by simp) rfl (fun v w h => h))
              · exact q_move hp (free_of rfl) (gq_some rfl rfl (by simp) rfl (fun v w h => h)) (sq_out (s := 10) rfl rfl (fun _ _ => rfl))
              · exact q_one (F := fun v _ => v = .int .i64 M) hp (free_of rfl) (gq_some rfl rfl (by simp) rfl (fun v w h => h)) (sq_in 3 rfl rfl (by simp) rfl (fun v w h => h)) (fun ρ w hc h => ⟨.bool true, by simp [execOp, go_sem, h, hc, T5.out], rfl⟩)
              · exact q_two (F := fun v _ => v = .bool true) (G := fun v _ => v = .bool true) hp (free_of rfl) trivial (sq_in 2 rfl rfl (by simp) rfl (fun v w h => h)) (sq_in 4 rfl rfl (by simp) rfl (fun v w h => h)) (fun ρ w hc h h' => ⟨_, by simp [execOp, go_sem, h, h'], rfl⟩)
              intro L vs w19 nb hL hC hn E19
              have e0 : vs 0 = .int .i64 M := hC 0 (by simp)
              have e1 : vs 1 = .bool true := hC 1 (by simp)
              have e2 : vs 2 = .bool true := hC 2 (by simp)
              have e3 : vs 3 = .int .i64 M := hC 3 (by simp)
              have e4 : vs 4 = .bool true := hC 4 (by simp)
              have e5 : vs 5 = .bool true := hC 5 (by simp)
              have E : Fr w [(b4_2, 2, Fq.num a), (b1, 2, Fq.raw n1 a1 k1 c1 xs1)] w19 := E19
              rw [lay_all hL]
              simp only [putAll, dstOf, List.length_cons, List.length_nil, Nat.zero_add, Nat.reduceAdd, List.getElem?_toArray, List.getElem?_cons_zero, List.getElem?_cons_succ, Option.bind_some, Act.put, List.setIfInBounds_toArray, List.set_cons_succ, List.set_cons_zero]
              rw [e0, e1, e2, e3, e4, e5]
              clear e0 e1 e2 e3 e4 e5 hC hn E19 hL vs L nb
              go_upto_region 13 with (fail)
              refine region_fr (C := [Fq.is (.int .i64 1)]) (ks := [none, none]) (new := []) E rfl (by kernel_rfl) rfl rfl (fun hp => ⟨?_, trivial⟩) ?_
              · exact q_assign hp (free_of rfl) trivial (sq_const (fun _ => rfl))
              intro L vs w20 nb hL hC hn E20
              have e0 : vs 0 = .int .i64 1 := hC 0 (by simp)
              have E : Fr w [(b4_2, 2, Fq.num a), (b1, 2, Fq.raw n1 a1 k1 c1 xs1)] w20 := E20
              rw [lay_all hL]
              simp only [putAll, dstOf, List.length_cons, List.length_nil, Nat.zero_add, List.getElem?_toArray, List.getElem?_cons_zero, Option.bind_some, Act.put, List.setIfInBounds_toArray, List.set_cons_succ, List.set_cons_zero]
              rw [e0]
              clear e0 hC hn E20 hL vs L nb
              clear T4 T5
              go_wp2_with (fail)
              go_meet
              case rel => exact ⟨⟨_, rfl, by omega, by omega⟩, E⟩
            · have T4 := hidd h4
              have T5 := hidd h5
              clear h4 h5
              go_upto_region 12 with (fail)
              refine region_fr (C := [Fq.is (.int .i64 M), Fq.is (.bool true), Fq.is (.bool true), Fq.is (.int .i64 M), Fq.is (.bool false), Fq.is (.bool false)]) (ks := [none, none]) (new := []) E rfl (by kernel_rfl) rfl rfl (fun hp => ⟨?_, ?_, ?_, ?_, ?_, ?_, trivial⟩) ?_
              · exact q_move hp (free_of rfl) trivial (sq_out (s := 10) rfl rfl (fun _ _ => rfl))
              · exact q_one (F := fun v _ => v = .int .i64 M) hp (free_of rfl) trivial (sq_in 0 rfl rfl (by simp) rfl (fun v w h => h)) (fun ρ w hc h => ⟨.bool true, by simp [execOp, go_sem, h, hc, T4.out], rfl⟩)
              · exact q_move hp (free_of rfl) trivial (sq_in 1 rfl rfl (by simp) rfl (fun v w h => h))
              · exact q_move hp (free_of rfl) (gq_some rfl rfl (by simp) rfl (fun v w h => h)) (sq_out (s := 10) rfl rfl (fun _ _ => rfl))
              · exact q_one (F := fun v _ => v = .int .i64 M) hp (free_of rfl) (gq_some rfl rfl (by simp) rfl (fun v w h => h)) (sq_in 3 rfl rfl (by simp) rfl (fun v w h => h)) (fun ρ w hc h => ⟨.bool false, by simp [execOp, go_sem, h, hc, T5.out], rfl⟩)
              · exact q_two (F := fun v _ => v = .bool true) (G := fun v _ => v = .bool false) hp (free_of rfl) trivial (sq_in 2 rfl rfl (by simp) rfl (fun v w h => h)) (sq_in 4 rfl rfl (by simp) rfl (fun v w h => h)) (fun ρ w hc h h' => ⟨_, by simp [execOp, go_sem, h, h'], rfl⟩)
              intro L vs w21 nb hL hC hn E21
              have e0 : vs 0 = .int .i64 M := hC 0 (by simp)
              have e1 : vs 1 = .bool true := hC 1 (by simp)
              have e2 : vs 2 = .bool true := hC 2 (by simp)
              have e3 : vs 3 = .int .i64 M := hC 3 (by simp)
              have e4 : vs 4 = .bool false := hC 4 (by simp)
              have e5 : vs 5 = .bool false := hC 5 (by simp)
              have E : Fr w [(b4_2, 2, Fq.num a), (b1, 2, Fq.raw n1 a1 k1 c1 xs1)] w21 := E21
              rw [lay_all hL]
              simp only [putAll, dstOf, List.length_cons, List.length_nil, Nat.zero_add, Nat.reduceAdd, List.getElem?_toArray, List.getElem?_cons_zero, List.getElem?_cons_succ, Option.bind_some, Act.put, List.setIfInBounds_toArray, List.set_cons_succ, List.set_cons_zero]
              rw [e0, e1, e2, e3, e4, e5]
              clear e0 e1 e2 e3 e4 e5 hC hn E21 hL vs L nb
              clear T4 T5
              go_wp2_with (fail)
              go_meet
              case rel => exact ⟨⟨_, rfl, HK.out.1, HK.out.2⟩, E⟩
          · have T4 := hidd h4
            clear h4
            go_upto_region 12 with (fail)
            refine region_fr (C := [Fq.is (.int .i64 M), Fq.is (.bool false), Fq.is (.bool false), Fq.is (undef), Fq.is (undef), Fq.is (.bool false)]) (ks := [none, none]) (new := []) E rfl (by kernel_rfl) rfl rfl (fun hp => ⟨?_, ?_, ?_, ?_, ?_, ?_, trivial⟩) ?_
            · exact q_move hp (free_of rfl) trivial (sq_out (s := 10) rfl rfl (fun _ _ => rfl))
            · exact q_one (F := fun v _ => v = .int .i64 M) hp (free_of rfl) trivial (sq_in 0 rfl rfl (by simp) rfl (fun v w h => h)) (fun ρ w hc h => ⟨.bool false, by simp [execOp, go_sem, h, hc, T4.out], rfl⟩)
            · exact q_move hp (free_of rfl) trivial (sq_in 1 rfl rfl (by simp) rfl (fun v w h => h))
            · exact q_skip hp (free_of rfl) rfl (gq_some rfl rfl (by simp) rfl (fun v w h => h)) (fun _ => rfl)
            · exact q_skip hp (free_of rfl) rfl (gq_some rfl rfl (by simp) rfl (fun v w h => h)) (fun _ => rfl)
            · exact q_two (F := fun v _ => v = .bool false) (G := fun v _ => v = .bool false) hp (free_of rfl) trivial (sq_in 2 rfl rfl (by simp) rfl (fun v w h => h)) (sq_const (fun _ => rfl)) (fun ρ w hc h h' => ⟨_, by simp [execOp, go_sem, h, h'], rfl⟩)
            intro L vs w22 nb hL hC hn E22
            have e0 : vs 0 = .int .i64 M := hC 0 (by simp)
            have e1 : vs 1 = .bool false := hC 1 (by simp)
            have e2 : vs 2 = .bool false := hC 2 (by simp)
            have e3 : vs 3 = undef := hC 3 (by simp)
            have e4 : vs 4 = undef := hC 4 (by simp)
            have e5 : vs 5 = .bool false := hC 5 (by simp)
            have E : Fr w [(b4_2, 2, Fq.num a), (b1, 2, Fq.raw n1 a1 k1 c1 xs1)] w22 := E22
            rw [lay_all hL]
            simp only [putAll, dstOf, List.length_cons, List.length_nil, Nat.zero_add, Nat.reduceAdd, List.getElem?_toArray, List.getElem?_cons_zero, List.getElem?_cons_succ, Option.bind_some, Act.put, List.setIfInBounds_toArray, List.set_cons_succ, List.set_cons_zero]
            rw [e0, e1, e2, e3, e4, e5]
            clear e0 e1 e2 e3 e4 e5 hC hn E22 hL vs L nb
            clear T4
            go_wp2_with (fail)
            go_meet
            case rel => exact ⟨⟨_, rfl, HK.out.1, HK.out.2⟩, E⟩
  case rest =>
    clear E
    obtain ⟨⟨k1, rfl, hl1, hh1⟩, E⟩ := hcut
    have HK1 := hidd (And.intro hl1 hh1)
    clear hl1 hh1 HK
    obtain ⟨e, he⟩ : ∃ e, e = rinE N k1 := ⟨_, rfl⟩
    obtain ⟨zs, hzs⟩ : ∃ zs, zs = rinL a N k1 := ⟨_, rfl⟩
    have HLN : Hid (zs.length ≤ 1048576) := by show _ ≤ _; rw [hzs]; exact rinL_len _ _ _
    have HEE := hidd he
    have HZS := hidd hzs
    clear he hzs
    go_upto_region 14 with (fail)
    have XB := box_bn (E.box 0 rfl)
    refine region_steps (p := planM [(Fm.ofq (Fq.num a)), (Fm.ofq (Fq.is (.int .i64 N))), (Fm.ofq (Fq.num N)), (Fm.ofq (Fq.is (.int .i64 k1))), (Fm.lst zs e), (Fm.lst zs e), (Fm.nums zs), (Fm.ofq (Fq.is (.int .i64 e))), (Fm.nums zs), (Fm.ofq (Fq.is (.int .i64 e)))]) (B := wc.heap.size) (B0 := wc.heap.size) (w0 := wc) (by kernel_rfl) rfl rfl (planM_start _ _) ?_ ?_
    · have hm := planM_ok [(Fm.ofq (Fq.num a)), (Fm.ofq (Fq.is (.int .i64 N))), (Fm.ofq (Fq.num N)), (Fm.ofq (Fq.is (.int .i64 k1))), (Fm.lst zs e), (Fm.lst zs e), (Fm.nums zs), (Fm.ofq (Fq.is (.int .i64 e))), (Fm.nums zs), (Fm.ofq (Fq.is (.int .i64 e)))]
      refine ⟨?_, ?_, ?_, ?_, ?_, ?_, ?_, ?_, ?_, ?_, trivial⟩
      · exact g_load (z := a) (hm _) ⟨by simp [planM], by simp [planM]⟩ trivial (src_out rfl rfl (fun w h => ⟨rfl, XB.mono h⟩)) (fun v w h => h)
      · exact g_move (hm _) ⟨by simp [planM], by simp [planM]⟩ trivial (src_out rfl rfl (fun w h => rfl))
      · exact g_call1 (F := (Fq.is (.int .i64 N)).P) (hm _) ⟨by simp [planM], by simp [planM]⟩ trivial (enq_V_of) (src_in 1 rfl rfl (by simp) rfl (fun v w h => h)) (fun v w h => (by subst h; exact exVOf (by have := RN.out; omega)))
      · exact g_move (hm _) ⟨by simp [planM], by simp [planM]⟩ trivial (src_out rfl rfl (fun w h => rfl))
      · exact g_call3 (F := (Fq.num a).P) (G := (Fq.num N).P) (H := (Fq.is (.int .i64 k1)).P) (hm _) ⟨by simp [planM], by simp [planM]⟩ trivial (enq_M_Roots) (src_in 0 rfl rfl (by simp) rfl (fun v w h => h)) (src_in 2 rfl rfl (by simp) rfl (fun v w h => h)) (src_in 3 rfl rfl (by simp) rfl (fun v w h => h)) (fun v v' u w h h' gg => (by subst gg; exact (by rw [HEE.out, HZS.out]; exact exMRoots h h' (Int.lt_of_lt_of_le Ba.out (pw_le (by omega))) (Int.lt_of_lt_of_le BN.out (pw_le (by omega))) HK1.out)))
      · exact g_move (hm _) ⟨by simp [planM], by simp [planM]⟩ trivial (src_in 4 rfl rfl (by simp) rfl (fun v w h => h))
      · exact g_extract (hm _) ⟨by simp [planM], by simp [planM]⟩ trivial (src_in 5 rfl rfl (by simp) rfl (fun v w ⟨l, h1, h2⟩ => ⟨_, l, h1, rfl, h2⟩))
      · exact g_extract (hm _) ⟨by simp [planM], by simp [planM]⟩ trivial (src_in 5 rfl rfl (by simp) rfl (fun v w ⟨l, h1, h2⟩ => ⟨_, _, h1, rfl, rfl⟩))
      · exact g_assign (hm _) ⟨by simp [planM], by simp [planM]⟩ trivial (src_in 6 rfl rfl (by simp) rfl (fun v w h => h))
      · exact g_assign (hm _) ⟨by simp [planM], by simp [planM]⟩ trivial (src_in 7 rfl rfl (by simp) rfl (fun v w h => h))
    intro L vs w14 hL hG
    have e1 : vs 1 = .int .i64 N := hG.val 1 (hL 1 (by simp))
    have e3 : vs 3 = .int .i64 k1 := hG.val 3 (hL 3 (by simp))
    have e7 : vs 7 = .int .i64 e := hG.val 7 (hL 7 (by simp))
    have e9 : vs 9 = .int .i64 e := hG.val 9 (hL 9 (by simp))
    have n8 : Nums w14 (vs 8) zs := hG.val 8 (hL 8 (by simp))
    have hb := hG.below
    replace E := E.mono hb
    rw [lay_all hL]
    simp only [putAll, dstOf, List.length_cons, List.length_nil, Nat.zero_add, Nat.reduceAdd, List.getElem?_toArray, List.getElem?_cons_zero, List.getElem?_cons_succ, Option.bind_some, Act.put, List.setIfInBounds_toArray, List.set_cons_succ, List.set_cons_zero]
    rw [e1, e3, e7, e9]
    generalize vs 0 = u14_0
    generalize vs 2 = u14_2
    generalize vs 4 = u14_4
    generalize vs 5 = u14_5
    generalize vs 6 = u14_6
    generalize vs 8 = l1 at n8 ⊢
    clear hb hG hL vs L e1 e3 e7 e9 XB
    obtain ⟨ao1, cap1, rfl, _⟩ := id n8
    have N8 := hidd n8
    clear n8
    go_upto_region 15 with (fail)
    have XB := box_bn (E.box 0 rfl)
    refine region_last (p := planM [(Fm.ofq (Fq.num a)), (Fm.ofq (Fq.is (.int .i64 N))), (Fm.ofq (Fq.num N)), (Fm.ofq (Fq.is (.int .i64 k1))), (Fm.agg zs e), (Fm.laid w14.heap.size)]) (B := w14.heap.size) (B0 := w14.heap.size) (w0 := w14) 6 (fun vs w' => ∃ b l, vs 5 = .pointer (some ⟨b, 0, none⟩) ∧ w'.cell? ⟨b, 0, none⟩ = some l ∧ w'.cell? ⟨b, 1, none⟩ = some (.int .i64 e) ∧ Nums w' l zs ∧ Below w14.heap.size w14 w') (by kernel_rfl) rfl rfl rfl (fun o ho => by injection ho with ho; subst ho; rfl) (planM_start _ w14) ?_ ?_
    · have hm := planM_ok [(Fm.ofq (Fq.num a)), (Fm.ofq (Fq.is (.int .i64 N))), (Fm.ofq (Fq.num N)), (Fm.ofq (Fq.is (.int .i64 k1))), (Fm.agg zs e), (Fm.laid w14.heap.size)]
      refine ⟨⟨fun _ => ?_, fun h => absurd h (by decide)⟩, ⟨fun _ => ?_, fun h => absurd h (by decide)⟩, ⟨fun _ => ?_, fun h => absurd h (by decide)⟩, ⟨fun _ => ?_, fun h => absurd h (by decide)⟩, ⟨fun _ => ?_, fun h => absurd h (by decide)⟩, ⟨fun _ => ?_, fun h => absurd h (by decide)⟩, ⟨fun h => absurd h (by decide), fun _ => l_storeListed (j5 := 5) (j4 := 4) (s5 := 14) (s4 := 59) rfl rfl (by simp) (by decide) (fun v w h => h) rfl (by simp) (by decide) (fun v w h => h) rfl⟩, trivial⟩
      · exact g_load (z := a) (hm _) ⟨by simp [planM], by simp [planM]⟩ trivial (src_out rfl rfl (fun w h => ⟨rfl, XB.mono h⟩)) (fun v w h => h)
      · exact g_move (hm _) ⟨by simp [planM], by simp [planM]⟩ trivial (src_out rfl rfl (fun w h => rfl))
      · exact g_call1 (F := (Fq.is (.int .i64 N)).P) (hm _) ⟨by simp [planM], by simp [planM]⟩ trivial (enq_V_of) (src_in 1 rfl rfl (by simp) rfl (fun v w h => h)) (fun v w h => (by subst h; exact exVOf (by have := RN.out; omega)))
      · exact g_move (hm _) ⟨by simp [planM], by simp [planM]⟩ trivial (src_out rfl rfl (fun w h => rfl))
      · exact g_call3 (F := (Fq.num a).P) (G := (Fq.num N).P) (H := (Fq.is (.int .i64 k1)).P) (hm _) ⟨by simp [planM], by simp [planM]⟩ trivial (enq_U_RootsIn) (src_in 0 rfl rfl (by simp) rfl (fun v w h => h)) (src_in 2 rfl rfl (by simp) rfl (fun v w h => h)) (src_in 3 rfl rfl (by simp) rfl (fun v w h => h)) (fun v v' u w h h' gg => (by subst gg; exact (by rw [HEE.out, HZS.out]; exact exRootsIn h h' (Int.lt_of_lt_of_le Ba.out (pw_le (by omega))) (Int.lt_of_lt_of_le BN.out (pw_le (by omega))) HK1.out)))
      · exact g_allocListed (hm _) ⟨by simp [planM], by simp [planM]⟩ (fun w hb => ⟨_, rfl, hb.size, IntBox.new w _ _ _⟩)
    intro L vs w15 hL hR
    obtain ⟨b15, l2, e5, c0, c1, n2, hb⟩ := hR
    replace E := E.mono hb
    have N8b := hidd (N8.out.mono hb)
    obtain ⟨ao2, cap2, rfl, _⟩ := id n2
    have N2 := hidd n2
    rw [lay_all hL]
    simp only [putAll, dstOf, List.length_cons, List.length_nil, Nat.zero_add, Nat.reduceAdd, List.getElem?_toArray, List.getElem?_cons_zero, List.getElem?_cons_succ, Option.bind_some, Act.put, List.setIfInBounds_toArray, List.set_cons_succ, List.set_cons_zero]
    rw [e5]
    generalize vs 0 = u15_0
    generalize vs 1 = u15_1
    generalize vs 2 = u15_2
    generalize vs 3 = u15_3
    generalize vs 4 = u15_4
    clear hb hL vs L e5 XB n2 N8 HEE HZS
    clear Ba BN RN HK1 hT
    have EB := hidd E.below
    clear E
    have hsz := EB.out.size
    go_wp2_with (first | (go_at_call 30; refine (exSameList N8b.out N2.out (by have := HLN.out; omega) (by have := HLN.out; omega)).mono ?_; rintro e' w16 ⟨_, rfl, hb16, rfl⟩) | fail)
    have EC := hidd (EB.out.trans (hb16.mono hsz))
    clear hb16
    go_wp2
    refine bodyPost_ret (v := .bool true) ?_ rfl ⟨rfl, EC.out⟩
    simp [results, Tryd.results7, go_sem]

end Go.Proofs.YtieobgadihcgeaaDoor
