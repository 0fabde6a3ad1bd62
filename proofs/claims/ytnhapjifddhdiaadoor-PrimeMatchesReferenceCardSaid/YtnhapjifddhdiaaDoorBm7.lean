/- Qo, Qp2, Qr2, Qr3, Qr4, Qr5, Sa, Sb, Qs, Qt. -/
import Derived.Test.YtnhapjifddhdiaaDoorBm6
import Derived.Deep.MidRow
namespace Go.Proofs.YtnhapjifddhdiaaDoor
open Go Go.RowKit

theorem enq_f_algorist_prime_test_mul (args : Array Value) (w : World) : (callFunc 55 args).run Tryd.prog w = .ok (.enter 55 args) w := enter_of Tryd.func55 (by kernel_rfl) rfl args w
theorem cmpI_same {a b : Int} (h : a = b) : cmpI a b = 0 := cmpIq0.2 h
theorem cmpI_apart {a b : Int} (h : ¬ a = b) : ¬ cmpI a b = 0 := fun e => h (cmpIq0.1 e)
set_option maxRecDepth 100000 in
set_option maxHeartbeats 4000000 in
theorem exTPasses {w : World} {v u : Value} {z si : Int} {N b D s : Nat} {S : Bool} (h : Test w v z (z - 1) si) (h1 : Num w u (pwv N b D)) (hn : ab z < pw 3) (hzN : z = (N : Int)) (h2 : 2 < N) (hsi : si = (s : Int)) (hs : 0 < s ∧ s ≤ 96) (hS : S = true ↔ (b ^ D % N = 1 ∨ ∃ i, i < s ∧ b ^ (2 ^ i * D) % N = N - 1)) :
    Calls Tryd.prog 29 #[v, u] w fun e w' => ∃ v', e = .returned v' ∧ Below w.heap.size w w' ∧ v' = .bool S := by
  replace hn := hidd hn
  have HZN := hidd hzN
  have HN2 := hidd h2
  have HS := hidd hS
  have HSI := hidd hsi
  have HSB := hidd hs
  have HM : Hid (z ≠ 0) := by show _ ≠ _; omega
  have HN0 : Hid (0 < N) := by show 0 < N; omega
  have Bx : Hid (ab (pwv N b D) < pw 3) := pwv_lt HZN.out HN0.out hn.out
  have B1l : Hid (ab (1 : Int) < pw 3) := ab_lit (by decide)
  have Bm : Hid (ab (z - 1) < pw 4) := ab_subB hn.out B1l.out (by omega) (by omega)
  clear B1l
  clear hzN h2 hS hsi hs
  obtain ⟨n0, ao0, k0, c0, n0', ao0', k0', c0', rfl, _, _⟩ := h.parts
  obtain ⟨n1, ao1, k1, c1, rfl⟩ := h1.parts
  obtain ⟨w1, b1, hw1, hb1, hs1, E⟩ := fr_start w (F := Fq.test z (z - 1) si) (us := [.bool n0, .slice ao0 k0 c0, .bool n0', .slice ao0' k0' c0', .int .i64 si]) 55 rfl (by simp) (tame_test _ _ _ _ _ _ _ _ _) h
  obtain ⟨w2, b2, hw2, hb2, hs2, E⟩ := fr_more E hs1 (F := Fq.num (pwv N b D)) (us := [.bool n1, .slice ao1 k1 c1]) 27 rfl (by simp) (tame_int _ _ _ _) (h1.mono E.below)
  go_enter Tryd.func29, Tryd.ntmps29
  go_upto_region 1 with (fail)
  rw [← hw1]
  rw [← hw2]
  rw [← hb2]
  rw [← hb1]
  clear hw1 hw2 hb1 hb2 hs2 hs1
  by_cases h1 : pwv N b D = 1
  · have T1 : Hid (cmpI (pwv N b D) 1 = 0) := cmpI_same h1
    have e : S = true := HS.out.2 (.inl (pwv_one.1 h1))
    subst e
    clear h1
    have B3 : Hid (ab ((1)) < pw 3) := ab_lit (by decide)
    refine region_fr (C := [Fq.num (pwv N b D), Fq.num (1), Fq.is (.int .i64 (cmpI (pwv N b D) (1))), Fq.is (.bool true), Fq.is (.bool true), Fq.is (undef), Fq.is (undef), Fq.is (undef), Fq.is (undef), Fq.is (undef), Fq.is (.bool true)]) (ks := [none, none]) (new := []) E rfl (by kernel_rfl) rfl rfl (fun hp => ⟨?_, ?_, ?_, ?_, ?_, ?_, ?_, ?_, ?_, ?_, ?_, trivial⟩) ?_
    · exact q_loadInt (off := 0) hp (free_of rfl) trivial (List.mem_iff_getElem?.2 ⟨0, rfl⟩) (.inl rfl) (Nat.le_of_ble_eq_true rfl) (sq_out (s := 3) rfl rfl (fun _ _ => rfl)) (fun us w hl h => ld_num hl h)
    · exact q_call1 (F := (Fq.is (.int .i64 1)).P) hp (free_of rfl) trivial (enq_Of) (sq_const (fun _ => rfl)) (fun v w h => (by subst h; exact OfK w (1) (by omega) (by omega)))
    · exact q_call2 (F := (Fq.num (pwv N b D)).P) (G := (Fq.num (1)).P) hp (free_of rfl) trivial (enq_Cmp) (sqi 0) (sqi 1) (fun v v' w h h' => exCmp h h')
    · exact q_one (F := fun v _ => v = .int .i64 (cmpI (pwv N b D) (1))) hp (free_of rfl) trivial (sqi 2) (fun ρ w hc h => ⟨.bool true, by simp [execOp, go_sem, h, hc, T1.out], rfl⟩)
    · exact q_move hp (free_of rfl) trivial (sqi 3)
    · exact q_skip hp (free_of rfl) rfl (gq_some rfl rfl (by simp) rfl (fun v w h => h)) (fun _ => rfl)
    · exact q_skip hp (free_of rfl) rfl (gq_some rfl rfl (by simp) rfl (fun v w h => h)) (fun _ => rfl)
    · exact q_skip hp (free_of rfl) rfl (gq_some rfl rfl (by simp) rfl (fun v w h => h)) (fun _ => rfl)
    · exact q_skip hp (free_of rfl) rfl (gq_some rfl rfl (by simp) rfl (fun v w h => h)) (fun _ => rfl)
    · exact q_skip hp (free_of rfl) rfl (gq_some rfl rfl (by simp) rfl (fun v w h => h)) (fun _ => rfl)
    · exact q_two (F := fun v _ => v = .bool true) (G := fun v _ => v = .bool true) hp (free_of rfl) trivial (sqi 4) (sq_const (fun _ => rfl)) (fun ρ w hc h h' => ⟨_, by simp [execOp, go_sem, h, h'], rfl⟩)
    intro L vs w4 nb hL hC hn E4
    have e2 : vs 2 = .int .i64 (cmpI (pwv N b D) (1)) := hC 2 (by simp)
    have e3 : vs 3 = .bool true := hC 3 (by simp)
    have e4 : vs 4 = .bool true := hC 4 (by simp)
    have e5 : vs 5 = undef := hC 5 (by simp)
    have e6 : vs 6 = undef := hC 6 (by simp)
    have e7 : vs 7 = undef := hC 7 (by simp)
    have e8 : vs 8 = undef := hC 8 (by simp)
    have e9 : vs 9 = undef := hC 9 (by simp)
    have e10 : vs 10 = .bool true := hC 10 (by simp)
    have E : Fr w [(b2, 2, Fq.num (pwv N b D)), (b1, 5, Fq.test z (z - 1) si)] w4 := E4
    rw [lay_all hL]
    simp only [putAll, dstOf, List.length_cons, List.length_nil, Nat.zero_add, Nat.reduceAdd, List.getElem?_toArray, List.getElem?_cons_zero, List.getElem?_cons_succ, Option.bind_some, Act.put, List.setIfInBounds_toArray, List.set_cons_succ, List.set_cons_zero]
    rw [e2, e3, e4, e5, e6, e7, e8, e9, e10]
    generalize vs 0 = u4_0
    generalize vs 1 = u4_1
    clear e2 e3 e4 e5 e6 e7 e8 e9 e10 hC hn E4 hL vs L nb
    go_upto_region 2 with (fail)
    refine region_fr (C := [Fq.is (.bool true)]) (ks := [none, none]) (new := []) E rfl (by kernel_rfl) rfl rfl (fun hp => ⟨?_, trivial⟩) ?_
    · exact q_assign hp (free_of rfl) trivial (sq_const (fun _ => rfl))
    intro L vs w5 nb hL hC hn E5
    have e0 : vs 0 = .bool true := hC 0 (by simp)
    have E : Fr w [(b2, 2, Fq.num (pwv N b D)), (b1, 5, Fq.test z (z - 1) si)] w5 := E5
    rw [lay_all hL]
    simp only [putAll, dstOf, List.length_cons, List.length_nil, Nat.zero_add, List.getElem?_toArray, List.getElem?_cons_zero, Option.bind_some, Act.put, List.setIfInBounds_toArray, List.set_cons_succ, List.set_cons_zero]
    rw [e0]
    clear e0 hC hn E5 hL vs L nb
    clear T1 HZN HN2 HS HSI HSB HM HN0
    clear B3 hn Bx Bm
    go_wp2
    refine bodyPost_ret (v := .bool true) ?_ rfl ⟨_, rfl, E.below, rfl⟩
    simp [results, Tryd.results29, go_sem]
  · have T1 : Hid (¬ cmpI (pwv N b D) 1 = 0) := cmpI_apart h1
    have H1 := hidd h1
    clear h1
    by_cases ht : pwv N b D = z - 1
    · have T2 : Hid (cmpI (pwv N b D) (z - 1) = 0) := cmpI_same ht
      have e : S = true := HS.out.2 (.inr ⟨0, HSB.out.1, by rw [Nat.pow_zero, Nat.one_mul]; exact (pwv_top HZN.out HN0.out).1 ht⟩)
      subst e
      clear ht
      have B6 : Hid (ab ((1)) < pw 3) := ab_lit (by decide)
      refine region_fr (C := [Fq.num (pwv N b D), Fq.num (1), Fq.is (.int .i64 (cmpI (pwv N b D) (1))), Fq.is (.bool false), Fq.is (.bool false), Fq.num (pwv N b D), Fq.is (.pointer (some ⟨b1, 2, none⟩)), Fq.num (z - 1), Fq.is (.int .i64 (cmpI (pwv N b D) (z - 1))), Fq.is (.bool true), Fq.is (.bool true)]) (ks := [none, none]) (new := []) E rfl (by kernel_rfl) rfl rfl (fun hp => ⟨?_, ?_, ?_, ?_, ?_, ?_, ?_, ?_, ?_, ?_, ?_, trivial⟩) ?_
      · exact q_loadInt (off := 0) hp (free_of rfl) trivial (List.mem_iff_getElem?.2 ⟨0, rfl⟩) (.inl rfl) (Nat.le_of_ble_eq_true rfl) (sq_out (s := 3) rfl rfl (fun _ _ => rfl)) (fun us w hl h => ld_num hl h)
      · exact q_call1 (F := (Fq.is (.int .i64 1)).P) hp (free_of rfl) trivial (enq_Of) (sq_const (fun _ => rfl)) (fun v w h => (by subst h; exact OfK w (1) (by omega) (by omega)))
      · exact q_call2 (F := (Fq.num (pwv N b D)).P) (G := (Fq.num (1)).P) hp (free_of rfl) trivial (enq_Cmp) (sqi 0) (sqi 1) (fun v v' w h h' => exCmp h h')
      · exact q_one (F := fun v _ => v = .int .i64 (cmpI (pwv N b D) (1))) hp (free_of rfl) trivial (sqi 2) (fun ρ w hc h => ⟨.bool false, by simp [execOp, go_sem, h, hc, T1.out], rfl⟩)
      · exact q_move hp (free_of rfl) trivial (sqi 3)
      · exact q_loadInt (off := 0) hp (free_of rfl) (gq_some rfl rfl (by simp) rfl (fun v w h => h)) (List.mem_iff_getElem?.2 ⟨0, rfl⟩) (.inl rfl) (Nat.le_of_ble_eq_true rfl) (sq_out (s := 3) rfl rfl (fun _ _ => rfl)) (fun us w hl h => ld_num hl h)
      · exact q_addr (b := b1) (off := 0) (off' := 2) hp (free_of rfl) (gq_some rfl rfl (by simp) rfl (fun v w h => h)) (sq_out (s := 2) rfl rfl (fun _ _ => rfl)) (fun ρ w h => by simp [execOp, go_sem, h]) (fun _ => rfl)
      · exact q_loadInt (off := 2) hp (free_of rfl) (gq_some rfl rfl (by simp) rfl (fun v w h => h)) (List.mem_iff_getElem?.2 ⟨1, rfl⟩) (.inl rfl) (Nat.le_of_ble_eq_true rfl) (sqi 6) (fun us w hl h => ld_test2 hl h)
      · exact q_call2 (F := (Fq.num (pwv N b D)).P) (G := (Fq.num (z - 1)).P) hp (free_of rfl) (gq_some rfl rfl (by simp) rfl (fun v w h => h)) (enq_Cmp) (sqi 5) (sqi 7) (fun v v' w h h' => exCmp h h')
      · exact q_one (F := fun v _ => v = .int .i64 (cmpI (pwv N b D) (z - 1))) hp (free_of rfl) (gq_some rfl rfl (by simp) rfl (fun v w h => h)) (sqi 8) (fun ρ w hc h => ⟨.bool true, by simp [execOp, go_sem, h, hc, T2.out], rfl⟩)
      · exact q_two (F := fun v _ => v = .bool false) (G := fun v _ => v = .bool true) hp (free_of rfl) trivial (sqi 4) (sqi 9) (fun ρ w hc h h' => ⟨_, by simp [execOp, go_sem, h, h'], rfl⟩)
      intro L vs w7 nb hL hC hn E7
      have e2 : vs 2 = .int .i64 (cmpI (pwv N b D) (1)) := hC 2 (by simp)
      have e3 : vs 3 = .bool false := hC 3 (by simp)
      have e4 : vs 4 = .bool false := hC 4 (by simp)
      have e6 : vs 6 = .pointer (some ⟨b1, 2, none⟩) := hC 6 (by simp)
      have e8 : vs 8 = .int .i64 (cmpI (pwv N b D) (z - 1)) := hC 8 (by simp)
      have e9 : vs 9 = .bool true := hC 9 (by simp)
      have e10 : vs 10 = .bool true := hC 10 (by simp)
      have E : Fr w [(b2, 2, Fq.num (pwv N b D)), (b1, 5, Fq.test z (z - 1) si)] w7 := E7
      rw [lay_all hL]
      simp only [putAll, dstOf, List.length_cons, List.length_nil, Nat.zero_add, Nat.reduceAdd, List.getElem?_toArray, List.getElem?_cons_zero, List.getElem?_cons_succ, Option.bind_some, Act.put, List.setIfInBounds_toArray, List.set_cons_succ, List.set_cons_zero]
      rw [e2, e3, e4, e6, e8, e9, e10]
      generalize vs 0 = u7_0
      generalize vs 1 = u7_1
      generalize vs 5 = u7_5
      generalize vs 7 = u7_7
      clear e2 e3 e4 e6 e8 e9 e10 hC hn E7 hL vs L nb
      go_upto_region 2 with (fail)
      refine region_fr (C := [Fq.is (.bool true)]) (ks := [none, none]) (new := []) E rfl (by kernel_rfl) rfl rfl (fun hp => ⟨?_, trivial⟩) ?_
      · exact q_assign hp (free_of rfl) trivial (sq_const (fun _ => rfl))
      intro L vs w8 nb hL hC hn E8
      have e0 : vs 0 = .bool true := hC 0 (by simp)
      have E : Fr w [(b2, 2, Fq.num (pwv N b D)), (b1, 5, Fq.test z (z - 1) si)] w8 := E8
      rw [lay_all hL]
      simp only [putAll, dstOf, List.length_cons, List.length_nil, Nat.zero_add, List.getElem?_toArray, List.getElem?_cons_zero, Option.bind_some, Act.put, List.setIfInBounds_toArray, List.set_cons_succ, List.set_cons_zero]
      rw [e0]
      clear e0 hC hn E8 hL vs L nb
      clear T1 T2 H1 HZN HN2 HS HSI HSB HM HN0
      clear B6 hn Bx Bm
      go_wp2
      refine bodyPost_ret (v := .bool true) ?_ rfl ⟨_, rfl, E.below, rfl⟩
      simp [results, Tryd.results29, go_sem]
    · have T2 : Hid (¬ cmpI (pwv N b D) (z - 1) = 0) := cmpI_apart ht
      have HT0 := hidd (show ¬ b ^ D % N = N - 1 from fun e => ht ((pwv_top HZN.out HN0.out).2 e))
      obtain ⟨r, hr⟩ : ∃ r, r = s - 1 := ⟨_, rfl⟩
      have HR : Hid (s = r + 1) := by show s = r + 1; have := HSB.out; omega
      have WR : Hid (IntKind.i64.wrap (si - 1) = (r : Int)) := by show _ = _; rw [show si - 1 = (r : Int) by have := HSI.out; have := HR.out; omega]; exact IntWalk.i64_in _ (by have := HSB.out; have := HR.out; omega)
      clear hr ht
      have B9 : Hid (ab ((1)) < pw 3) := ab_lit (by decide)
      refine region_fr (C := [Fq.num (pwv N b D), Fq.num (1), Fq.is (.int .i64 (cmpI (pwv N b D) (1))), Fq.is (.bool false), Fq.is (.bool false), Fq.num (pwv N b D), Fq.is (.pointer (some ⟨b1, 2, none⟩)), Fq.num (z - 1), Fq.is (.int .i64 (cmpI (pwv N b D) (z - 1))), Fq.is (.bool false), Fq.is (.bool false)]) (ks := [none, none]) (new := []) E rfl (by kernel_rfl) rfl rfl (fun hp => ⟨?_, ?_, ?_, ?_, ?_, ?_, ?_, ?_, ?_, ?_, ?_, trivial⟩) ?_
      · exact q_loadInt (off := 0) hp (free_of rfl) trivial (List.mem_iff_getElem?.2 ⟨0, rfl⟩) (.inl rfl) (Nat.le_of_ble_eq_true rfl) (sq_out (s := 3) rfl rfl (fun _ _ => rfl)) (fun us w hl h => ld_num hl h)
      · exact q_call1 (F := (Fq.is (.int .i64 1)).P) hp (free_of rfl) trivial (enq_Of) (sq_const (fun _ => rfl)) (fun v w h => (by subst h; exact OfK w (1) (by omega) (by omega)))
      · exact q_call2 (F := (Fq.num (pwv N b D)).P) (G := (Fq.num (1)).P) hp (free_of rfl) trivial (enq_Cmp) (sqi 0) (sqi 1) (fun v v' w h h' => exCmp h h')
      · exact q_one (F := fun v _ => v = .int .i64 (cmpI (pwv N b D) (1))) hp (free_of rfl) trivial (sqi 2) (fun ρ w hc h => ⟨.bool false, by simp [execOp, go_sem, h, hc, T1.out], rfl⟩)
      · exact q_move hp (free_of rfl) trivial (sqi 3)
      · exact q_loadInt (off := 0) hp (free_of rfl) (gq_some rfl rfl (by simp) rfl (fun v w h => h)) (List.mem_iff_getElem?.2 ⟨0, rfl⟩) (.inl rfl) (Nat.le_of_ble_eq_true rfl) (sq_out (s := 3) rfl rfl (fun _ _ => rfl)) (fun us w hl h => ld_num hl h)
      · exact q_addr (b := b1) (off := 0) (off' := 2) hp (free_of rfl) (gq_some rfl rfl (by simp) rfl (fun v w h => h)) (sq_out (s := 2) rfl rfl (fun _ _ => rfl)) (fun ρ w h => by simp [execOp, go_sem, h]) (fun _ => rfl)
      · exact q_loadInt (off := 2) hp (free_of rfl) (gq_some rfl rfl (by simp) rfl (fun v w h => h)) (List.mem_iff_getElem?.2 ⟨1, rfl⟩) (.inl rfl) (Nat.le_of_ble_eq_true rfl) (sqi 6) (fun us w hl h => ld_test2 hl h)
      · exact q_call2 (F := (Fq.num (pwv N b D)).P) (G := (Fq.num (z - 1)).P) hp (free_of rfl) (gq_some rfl rfl (by simp) rfl (fun v w h => h)) (enq_Cmp) (sqi 5) (sqi 7) (fun v v' w h h' => exCmp h h')
      · exact q_one (F := fun v _ => v = .int .i64 (cmpI (pwv N b D) (z - 1))) hp (free_of rfl) (gq_some rfl rfl (by simp) rfl (fun v w h => h)) (sqi 8) (fun ρ w hc h => ⟨.bool false, by simp [execOp, go_sem, h, hc, T2.out], rfl⟩)
      · exact q_two (F := fun v _ => v = .bool false) (G := fun v _ => v = .bool false) hp (free_of rfl) trivial (sqi 4) (sqi 9) (fun ρ w hc h h' => ⟨_, by simp [execOp, go_sem, h, h'], rfl⟩)
      intro L vs w10 nb hL hC hn E10
      have e2 : vs 2 = .int .i64 (cmpI (pwv N b D) (1)) := hC 2 (by simp)
      have e3 : vs 3 = .bool false := hC 3 (by simp)
      have e4 : vs 4 = .bool false := hC 4 (by simp)
      have e6 : vs 6 = .pointer (some ⟨b1, 2, none⟩) := hC 6 (by simp)
      have e8 : vs 8 = .int .i64 (cmpI (pwv N b D) (z - 1)) := hC 8 (by simp)
      have e9 : vs 9 = .bool false := hC 9 (by simp)
      have e10 : vs 10 = .bool false := hC 10 (by simp)
      have E : Fr w [(b2, 2, Fq.num (pwv N b D)), (b1, 5, Fq.test z (z - 1) si)] w10 := E10
      rw [lay_all hL]
      simp only [putAll, dstOf, List.length_cons, List.length_nil, Nat.zero_add, Nat.reduceAdd, List.getElem?_toArray, List.getElem?_cons_zero, List.getElem?_cons_succ, Option.bind_some, Act.put, List.setIfInBounds_toArray, List.set_cons_succ, List.set_cons_zero]
      rw [e2, e3, e4, e6, e8, e9, e10]
      generalize vs 0 = u10_0
      generalize vs 1 = u10_1
      generalize vs 5 = u10_5
      generalize vs 7 = u10_7
      clear e2 e3 e4 e6 e8 e9 e10 hC hn E10 hL vs L nb
      clear T1 T2
      go_upto_region 3 with (fail)
      refine region_fr (C := [Fq.is (.pointer (some ⟨b1, 4, none⟩)), Fq.is (.int .i64 si), Fq.is (.int .i64 (r : Int)), Fq.is (.int .i64 0)]) (ks := [none, none]) (new := []) E rfl (by kernel_rfl) rfl rfl (fun hp => ⟨?_, ?_, ?_, ?_, trivial⟩) ?_
      · exact q_addr (b := b1) (off := 0) (off' := 4) hp (free_of rfl) trivial (sq_out (s := 2) rfl rfl (fun _ _ => rfl)) (fun ρ w h => by simp [execOp, go_sem, h]) (fun _ => rfl)
      · exact q_loadTs (r := si) hp (free_of rfl) trivial (List.mem_iff_getElem?.2 ⟨1, rfl⟩) (.inl rfl) rfl (sqi 0) (fun us w hl h => ld_test4 hl h) (fun _ => rfl)
      · exact q_one (F := fun v _ => v = .int .i64 si) hp (free_of rfl) trivial (sqi 1) (fun ρ w hc h => ⟨.int .i64 (r : Int), by simp [execOp, go_sem, h, hc, WR.out], rfl⟩)
      · exact q_move hp (free_of rfl) trivial (sq_const (fun _ => rfl))
      intro L vs w11 nb hL hC hn E11
      have e0 : vs 0 = .pointer (some ⟨b1, 4, none⟩) := hC 0 (by simp)
      have e1 : vs 1 = .int .i64 si := hC 1 (by simp)
      have e2 : vs 2 = .int .i64 (r : Int) := hC 2 (by simp)
      have e3 : vs 3 = .int .i64 0 := hC 3 (by simp)
      have E : Fr w [(b2, 2, Fq.num (pwv N b D)), (b1, 5, Fq.test z (z - 1) si)] w11 := E11
      rw [lay_all hL]
      simp only [putAll, dstOf, List.length_cons, List.length_nil, Nat.zero_add, Nat.reduceAdd, List.getElem?_toArray, List.getElem?_cons_zero, List.getElem?_cons_succ, Option.bind_some, Act.put, List.setIfInBounds_toArray, List.set_cons_succ, List.set_cons_zero]
      rw [e0, e1, e2, e3]
      clear e0 e1 e2 e3 hC hn E11 hL vs L nb
      clear WR
      have HSE := hidd E
      go_upto_region 4 with (fail)
      go_loopw [19] (fun vi W => ∃ j : Nat, vi = .int .i64 (j : Int) ∧ j ≤ r ∧ (∀ t, t ≤ j → ¬ b ^ (2 ^ t * D) % N = N - 1) ∧ Fr w [(b2, 2, Fq.num (pwv N b (2 ^ j * D))), (b1, 5, Fq.test z (z - 1) si)] W) (fun vi _ => r - (intOf vi).toNat)
      case atStart => exact ⟨0, rfl, Nat.zero_le _, fun t ht => by rw [show t = 0 by omega, Nat.pow_zero, Nat.one_mul]; exact HT0.out, by rw [Nat.pow_zero, Nat.one_mul]; exact HSE.out⟩
      case round =>
        obtain ⟨j, rfl, hj, hall, E⟩ := hrel
        clear HSE
        have HALL := hidd hall
        have HJS := hidd hj
        have By : Hid (ab (pwv N b (2 ^ j * D)) < pw 3) := pwv_lt HZN.out HN0.out hn.out
        clear hall
        by_cases hjs : j < r
        · have TL : Hid ((j : Int) < r) := by show (j : Int) < r; omega
          have HJ2 := hidd hjs
          clear hjs hj
          obtain ⟨t, htj⟩ : ∃ t, t = j + 1 := ⟨_, rfl⟩
          have HTJ := hidd htj
          have WJ : Hid (IntKind.i64.wrap ((j : Int) + 1) = (t : Int)) := by show _ = _; rw [show (j : Int) + 1 = (t : Int) by omega]; exact IntWalk.i64_in _ (by have := HJ2.out; have := HSB.out; have := HR.out; omega)
          have EZ : Hid ((pwv N b (2 ^ j * D) * pwv N b (2 ^ j * D)) % z = pwv N b (2 ^ t * D)) := by show _ = _; rw [pwv_sq HZN.out, htj, Nat.pow_succ]; congr 1; ac_rfl
          clear htj
          go_upto_region 4 with (fail)
          refine region_fr (C := [Fq.is (.bool true)]) (ks := [none, none]) (new := []) E rfl (by kernel_rfl) rfl rfl (fun hp => ⟨?_, trivial⟩) ?_
          · exact q_two (F := fun v _ => v = .int .i64 (j : Int)) (G := fun v _ => v = .int .i64 (r : Int)) hp (free_of rfl) trivial (sq_out (s := 19) rfl rfl (fun _ _ => rfl)) (sq_out (s := 18) rfl rfl (fun _ _ => rfl)) (fun ρ w hc h h' => ⟨.bool true, by simp [execOp, go_sem, h, h', TL.out], rfl⟩)
          intro L vs w12 nb hL hC hn E12
          have e0 : vs 0 = .bool true := hC 0 (by simp)
          have E : Fr w [(b2, 2, Fq.num (pwv N b (2 ^ j * D))), (b1, 5, Fq.test z (z - 1) si)] w12 := E12
          rw [lay_all hL]
          simp only [putAll, dstOf, List.length_cons, List.length_nil, Nat.zero_add, List.getElem?_toArray, List.getElem?_cons_zero, Option.bind_some, Act.put, List.setIfInBounds_toArray, List.set_cons_succ, List.set_cons_zero]
          rw [e0]
          clear e0 hC hn E12 hL vs L nb
          clear TL
          go_upto_region 5 with (fail)
          refine region_fr (C := [Fq.test z (z - 1) si, Fq.num (pwv N b (2 ^ j * D)), Fq.num (pwv N b (2 ^ j * D)), Fq.num ((pwv N b (2 ^ j * D)) * (pwv N b (2 ^ j * D)) % z), Fq.any]) (ks := [some (4, Fq.num ((pwv N b (2 ^ j * D)) * (pwv N b (2 ^ j * D)) % z)), none]) (new := []) E rfl (by kernel_rfl) rfl rfl (fun hp => ⟨?_, ?_, ?_, ?_, ?_, trivial⟩) ?_
          · exact q_loadTest hp (free_of rfl) trivial (List.mem_iff_getElem?.2 ⟨1, rfl⟩) (.inl rfl) rfl (sq_out (s := 2) rfl rfl (fun _ _ => rfl)) (fun us w hl h => h)
          · exact q_loadInt (off := 0) hp (free_of rfl) trivial (List.mem_iff_getElem?.2 ⟨0, rfl⟩) (.inr rfl) (Nat.le_of_ble_eq_true rfl) (sq_out (s := 3) rfl rfl (fun _ _ => rfl)) (fun us w hl h => ld_num hl h)
          · exact q_loadInt (off := 0) hp (free_of rfl) trivial (List.mem_iff_getElem?.2 ⟨0, rfl⟩) (.inr rfl) (Nat.le_of_ble_eq_true rfl) (sq_out (s := 3) rfl rfl (fun _ _ => rfl)) (fun us w hl h => ld_num hl h)
          · exact q_call3 (F := (Fq.test z (z - 1) si).P) (G := (Fq.num (pwv N b (2 ^ j * D))).P) (F3 := (Fq.num (pwv N b (2 ^ j * D))).P) hp (free_of rfl) trivial (enq_f_algorist_prime_test_mul) (sqi 0) (sqi 1) (sqi 2) (fun v v' u w h h' g => exTMul h h' g (Int.lt_of_lt_of_le By.out (pw_le (by omega))) (Int.lt_of_lt_of_le By.out (pw_le (by omega))) (Int.lt_of_lt_of_le hn.out (pw_le (by omega))) HM.out)
          · exact q_storeOldInt hp (List.mem_iff_getElem?.2 ⟨0, rfl⟩) rfl rfl (sq_out (s := 3) rfl rfl (fun _ _ => rfl)) (sq_in 3 rfl rfl (by simp) rfl (fun v w h => intV_num h)) (fun _ _ => trivial) (newik_ne rfl)
          intro L vs w13 nb hL hC hn E13
          have E : Fr w [(b2, 2, Fq.num ((pwv N b (2 ^ j * D)) * (pwv N b (2 ^ j * D)) % z)), (b1, 5, Fq.test z (z - 1) si)] w13 := E13
          rw [lay_all hL]
          simp only [putAll, dstOf, List.length_cons, List.length_nil, Nat.zero_add, Nat.reduceAdd, List.getElem?_toArray, List.getElem?_cons_zero, List.getElem?_cons_succ, Option.bind_some, Act.put, List.setIfInBounds_toArray, List.set_cons_succ, List.set_cons_zero]
          generalize vs 0 = u13_0
          generalize vs 1 = u13_1
          generalize vs 2 = u13_2
          generalize vs 3 = u13_3
          clear  hC hn E13 hL vs L nb
          rw [EZ.out] at E
          clear EZ
          have Bz : Hid (ab (pwv N b (2 ^ t * D)) < pw 3) := pwv_lt HZN.out HN0.out hn.out
          by_cases ht : pwv N b (2 ^ t * D) = z - 1
          · have T2 : Hid (cmpI (pwv N b (2 ^ t * D)) (z - 1) = 0) := cmpI_same ht
            have e : S = true := HS.out.2 (.inr ⟨t, by have := HTJ.out; have := HJ2.out; have := HR.out; omega, (pwv_top HZN.out HN0.out).1 ht⟩)
            subst e
            clear ht
            go_upto_region 6 with (fail)
            refine region_fr (C := [Fq.num (pwv N b (2 ^ t * D)), Fq.is (.pointer (some ⟨b1, 2, none⟩)), Fq.num (z - 1), Fq.is (.int .i64 (cmpI (pwv N b (2 ^ t * D)) (z - 1))), Fq.is (.bool true)]) (ks := [none, none]) (new := []) E rfl (by kernel_rfl) rfl rfl (fun hp => ⟨?_, ?_, ?_, ?_, ?_, trivial⟩) ?_
            · exact q_loadInt (off := 0) hp (free_of rfl) trivial (List.mem_iff_getElem?.2 ⟨0, rfl⟩) (.inl rfl) (Nat.le_of_ble_eq_true rfl) (sq_out (s := 3) rfl rfl (fun _ _ => rfl)) (fun us w hl h => ld_num hl h)
            · exact q_addr (b := b1) (off := 0) (off' := 2) hp (free_of rfl) trivial (sq_out (s := 2) rfl rfl (fun _ _ => rfl)) (fun ρ w h => by simp [execOp, go_sem, h]) (fun _ => rfl)
            · exact q_loadInt (off := 2) hp (free_of rfl) trivial (List.mem_iff_getElem?.2 ⟨1, rfl⟩) (.inl rfl) (Nat.le_of_ble_eq_true rfl) (sqi 1) (fun us w hl h => ld_test2 hl h)
            · exact q_call2 (F := (Fq.num (pwv N b (2 ^ t * D))).P) (G := (Fq.num (z - 1)).P) hp (free_of rfl) trivial (enq_Cmp) (sqi 0) (sqi 2) (fun v v' w h h' => exCmp h h')
            · exact q_one (F := fun v _ => v = .int .i64 (cmpI (pwv N b (2 ^ t * D)) (z - 1))) hp (free_of rfl) trivial (sqi 3) (fun ρ w hc h => ⟨.bool true, by simp [execOp, go_sem, h, hc, T2.out], rfl⟩)
            intro L vs w14 nb hL hC hn E14
            have e1 : vs 1 = .pointer (some ⟨b1, 2, none⟩) := hC 1 (by simp)
            have e3 : vs 3 = .int .i64 (cmpI (pwv N b (2 ^ t * D)) (z - 1)) := hC 3 (by simp)
            have e4 : vs 4 = .bool true := hC 4 (by simp)
            have E : Fr w [(b2, 2, Fq.num (pwv N b (2 ^ t * D))), (b1, 5, Fq.test z (z - 1) si)] w14 := E14
            rw [lay_all hL]
            simp only [putAll, dstOf, List.length_cons, List.length_nil, Nat.zero_add, Nat.reduceAdd, List.getElem?_toArray, List.getElem?_cons_zero, List.getElem?_cons_succ, Option.bind_some, Act.put, List.setIfInBounds_toArray, List.set_cons_succ, List.set_cons_zero]
            rw [e1, e3, e4]
            generalize vs 0 = u14_0
            generalize vs 2 = u14_2
            clear e1 e3 e4 hC hn E14 hL vs L nb
            go_upto_region 7 with (fail)
            refine region_fr (C := [Fq.is (.bool true)]) (ks := [none, none]) (new := []) E rfl (by kernel_rfl) rfl rfl (fun hp => ⟨?_, trivial⟩) ?_
            · exact q_assign hp (free_of rfl) trivial (sq_const (fun _ => rfl))
            intro L vs w15 nb hL hC hn E15
            have e0 : vs 0 = .bool true := hC 0 (by simp)
            have E : Fr w [(b2, 2, Fq.num (pwv N b (2 ^ t * D))), (b1, 5, Fq.test z (z - 1) si)] w15 := E15
            rw [lay_all hL]
            simp only [putAll, dstOf, List.length_cons, List.length_nil, Nat.zero_add, List.getElem?_toArray, List.getElem?_cons_zero, Option.bind_some, Act.put, List.setIfInBounds_toArray, List.set_cons_succ, List.set_cons_zero]
            rw [e0]
            clear e0 hC hn E15 hL vs L nb
            clear T2 H1 HT0 HR HALL HJS HJ2 HTJ WJ HZN HN2 HS HSI HSB HM HN0
            clear B9 hn Bx Bm By Bz
            go_wp2
            refine bodyPost_ret (v := .bool true) ?_ rfl ⟨_, rfl, E.below, rfl⟩
            simp [results, Tryd.results29, go_sem]
          · have T2 : Hid (¬ cmpI (pwv N b (2 ^ t * D)) (z - 1) = 0) := cmpI_apart ht
            have HNT := hidd (show ¬ b ^ (2 ^ t * D) % N = N - 1 from fun e => ht ((pwv_top HZN.out HN0.out).2 e))
            clear ht
            go_upto_region 6 with (fail)
            refine region_fr (C := [Fq.num (pwv N b (2 ^ t * D)), Fq.is (.pointer (some ⟨b1, 2, none⟩)), Fq.num (z - 1), Fq.is (.int .i64 (cmpI (pwv N b (2 ^ t * D)) (z - 1))), Fq.is (.bool false)]) (ks := [none, none]) (new := []) E rfl (by kernel_rfl) rfl rfl (fun hp => ⟨?_, ?_, ?_, ?_, ?_, trivial⟩) ?_
            · exact q_loadInt (off := 0) hp (free_of rfl) trivial (List.mem_iff_getElem?.2 ⟨0, rfl⟩) (.inl rfl) (Nat.le_of_ble_eq_true rfl) (sq_out (s := 3) rfl rfl (fun _ _ => rfl)) (fun us w hl h => ld_num hl h)
            · exact q_addr (b := b1) (off := 0) (off' := 2) hp (free_of rfl) trivial (sq_out (s := 2) rfl rfl (fun _ _ => rfl)) (fun ρ w h => by simp [execOp, go_sem, h]) (fun _ => rfl)
            · exact q_loadInt (off := 2) hp (free_of rfl) trivial (List.mem_iff_getElem?.2 ⟨1, rfl⟩) (.inl rfl) (Nat.le_of_ble_eq_true rfl) (sqi 1) (fun us w hl h => ld_test2 hl h)
            · exact q_call2 (F := (Fq.num (pwv N b (2 ^ t * D))).P) (G := (Fq.num (z - 1)).P) hp (free_of rfl) trivial (enq_Cmp) (sqi 0) (sqi 2) (fun v v' w h h' => exCmp h h')
            · exact q_one (F := fun v _ => v = .int .i64 (cmpI (pwv N b (2 ^ t * D)) (z - 1))) hp (free_of rfl) trivial (sqi 3) (fun ρ w hc h => ⟨.bool false, by simp [execOp, go_sem, h, hc, T2.out], rfl⟩)
            intro L vs w16 nb hL hC hn E16
            have e1 : vs 1 = .pointer (some ⟨b1, 2, none⟩) := hC 1 (by simp)
            have e3 : vs 3 = .int .i64 (cmpI (pwv N b (2 ^ t * D)) (z - 1)) := hC 3 (by simp)
            have e4 : vs 4 = .bool false := hC 4 (by simp)
            have E : Fr w [(b2, 2, Fq.num (pwv N b (2 ^ t * D))), (b1, 5, Fq.test z (z - 1) si)] w16 := E16
            rw [lay_all hL]
            simp only [putAll, dstOf, List.length_cons, List.length_nil, Nat.zero_add, Nat.reduceAdd, List.getElem?_toArray, List.getElem?_cons_zero, List.getElem?_cons_succ, Option.bind_some, Act.put, List.setIfInBounds_toArray, List.set_cons_succ, List.set_cons_zero]
            rw [e1, e3, e4]
            generalize vs 0 = u16_0
            generalize vs 2 = u16_2
            clear e1 e3 e4 hC hn E16 hL vs L nb
            clear T2
            have hw := WJ.out
            go_wp2
            go_roundw
            case rel => exact ⟨t, by first | rfl | rw [hw] | simp only [hw] | go_num, by have := HTJ.out; have := HJ2.out; omega, fun q hq => by
              have h9 := HTJ.out
              rcases Nat.lt_or_ge j q with h | h
              · rw [show q = t by omega]; exact HNT.out
              · exact HALL.out q h, E⟩
            case measure => have := HTJ.out; have := HJ2.out; first | (simp [intOf, hw]; omega) | (simp [intOf]; omega)
        · have TL : Hid (¬ (j : Int) < r) := by show ¬ _; omega
          have e : S = false := by
            cases hS9 : S with
            | false => rfl
            | true =>
              exfalso
              rcases HS.out.1 hS9 with h | ⟨i, hi, h⟩
              · exact H1.out (pwv_one.2 h)
              · exact HALL.out i (by have := HR.out; omega) h
          subst e
          clear hjs hj
          go_upto_region 4 with (fail)
          refine region_fr (C := [Fq.is (.bool false)]) (ks := [none, none]) (new := []) E rfl (by kernel_rfl) rfl rfl (fun hp => ⟨?_, trivial⟩) ?_
          · exact q_two (F := fun v _ => v = .int .i64 (j : Int)) (G := fun v _ => v = .int .i64 (r : Int)) hp (free_of rfl) trivial (sq_out (s := 19) rfl rfl (fun _ _ => rfl)) (sq_out (s := 18) rfl rfl (fun _ _ => rfl)) (fun ρ w hc h h' => ⟨.bool false, by simp [execOp, go_sem, h, h', TL.out], rfl⟩)
          intro L vs w17 nb hL hC hn E17
          have e0 : vs 0 = .bool false := hC 0 (by simp)
          have E : Fr w [(b2, 2, Fq.num (pwv N b (2 ^ j * D))), (b1, 5, Fq.test z (z - 1) si)] w17 := E17
          rw [lay_all hL]
          simp only [putAll, dstOf, List.length_cons, List.length_nil, Nat.zero_add, List.getElem?_toArray, List.getElem?_cons_zero, Option.bind_some, Act.put, List.setIfInBounds_toArray, List.set_cons_succ, List.set_cons_zero]
          rw [e0]
          clear e0 hC hn E17 hL vs L nb
          clear TL
          go_upto_region 9 with (fail)
          refine region_fr (C := [Fq.is (.bool false)]) (ks := [none, none]) (new := []) E rfl (by kernel_rfl) rfl rfl (fun hp => ⟨?_, trivial⟩) ?_
          · exact q_assign hp (free_of rfl) trivial (sq_const (fun _ => rfl))
          intro L vs w18 nb hL hC hn E18
          have e0 : vs 0 = .bool false := hC 0 (by simp)
          have E : Fr w [(b2, 2, Fq.num (pwv N b (2 ^ j * D))), (b1, 5, Fq.test z (z - 1) si)] w18 := E18
          rw [lay_all hL]
          simp only [putAll, dstOf, List.length_cons, List.length_nil, Nat.zero_add, List.getElem?_toArray, List.getElem?_cons_zero, Option.bind_some, Act.put, List.setIfInBounds_toArray, List.set_cons_succ, List.set_cons_zero]
          rw [e0]
          clear e0 hC hn E18 hL vs L nb
          clear H1 HT0 HR HALL HJS HZN HN2 HS HSI HSB HM HN0
          clear B9 hn Bx Bm By
          go_wp2
          refine bodyPost_ret (v := .bool false) ?_ rfl ⟨_, rfl, E.below, rfl⟩
          simp [results, Tryd.results29, go_sem]

end Go.Proofs.YtnhapjifddhdiaaDoor

namespace Go.Proofs.YtnhapjifddhdiaaDoor
open Go Go.RowKit

theorem pwv_base {N b : Nat} {z : Int} (hz : z = (N : Int)) (h1 : 2 < N) : (1 : Int) % z = pwv N b 0 := by
  rw [hz]
  unfold pwv
  rw [Nat.pow_zero, Nat.mod_eq_of_lt (by omega)]
  exact Int.emod_eq_of_lt (by omega) (by omega)
theorem pwv_step {N b e : Nat} {z y : Int} (hz : z = (N : Int)) (hy : y % z = pwv N b e) : (y * y % z) % z = pwv N b (2 * e) := by
  rw [Int.emod_emod_of_dvd _ (Int.dvd_refl z), Int.mul_emod, hy, pwv_sq hz]
theorem pwv_more {N b e : Nat} {z y bi : Int} (hz : z = (N : Int)) (hb : bi = (b : Int)) (hy : y % z = pwv N b e) : (y * bi) % z = pwv N b (e + 1) := by
  rw [Int.mul_emod, hy, hz, hb]
  unfold pwv
  rw [← Int.natCast_emod, ← Int.natCast_mul, ← Int.natCast_emod, Nat.pow_succ, Nat.mul_mod (b ^ e) b]
theorem ab_lit8 : ab (1 : Int) < pw 8 := by
  have h : ab (1 : Int) < pw 3 := ab_lit (by decide)
  exact Int.lt_of_lt_of_le h (pw_le (by omega))
set_option maxRecDepth 100000 in
set_option maxHeartbeats 4000000 in
theorem exTPower {w : World} {v : Value} {z si bi : Int} {N b D s : Nat} (h : Test w v z (z - 1) si) (hn : ab z < pw 3) (hzN : z = (N : Int)) (h2 : 2 < N) (hsi : si = (s : Int)) (hbi : bi = (b : Int)) (hb : 1 ≤ b ∧ b ≤ 9223372036854775807) (hs : N - 1 = 2 ^ s * D) (hsb : s ≤ nbits (z - 1)) :
    Calls Tryd.prog 30 #[v, .int .i64 bi] w fun e w' => ∃ v', e = .returned v' ∧ Below w.heap.size w w' ∧ Num w' v' (pwv N b D) := by
  replace hn := hidd hn
  have HZN := hidd hzN
  have HN2 := hidd h2
  have HSI := hidd hsi
  have HBI := hidd hbi
  have HB1 := hidd hb
  have HSD := hidd hs
  have HSB := hidd hsb
  have HM : Hid (z ≠ 0) := by show _ ≠ _; omega
  have B1l : Hid (ab (1 : Int) < pw 3) := ab_lit (by decide)
  have Bm : Hid (ab (z - 1) < pw 4) := ab_subB hn.out B1l.out (by omega) (by omega)
  have HBB : Hid (ab bi < pw 3) := by show ab bi < pw 3; rw [HBI.out]; have hp : pw 3 = 79228162514264337593543950336 := (by decide); rw [hp]; unfold ab; have := HB1.out; omega
  have HMN : Hid ((z - 1).natAbs = N - 1) := by show _ = _; omega
  have HNB : Hid (nbits (z - 1) ≤ 128) := nbits_le Bm.out
  clear hzN h2 hsi hbi hb hs hsb B1l
  obtain ⟨n0, ao0, k0, c0, n0', ao0', k0', c0', rfl, _, _⟩ := h.parts
  obtain ⟨w1, b1, hw1, hb1, hs1, E⟩ := fr_start w (F := Fq.test z (z - 1) si) (us := [.bool n0, .slice ao0 k0 c0, .bool n0', .slice ao0' k0' c0', .int .i64 si]) 55 rfl (by simp) (tame_test _ _ _ _ _ _ _ _ _) h
  obtain ⟨w2, b2, hw2, hb2, hs2, E⟩ := fr_more E hs1 (F := Fq.num 0) (us := [.bool false, .slice none 0 0]) 27 rfl (by simp) (tame_int _ _ _ _) (Num.zero _)
  go_enter Tryd.func30, Tryd.ntmps30
  go_upto_region 1 with (fail)
  rw [← hw1]
  rw [← hw2]
  rw [← hb2]
  rw [← hb1]
  clear hw1 hw2 hb1 hb2 hs2 hs1
  have B3 : Hid (ab ((1)) < pw 3) := ab_lit (by decide)
  refine region_fr (C := [Fq.is (.int .i64 bi), Fq.num bi, Fq.num (1), Fq.any, Fq.any, Fq.any, Fq.any]) (ks := [none, none]) (new := [⟨3, 5, 2, Fq.num 0, Fq.num bi, none⟩, ⟨4, 6, 2, Fq.num 0, Fq.num (1), none⟩]) E rfl (by kernel_rfl) rfl rfl (fun hp => ⟨?_, ?_, ?_, ?_, ?_, ?_, ?_, trivial⟩) ?_
  · exact q_move hp (free_of rfl) trivial (sq_out (s := 1) rfl rfl (fun _ _ => rfl))
  · exact q_call1 (F := (Fq.is (.int .i64 bi)).P) hp (free_of rfl) trivial (enq_Of) (sqi 0) (fun v w h => (by subst h; exact OfK w bi (by have := HBI.out; have := HB1.out; omega) (by have := HBI.out; have := HB1.out; omega)))
  · exact q_call1 (F := (Fq.is (.int .i64 1)).P) hp (free_of rfl) trivial (enq_Of) (sq_const (fun _ => rfl)) (fun v w h => (by subst h; exact OfK w (1) (by omega) (by omega)))
  · exact q_allocInt hp (List.mem_iff_getElem?.2 ⟨0, rfl⟩) rfl rfl rfl rfl (Nat.ne_of_beq_eq_false rfl) (fun _ _ => trivial) (old_ne rfl) (newk_ne rfl) (fun w => Num.zero w)
  · exact q_allocInt hp (List.mem_iff_getElem?.2 ⟨1, rfl⟩) rfl rfl rfl rfl (Nat.ne_of_beq_eq_false rfl) (fun _ _ => trivial) (old_ne rfl) (newk_ne rfl) (fun w => Num.zero w)
  · exact q_storeNewInt hp (List.mem_iff_getElem?.2 ⟨0, rfl⟩) rfl rfl rfl (own_ptr rfl rfl (by simp) rfl) (sq_in 1 rfl rfl (by simp) rfl (fun v w h => intV_num h)) (fun _ _ => trivial) (old_ne rfl) (newi_ne rfl)
  · exact q_storeNewInt hp (List.mem_iff_getElem?.2 ⟨1, rfl⟩) rfl rfl rfl (own_ptr rfl rfl (by simp) rfl) (sq_in 2 rfl rfl (by simp) rfl (fun v w h => intV_num h)) (fun _ _ => trivial) (old_ne rfl) (newi_ne rfl)
  intro L vs w4 nb hL hC hn E4
  have e0 : vs 0 = .int .i64 bi := hC 0 (by simp)
  have e3 : vs 3 = .pointer (some ⟨nb 3, 0, none⟩) := hn _ (List.mem_iff_getElem?.2 ⟨0, rfl⟩)
  have e4 : vs 4 = .pointer (some ⟨nb 4, 0, none⟩) := hn _ (List.mem_iff_getElem?.2 ⟨1, rfl⟩)
  have E : Fr w [(nb 3, 2, Fq.num bi), (nb 4, 2, Fq.num (1)), (b2, 2, Fq.num 0), (b1, 5, Fq.test z (z - 1) si)] w4 := E4
  rw [lay_all hL]
  simp only [putAll, dstOf, List.length_cons, List.length_nil, Nat.zero_add, Nat.reduceAdd, List.getElem?_toArray, List.getElem?_cons_zero, List.getElem?_cons_succ, Option.bind_some, Act.put, List.setIfInBounds_toArray, List.set_cons_succ, List.set_cons_zero]
  rw [e0, e3, e4]
  generalize nb 3 = b4_3 at E ⊢
  generalize nb 4 = b4_4 at E ⊢
  generalize vs 1 = u4_1
  generalize vs 2 = u4_2
  clear e0 e3 e4 hC hn E4 hL vs L nb
  have TW : Hid (IntKind.i64.wrap (((nbits (z - 1) : Nat) : Int) - 1) = ((nbits (z - 1) : Nat) : Int) - 1) := IntWalk.i64_in _ (by have := HNB.out; omega)
  go_upto_region 2 with (fail)
  refine region_fr (C := [Fq.is (.pointer (some ⟨b1, 2, none⟩)), Fq.num (z - 1), Fq.is (.int .i64 ((nbits (z - 1) : Nat) : Int)), Fq.is (.int .i64 (((nbits (z - 1) : Nat) : Int) - 1)), Fq.is (.int .i64 (((nbits (z - 1) : Nat) : Int) - 1))]) (ks := [none, none, none, none]) (new := []) E rfl (by kernel_rfl) rfl rfl (fun hp => ⟨?_, ?_, ?_, ?_, ?_, trivial⟩) ?_
  · exact q_addr (b := b1) (off := 0) (off' := 2) hp (free_of rfl) trivial (sq_out (s := 2) rfl rfl (fun _ _ => rfl)) (fun ρ w h => by simp [execOp, go_sem, h]) (fun _ => rfl)
  · exact q_loadInt (off := 2) hp (free_of rfl) trivial (List.mem_iff_getElem?.2 ⟨3, rfl⟩) (.inl rfl) (Nat.le_of_ble_eq_true rfl) (sqi 0) (fun us w hl h => ld_test2 hl h)
  · exact q_call1 (F := (Fq.num (z - 1)).P) hp (free_of rfl) trivial (enq_Bits) (sqi 1) (fun v w h => exBits h)
  · exact q_one (F := fun v _ => v = .int .i64 ((nbits (z - 1) : Nat) : Int)) hp (free_of rfl) trivial (sqi 2) (fun ρ w hc h => ⟨.int .i64 (((nbits (z - 1) : Nat) : Int) - 1), by simp [execOp, go_sem, h, hc, TW.out], rfl⟩)
  · exact q_assign hp (free_of rfl) trivial (sqi 3)
  intro L vs w5 nb hL hC hn E5
  have e0 : vs 0 = .pointer (some ⟨b1, 2, none⟩) := hC 0 (by simp)
  have e2 : vs 2 = .int .i64 ((nbits (z - 1) : Nat) : Int) := hC 2 (by simp)
  have e3 : vs 3 = .int .i64 (((nbits (z - 1) : Nat) : Int) - 1) := hC 3 (by simp)
  have e4 : vs 4 = .int .i64 (((nbits (z - 1) : Nat) : Int) - 1) := hC 4 (by simp)
  have E : Fr w [(b4_3, 2, Fq.num bi), (b4_4, 2, Fq.num (1)), (b2, 2, Fq.num 0), (b1, 5, Fq.test z (z - 1) si)] w5 := E5
  rw [lay_all hL]
  simp only [putAll, dstOf, List.length_cons, List.length_nil, Nat.zero_add, Nat.reduceAdd, List.getElem?_toArray, List.getElem?_cons_zero, List.getElem?_cons_succ, Option.bind_some, Act.put, List.setIfInBounds_toArray, List.set_cons_succ, List.set_cons_zero]
  rw [e0, e2, e3, e4]
  generalize vs 1 = u5_1
  clear e0 e2 e3 e4 hC hn E5 hL vs L nb
  clear TW
  have HSE := hidd E
  go_upto_region 3 with (fail)
  go_loopw [7] (fun vi W => ∃ (j : Nat) (y : Int), s ≤ j ∧ j ≤ nbits (z - 1) ∧ vi = .int .i64 ((j : Int) - 1) ∧ ab y < pw 8 ∧ y % z = pwv N b ((N - 1) / 2 ^ j) ∧ Fr w [(b4_3, 2, Fq.num bi), (b4_4, 2, Fq.num y), (b2, 2, Fq.num 0), (b1, 5, Fq.test z (z - 1) si)] W) (fun vi _ => (intOf vi + 1).toNat)
  case atStart => exact ⟨nbits (z - 1), 1, HSB.out, Nat.le_refl _, rfl, ab_lit8, by rw [← HMN.out, nbits_top]; exact pwv_base HZN.out HN2.out, HSE.out⟩
  case round =>
    obtain ⟨j, y, hj1, hj2, rfl, hy8, hyp, E⟩ := hrel
    clear HSE
    have By : Hid (ab y < pw 8) := hy8
    have HY := hidd hyp
    clear hy8 hyp
    by_cases hs1 : j ≤ s
    · have hjs : j = s := by omega
      subst hjs
      have TL : Hid (¬ ((j : Int) - 1) ≥ si) := by show ¬ _; have := HSI.out; omega
      have EZ : Hid (y * 1 % z = pwv N b D) := by show _ = _; rw [Int.mul_one, HY.out, HSD.out, Nat.mul_div_cancel_left _ (Nat.pow_pos (by omega))]
      clear hj1 hj2 hs1
      go_upto_region 3 with (fail)
      refine region_fr (C := [Fq.is (.int .i64 ((j : Int) - 1)), Fq.is (.pointer (some ⟨b1, 4, none⟩)), Fq.is (.int .i64 si), Fq.is (.bool false)]) (ks := [none, none, none, none]) (new := []) E rfl (by kernel_rfl) rfl rfl (fun hp => ⟨?_, ?_, ?_, ?_, trivial⟩) ?_
      · exact q_move hp (free_of rfl) trivial (sq_out (s := 7) rfl rfl (fun _ _ => rfl))
      · exact q_addr (b := b1) (off := 0) (off' := 4) hp (free_of rfl) trivial (sq_out (s := 2) rfl rfl (fun _ _ => rfl)) (fun ρ w h => by simp [execOp, go_sem, h]) (fun _ => rfl)
      · exact q_loadTs (r := si) hp (free_of rfl) trivial (List.mem_iff_getElem?.2 ⟨3, rfl⟩) (.inl rfl) rfl (sqi 1) (fun us w hl h => ld_test4 hl h) (fun _ => rfl)
      · exact q_two (F := fun v _ => v = .int .i64 ((j : Int) - 1)) (G := fun v _ => v = .int .i64 si) hp (free_of rfl) trivial (sqi 0) (sqi 2) (fun ρ w hc h h' => ⟨.bool false, by simp [execOp, go_sem, h, h', TL.out], rfl⟩)
      intro L vs w6 nb hL hC hn E6
      have e0 : vs 0 = .int .i64 ((j : Int) - 1) := hC 0 (by simp)
      have e1 : vs 1 = .pointer (some ⟨b1, 4, none⟩) := hC 1 (by simp)
      have e2 : vs 2 = .int .i64 si := hC 2 (by simp)
      have e3 : vs 3 = .bool false := hC 3 (by simp)
      have E : Fr w [(b4_3, 2, Fq.num bi), (b4_4, 2, Fq.num y), (b2, 2, Fq.num 0), (b1, 5, Fq.test z (z - 1) si)] w6 := E6
      rw [lay_all hL]
      simp only [putAll, dstOf, List.length_cons, List.length_nil, Nat.zero_add, Nat.reduceAdd, List.getElem?_toArray, List.getElem?_cons_zero, List.getElem?_cons_succ, Option.bind_some, Act.put, List.setIfInBounds_toArray, List.set_cons_succ, List.set_cons_zero]
      rw [e0, e1, e2, e3]
      clear e0 e1 e2 e3 hC hn E6 hL vs L nb
      clear TL
      go_upto_region 8 with (fail)
      refine region_fr (C := [Fq.test z (z - 1) si, Fq.num y, Fq.num (1), Fq.num (y * (1) % z), Fq.any]) (ks := [none, none, some (4, Fq.num (y * (1) % z)), none]) (new := []) E rfl (by kernel_rfl) rfl rfl (fun hp => ⟨?_, ?_, ?_, ?_, ?_, trivial⟩) ?_
      · exact q_loadTest hp (free_of rfl) trivial (List.mem_iff_getElem?.2 ⟨3, rfl⟩) (.inl rfl) rfl (sq_out (s := 2) rfl rfl (fun _ _ => rfl)) (fun us w hl h => h)
      · exact q_loadInt (off := 0) hp (free_of rfl) trivial (List.mem_iff_getElem?.2 ⟨1, rfl⟩) (.inl rfl) (Nat.le_of_ble_eq_true rfl) (sq_out (s := 6) rfl rfl (fun _ _ => rfl)) (fun us w hl h => ld_num hl h)
      · exact q_call1 (F := (Fq.is (.int .i64 1)).P) hp (free_of rfl) trivial (enq_Of) (sq_const (fun _ => rfl)) (fun v w h => (by subst h; exact OfK w (1) (by omega) (by omega)))
      · exact q_call3 (F := (Fq.test z (z - 1) si).P) (G := (Fq.num y).P) (F3 := (Fq.num (1)).P) hp (free_of rfl) trivial (enq_f_algorist_prime_test_mul) (sqi 0) (sqi 1) (sqi 2) (fun v v' u w h h' g => exTMul h h' g (Int.lt_of_lt_of_le By.out (pw_le (by omega))) (Int.lt_of_lt_of_le B3.out (pw_le (by omega))) (Int.lt_of_lt_of_le hn.out (pw_le (by omega))) HM.out)
      · exact q_storeOldInt hp (List.mem_iff_getElem?.2 ⟨2, rfl⟩) rfl rfl (sq_out (s := 4) rfl rfl (fun _ _ => rfl)) (sq_in 3 rfl rfl (by simp) rfl (fun v w h => intV_num h)) (fun _ _ => trivial) (newik_ne rfl)
      intro L vs w7 nb hL hC hn E7
      have E : Fr w [(b4_3, 2, Fq.num bi), (b4_4, 2, Fq.num y), (b2, 2, Fq.num (y * (1) % z)), (b1, 5, Fq.test z (z - 1) si)] w7 := E7
      rw [lay_all hL]
      simp only [putAll, dstOf, List.length_cons, List.length_nil, Nat.zero_add, Nat.reduceAdd, List.getElem?_toArray, List.getElem?_cons_zero, List.getElem?_cons_succ, Option.bind_some, Act.put, List.setIfInBounds_toArray, List.set_cons_succ, List.set_cons_zero]
      generalize vs 0 = u7_0
      generalize vs 1 = u7_1
      generalize vs 2 = u7_2
      generalize vs 3 = u7_3
      clear  hC hn E7 hL vs L nb
      obtain ⟨p0, p1, c0, c1, hP⟩ := box_num (E.box 2 rfl)
      clear B3 hn Bm HBB By
      rw [EZ.out] at hP
      clear EZ HY HZN HN2 HSI HBI HB1 HSD HSB HM HMN HNB
      go_wp2
      refine bodyPost_ret (v := .agg #[p0, p1]) ?_ rfl ⟨_, rfl, E.below, hP⟩
      simp [results, Tryd.results30, go_sem, c0, c1]
    · obtain ⟨i, rfl⟩ : ∃ i, j = i + 1 := ⟨j - 1, by omega⟩
      have ei : (((i + 1 : Nat) : Int) - 1) = (i : Int) := by omega
      rw [ei]
      have HJ := hidd hj2
      have HIS : Hid (s ≤ i) := by show s ≤ i; omega
      have TL : Hid ((i : Int) ≥ si) := by show si ≤ (i : Int); have := HSI.out; omega
      have hw : wrap64 ((i : Int) - 1) = (i : Int) - 1 := by have := HJ.out; have := HNB.out; simp only [wrap64]; omega
      have HE := hidd (pwv_step HZN.out HY.out)
      have hdd : (N - 1) / 2 ^ (i + 1) = (N - 1) / 2 ^ i / 2 := by rw [Nat.pow_succ, Nat.div_div_eq_div_mul]
      obtain ⟨m, hm⟩ : ∃ m, m = (N - 1) / 2 ^ i := ⟨_, rfl⟩
      rw [← hm] at hdd
      have HDD := hidd hdd
      have HMM := hidd hm
      clear ei hj1 hj2 hs1 hdd hm HY
      go_upto_region 3 with (fail)
      refine region_fr (C := [Fq.is (.int .i64 (i : Int)), Fq.is (.pointer (some ⟨b1, 4, none⟩)), Fq.is (.int .i64 si), Fq.is (.bool true)]) (ks := [none, none, none, none]) (new := []) E rfl (by kernel_rfl) rfl rfl (fun hp => ⟨?_, ?_, ?_, ?_, trivial⟩) ?_
      · exact q_move hp (free_of rfl) trivial (sq_out (s := 7) rfl rfl (fun _ _ => rfl))
      · exact q_addr (b := b1) (off := 0) (off' := 4) hp (free_of rfl) trivial (sq_out (s := 2) rfl rfl (fun _ _ => rfl)) (fun ρ w h => by simp [execOp, go_sem, h]) (fun _ => rfl)
      · exact q_loadTs (r := si) hp (free_of rfl) trivial (List.mem_iff_getElem?.2 ⟨3, rfl⟩) (.inl rfl) rfl (sqi 1) (fun us w hl h => ld_test4 hl h) (fun _ => rfl)
      · exact q_two (F := fun v _ => v = .int .i64 (i : Int)) (G := fun v _ => v = .int .i64 si) hp (free_of rfl) trivial (sqi 0) (sqi 2) (fun ρ w hc h h' => ⟨.bool true, by simp [execOp, go_sem, h, h', TL.out], rfl⟩)
      intro L vs w8 nb hL hC hn E8
      have e0 : vs 0 = .int .i64 (i : Int) := hC 0 (by simp)
      have e1 : vs 1 = .pointer (some ⟨b1, 4, none⟩) := hC 1 (by simp)
      have e2 : vs 2 = .int .i64 si := hC 2 (by simp)
      have e3 : vs 3 = .bool true := hC 3 (by simp)
      have E : Fr w [(b4_3, 2, Fq.num bi), (b4_4, 2, Fq.num y), (b2, 2, Fq.num 0), (b1, 5, Fq.test z (z - 1) si)] w8 := E8
      rw [lay_all hL]
      simp only [putAll, dstOf, List.length_cons, List.length_nil, Nat.zero_add, Nat.reduceAdd, List.getElem?_toArray, List.getElem?_cons_zero, List.getElem?_cons_succ, Option.bind_some, Act.put, List.setIfInBounds_toArray, List.set_cons_succ, List.set_cons_zero]
      rw [e0, e1, e2, e3]
      clear e0 e1 e2 e3 hC hn E8 hL vs L nb
      clear TL
      go_upto_region 5 with (fail)
      have B9 : Hid (ab ((y * y % z)) < pw 3) := ab_modB HM.out hn.out
      refine region_fr (C := [Fq.test z (z - 1) si, Fq.num y, Fq.num y, Fq.num (y * y % z), Fq.any]) (ks := [none, some (4, Fq.num (y * y % z)), none, none]) (new := []) E rfl (by kernel_rfl) rfl rfl (fun hp => ⟨?_, ?_, ?_, ?_, ?_, trivial⟩) ?_
      · exact q_loadTest hp (free_of rfl) trivial (List.mem_iff_getElem?.2 ⟨3, rfl⟩) (.inl rfl) rfl (sq_out (s := 2) rfl rfl (fun _ _ => rfl)) (fun us w hl h => h)
      · exact q_loadInt (off := 0) hp (free_of rfl) trivial (List.mem_iff_getElem?.2 ⟨1, rfl⟩) (.inr rfl) (Nat.le_of_ble_eq_true rfl) (sq_out (s := 6) rfl rfl (fun _ _ => rfl)) (fun us w hl h => ld_num hl h)
      · exact q_loadInt (off := 0) hp (free_of rfl) trivial (List.mem_iff_getElem?.2 ⟨1, rfl⟩) (.inr rfl) (Nat.le_of_ble_eq_true rfl) (sq_out (s := 6) rfl rfl (fun _ _ => rfl)) (fun us w hl h => ld_num hl h)
      · exact q_call3 (F := (Fq.test z (z - 1) si).P) (G := (Fq.num y).P) (F3 := (Fq.num y).P) hp (free_of rfl) trivial (enq_f_algorist_prime_test_mul) (sqi 0) (sqi 1) (sqi 2) (fun v v' u w h h' g => exTMul h h' g (Int.lt_of_lt_of_le By.out (pw_le (by omega))) (Int.lt_of_lt_of_le By.out (pw_le (by omega))) (Int.lt_of_lt_of_le hn.out (pw_le (by omega))) HM.out)
      · exact q_storeOldInt hp (List.mem_iff_getElem?.2 ⟨1, rfl⟩) rfl rfl (sq_out (s := 6) rfl rfl (fun _ _ => rfl)) (sq_in 3 rfl rfl (by simp) rfl (fun v w h => intV_num h)) (fun _ _ => trivial) (newik_ne rfl)
      intro L vs w10 nb hL hC hn E10
      have E : Fr w [(b4_3, 2, Fq.num bi), (b4_4, 2, Fq.num (y * y % z)), (b2, 2, Fq.num 0), (b1, 5, Fq.test z (z - 1) si)] w10 := E10
      rw [lay_all hL]
      simp only [putAll, dstOf, List.length_cons, List.length_nil, Nat.zero_add, Nat.reduceAdd, List.getElem?_toArray, List.getElem?_cons_zero, List.getElem?_cons_succ, Option.bind_some, Act.put, List.setIfInBounds_toArray, List.set_cons_succ, List.set_cons_zero]
      generalize vs 0 = u10_0
      generalize vs 1 = u10_1
      generalize vs 2 = u10_2
      generalize vs 3 = u10_3
      clear  hC hn E10 hL vs L nb
      by_cases hb : m % 2 = 1
      · have TB : Hid (decide ((z - 1).natAbs / 2 ^ i % 2 = 1) = true) := decide_eq_true (by rw [HMN.out, ← HMM.out]; exact hb)
        have EZ : Hid ((y * y % z * bi) % z = pwv N b m) := by show _ = _; have h9 := pwv_more HZN.out HBI.out HE.out; rw [show 2 * ((N - 1) / 2 ^ (i + 1)) + 1 = m by rw [HDD.out]; omega] at h9; exact h9
        clear hb
        go_upto_region 6 with (fail)
        refine region_fr (C := [Fq.is (.pointer (some ⟨b1, 2, none⟩)), Fq.num (z - 1), Fq.is (.int .i64 (i : Int)), Fq.is (.bool true)]) (ks := [none, none, none, none]) (new := []) E rfl (by kernel_rfl) rfl rfl (fun hp => ⟨?_, ?_, ?_, ?_, trivial⟩) ?_
        · exact q_addr (b := b1) (off := 0) (off' := 2) hp (free_of rfl) trivial (sq_out (s := 2) rfl rfl (fun _ _ => rfl)) (fun ρ w h => by simp [execOp, go_sem, h]) (fun _ => rfl)
        · exact q_loadInt (off := 2) hp (free_of rfl) trivial (List.mem_iff_getElem?.2 ⟨3, rfl⟩) (.inl rfl) (Nat.le_of_ble_eq_true rfl) (sqi 0) (fun us w hl h => ld_test2 hl h)
        · exact q_move hp (free_of rfl) trivial (sq_out (s := 7) rfl rfl (fun _ _ => rfl))
        · exact q_call2 (F := (Fq.num (z - 1)).P) (G := (Fq.is (.int .i64 (i : Int))).P) hp (free_of rfl) trivial (enq_f_algorist_prime_bit) (sqi 1) (sqi 2) (fun v v' w h h' => (by subst h'; exact exPBit h (by have := HJ.out; omega) TB.out))
        intro L vs w11 nb hL hC hn E11
        have e0 : vs 0 = .pointer (some ⟨b1, 2, none⟩) := hC 0 (by simp)
        have e2 : vs 2 = .int .i64 (i : Int) := hC 2 (by simp)
        have e3 : vs 3 = .bool true := hC 3 (by simp)
        have E : Fr w [(b4_3, 2, Fq.num bi), (b4_4, 2, Fq.num (y * y % z)), (b2, 2, Fq.num 0), (b1, 5, Fq.test z (z - 1) si)] w11 := E11
        rw [lay_all hL]
        simp only [putAll, dstOf, List.length_cons, List.length_nil, Nat.zero_add, Nat.reduceAdd, List.getElem?_toArray, List.getElem?_cons_zero, List.getElem?_cons_succ, Option.bind_some, Act.put, List.setIfInBounds_toArray, List.set_cons_succ, List.set_cons_zero]
        rw [e0, e2, e3]
        generalize vs 1 = u11_1
        clear e0 e2 e3 hC hn E11 hL vs L nb
        clear TB
        go_upto_region 7 with (fail)
        have B12 : Hid (ab (((y * y % z) * bi)) < pw 6) := ab_mulM B9.out HBB.out (by omega)
        refine region_fr (C := [Fq.num (y * y % z), Fq.num bi, Fq.num ((y * y % z) * bi), Fq.any]) (ks := [none, some (3, Fq.num ((y * y % z) * bi)), none, none]) (new := []) E rfl (by kernel_rfl) rfl rfl (fun hp => ⟨?_, ?_, ?_, ?_, trivial⟩) ?_
        · exact q_loadInt (off := 0) hp (free_of rfl) trivial (List.mem_iff_getElem?.2 ⟨1, rfl⟩) (.inr rfl) (Nat.le_of_ble_eq_true rfl) (sq_out (s := 6) rfl rfl (fun _ _ => rfl)) (fun us w hl h => ld_num hl h)
        · exact q_loadInt (off := 0) hp (free_of rfl) trivial (List.mem_iff_getElem?.2 ⟨0, rfl⟩) (.inl rfl) (Nat.le_of_ble_eq_true rfl) (sq_out (s := 5) rfl rfl (fun _ _ => rfl)) (fun us w hl h => ld_num hl h)
        · exact q_call2 (F := (Fq.num (y * y % z)).P) (G := (Fq.num bi).P) hp (free_of rfl) trivial (enq_Mul) (sqi 0) (sqi 1) (fun v v' w h h' => exK (MulV h h') B12.out (by omega))
        · exact q_storeOldInt hp (List.mem_iff_getElem?.2 ⟨1, rfl⟩) rfl rfl (sq_out (s := 6) rfl rfl (fun _ _ => rfl)) (sq_in 2 rfl rfl (by simp) rfl (fun v w h => intV_num h)) (fun _ _ => trivial) (newik_ne rfl)
        intro L vs w13 nb hL hC hn E13
        have E : Fr w [(b4_3, 2, Fq.num bi), (b4_4, 2, Fq.num ((y * y % z) * bi)), (b2, 2, Fq.num 0), (b1, 5, Fq.test z (z - 1) si)] w13 := E13
        rw [lay_all hL]
        simp only [putAll, dstOf, List.length_cons, List.length_nil, Nat.zero_add, Nat.reduceAdd, List.getElem?_toArray, List.getElem?_cons_zero, List.getElem?_cons_succ, Option.bind_some, Act.put, List.setIfInBounds_toArray, List.set_cons_succ, List.set_cons_zero]
        generalize vs 0 = u13_0
        generalize vs 1 = u13_1
        generalize vs 2 = u13_2
        clear  hC hn E13 hL vs L nb
        have hw2 := hw
        go_wp2
        go_roundw
        case rel => exact ⟨i, (y * y % z * bi), HIS.out, by have := HJ.out; omega, by first | rfl | go_num | (rw [hw]; go_num), (Int.lt_of_lt_of_le (ab_mulM (ab_modB HM.out hn.out) HBB.out (m := 6) (by omega)) (pw_le (by omega))), by rw [← HMM.out]; exact EZ.out, E⟩
        case measure => first | exact measP | (rw [hw]; exact measP)
      · have TB : Hid (decide ((z - 1).natAbs / 2 ^ i % 2 = 1) = false) := decide_eq_false (by rw [HMN.out, ← HMM.out]; exact hb)
        have EZ : Hid ((y * y % z) % z = pwv N b m) := by show _ = _; have h9 := HE.out; rw [show 2 * ((N - 1) / 2 ^ (i + 1)) = m by rw [HDD.out]; omega] at h9; exact h9
        clear hb
        go_upto_region 6 with (fail)
        refine region_fr (C := [Fq.is (.pointer (some ⟨b1, 2, none⟩)), Fq.num (z - 1), Fq.is (.int .i64 (i : Int)), Fq.is (.bool false)]) (ks := [none, none, none, none]) (new := []) E rfl (by kernel_rfl) rfl rfl (fun hp => ⟨?_, ?_, ?_, ?_, trivial⟩) ?_
        · exact q_addr (b := b1) (off := 0) (off' := 2) hp (free_of rfl) trivial (sq_out (s := 2) rfl rfl (fun _ _ => rfl)) (fun ρ w h => by simp [execOp, go_sem, h]) (fun _ => rfl)
        · exact q_loadInt (off := 2) hp (free_of rfl) trivial (List.mem_iff_getElem?.2 ⟨3, rfl⟩) (.inl rfl) (Nat.le_of_ble_eq_true rfl) (sqi 0) (fun us w hl h => ld_test2 hl h)
        · exact q_move hp (free_of rfl) trivial (sq_out (s := 7) rfl rfl (fun _ _ => rfl))
        · exact q_call2 (F := (Fq.num (z - 1)).P) (G := (Fq.is (.int .i64 (i : Int))).P) hp (free_of rfl) trivial (enq_f_algorist_prime_bit) (sqi 1) (sqi 2) (fun v v' w h h' => (by subst h'; exact exPBit h (by have := HJ.out; omega) TB.out))
        intro L vs w14 nb hL hC hn E14
        have e0 : vs 0 = .pointer (some ⟨b1, 2, none⟩) := hC 0 (by simp)
        have e2 : vs 2 = .int .i64 (i : Int) := hC 2 (by simp)
        have e3 : vs 3 = .bool false := hC 3 (by simp)
        have E : Fr w [(b4_3, 2, Fq.num bi), (b4_4, 2, Fq.num (y * y % z)), (b2, 2, Fq.num 0), (b1, 5, Fq.test z (z - 1) si)] w14 := E14
        rw [lay_all hL]
        simp only [putAll, dstOf, List.length_cons, List.length_nil, Nat.zero_add, Nat.reduceAdd, List.getElem?_toArray, List.getElem?_cons_zero, List.getElem?_cons_succ, Option.bind_some, Act.put, List.setIfInBounds_toArray, List.set_cons_succ, List.set_cons_zero]
        rw [e0, e2, e3]
        generalize vs 1 = u14_1
        clear e0 e2 e3 hC hn E14 hL vs L nb
        clear TB
        have hw2 := hw
        go_wp2
        go_roundw
        case rel => exact ⟨i, (y * y % z), HIS.out, by have := HJ.out; omega, by first | rfl | go_num | (rw [hw]; go_num), (Int.lt_of_lt_of_le (ab_modB HM.out hn.out) (pw_le (by omega))), by rw [← HMM.out]; exact EZ.out, E⟩
        case measure => first | exact measP | (rw [hw]; exact measP)

end Go.Proofs.YtnhapjifddhdiaaDoor

namespace Go.Proofs.YtnhapjifddhdiaaDoor
open Go Go.RowKit

def zeroTest : List Value := [.bool false, .slice none 0 0, .bool false, .slice none 0 0, .int .i64 0]
theorem Test.zero (w : World) : Test w (.agg zeroTest.toArray) 0 0 0 := ⟨_, _, _, _, _, _, _, _, rfl, Num.zero w, Num.zero w⟩
def TestV (F : Fq) (v : Value) (w : World) : Prop := ∃ n ao k c n' ao' k' c' r, v = .agg #[.bool n, .slice ao k c, .bool n', .slice ao' k' c', .int .i64 r] ∧ F.P v w
theorem Test.partsV {w : World} {v : Value} {z y r : Int} (h : Test w v z y r) : TestV (Fq.test z y r) v w := by
  have h0 := h
  obtain ⟨n, ao, k, c, n', ao', k', c', e, _, _⟩ := h
  exact ⟨n, ao, k, c, n', ao', k', c', r, e, h0⟩
section
variable {os : List Oper} {Q : Exit → Act → World → Prop} {a : Act} {p : Pq} {B B0 : Nat} {w0 : World}
variable {i s : Nat} {d : Option Tmp} {ty : TypeId} {ps : String} {af : Array Edge} {gd : Option (Nat × Bool)}
theorem q_buildTest {x y : Operand} {z y0 : Int} (hp : p.Ok B B0) (hF : p.Free i) (hg : GdQ os a p B B0 w0 af gd) (hx : SrcQ os a p B B0 w0 af x fun v w => Num w v z) (hy : SrcQ os a p B B0 w0 af y fun v w => Num w v y0) (hC : ∀ v w, Test w v z y0 0 → (p.c i).P v w) :
    StepQ os Q a p B B0 w0 i { dst := d, op := .build 55 #[(0, x), (1, y)], type := ty, pos := ps, after := af, guard := gd } := by
  refine stq_val hp hF hg fun L vs w hG hL hc hd => ?_
  have h1 := hx L vs w hG hd
  have h2 := hy L vs w hG hd
  obtain ⟨n, ao, k, c, e1⟩ := h1.parts
  obtain ⟨n', ao', k', c', e2⟩ := h2.parts
  refine ⟨.agg #[.bool n, .slice ao k c, .bool n', .slice ao' k' c', .int .i64 0], ?_, hC _ _ ⟨_, _, _, _, _, _, _, _, rfl, by rw [← e1]; exact h1, by rw [← e2]; exact h2⟩⟩
  generalize (lay os.toArray L vs os.toArray.size a).eval = ρ at e1 e2
  simp [execOp, go_sem, e1, e2]
theorem op_storeTest {ops : Array Oper} {K : Act → World → Prop} {w : World} {x y : Operand} {b : Nat} {us : List Value} {n : Bool} {ao : Option Addr} {k c : Nat} {n' : Bool} {ao' : Option Addr} {k' c' : Nat} {r : Int} (ho : ops[i]? = some { dst := d, op := .store 55 x y, type := ty, pos := ps, after := af, guard := none }) (hx : a.eval x = .pointer (some ⟨b, 0, none⟩)) (hy : a.eval y = .agg #[.bool n, .slice ao k c, .bool n', .slice ao' k' c', .int .i64 r]) (hat : At w b us) (hl : us.length = 5)
    (h : K (a.put d undef) (putFrom w b 0 [.bool n, .slice ao k c, .bool n', .slice ao' k' c', .int .i64 r])) : wpOp Tryd.prog ops Q i K a w := by
  refine wpOp_step ho fun K' hK => ?_
  obtain ⟨e0, f0⟩ := hat 0 (by omega)
  obtain ⟨e1, f1⟩ := hat 1 (by omega)
  obtain ⟨e2, f2⟩ := hat 2 (by omega)
  obtain ⟨e3, f3⟩ := hat 3 (by omega)
  obtain ⟨e4, f4⟩ := hat 4 (by omega)
  generalize us.getD 0 undef = u0 at e0
  generalize us.getD 1 undef = u1 at e1
  generalize us.getD 2 undef = u2 at e2
  generalize us.getD 3 undef = u3 at e3
  generalize us.getD 4 undef = u4 at e4
  have e : (execOp a.eval ({ dst := d, op := .store 55 x y, type := ty, pos := ps, after := af, guard := none } : Oper)).run Tryd.prog w = (.ok .skip (putFrom w b 0 [.bool n, .slice ao k c, .bool n', .slice ao' k' c', .int .i64 r])) := by
    generalize a.eval = ρ at hx hy
    simp [execOp, go_sem, hx, hy, e0, e1, e2, e3, e4, f0, f1, f2, f3, f4, putFrom]
  have hwn : Region.wanted ({ dst := d, op := .store 55 x y, type := ty, pos := ps, after := af, guard := none } : Oper) (yielded ops a.tmps) = true := rfl
  rw [if_pos hwn]
  unfold Oper.wp
  rw [e]
  exact hK _ _ h
theorem q_storeOldTest {o0 : Ob} {x y : Operand} (hp : p.Ok B B0) (hi : o0 ∈ p.old) (hki : o0.k = i) (hm : o0.m = 5) (hx : SrcQ os a p B B0 w0 af x fun u _ => u = .pointer (some ⟨o0.b, 0, none⟩)) (hy : SrcQ os a p B B0 w0 af y (TestV o0.F1))
    (hC : ∀ v w', (p.c i).P v w') (h2 : ∀ n ∈ p.new, n.i ≠ i ∧ n.k ≠ i) : StepQ os Q a p B B0 w0 i { dst := none, op := .store 55 x y, type := ty, pos := ps, after := af, guard := none } := by
  subst hki
  intro hio L vs w hG hL hd hc
  obtain ⟨n, ao, k, c, n', ao', k', c', r, e, hP⟩ := hy L vs w hG hd
  obtain ⟨us, g1, g2, g3, g4, g5⟩ := hG.old _ hi
  rw [e] at hP
  exact op_storeTest hio (hx L vs w hG hd) e g3 (by omega) ⟨undef, rfl, hG.storeOld hp hi (us := [.bool n, .slice ao k c, .bool n', .slice ao' k' c', .int .i64 r]) hm.symm (tame_test _ _ _ _ _ _ _ _ _) hP hC h2 _⟩
theorem op_allocTest {ops : Array Oper} {K : Act → World → Prop} {w : World} (ho : ops[i]? = some { dst := d, op := .alloc 55, type := ty, pos := ps, after := af, guard := none })
    (h : K (a.put d (.pointer (some ⟨w.heap.size, 0, none⟩))) (w.alloc (.cells zeroTest.toArray 55))) : wpOp Tryd.prog ops Q i K a w := by
  refine wpOp_step ho fun K' hK => ?_
  have e : (execOp a.eval ({ dst := d, op := .alloc 55, type := ty, pos := ps, after := af, guard := none } : Oper)).run Tryd.prog w = (.ok (.value (.pointer (some ⟨w.heap.size, 0, none⟩))) (w.alloc (.cells zeroTest.toArray 55))) := by
    generalize a.eval = ρ
    simp [execOp, go_sem, zeroTest]
  have hwn : Region.wanted ({ dst := d, op := .alloc 55, type := ty, pos := ps, after := af, guard := none } : Oper) (yielded ops a.tmps) = true := rfl
  rw [if_pos hwn]
  unfold Oper.wp
  rw [e]
  exact hK _ _ h
theorem q_allocTest {n0 : Nb} (hp : p.Ok B B0) (hi : n0 ∈ p.new) (hii : n0.i = i) (hsl : n0.s = none) (hm : n0.m = 5) (hk : leadsB os 9 n0.k i = true) (hki : n0.k ≠ i) (hC : ∀ v w', (p.c i).P v w') (h1 : ∀ o ∈ p.old, o.k ≠ i) (h2 : ∀ n ∈ p.new, n.k ≠ i) (hF : ∀ w', n0.F0.P (.agg zeroTest.toArray) w') :
    StepQ os Q a p B B0 w0 i { dst := d, op := .alloc 55, type := ty, pos := ps, after := af, guard := none } := by
  subst hii
  intro hio L vs w hG hL hd hc
  exact op_allocTest hio ⟨_, rfl, hG.alloc hp hi hsl (not_yet hc hk hL) hki hC h1 h2 _ (us := zeroTest) hm.symm (by omega) (tame_test _ _ _ _ _ _ _ _ _) hF⟩
theorem q_storeNewTest {n0 : Nb} {x y : Operand} (hp : p.Ok B B0) (hi : n0 ∈ p.new) (hki : n0.k = i) (hsl : n0.s = none) (hm : n0.m = 5) (hx : ∀ L vs w, p.G B B0 w0 L vs w → (∀ e ∈ af, Region.binds .any e = true → L e.on = true) → L n0.i = true ∧ (lay os.toArray L vs os.toArray.size a).eval x = vs n0.i) (hy : SrcQ os a p B B0 w0 af y (TestV n0.F1))
    (hC : ∀ v w', (p.c i).P v w') (h1 : ∀ o ∈ p.old, o.k ≠ i) (h2 : ∀ n ∈ p.new, n.i ≠ i) : StepQ os Q a p B B0 w0 i { dst := none, op := .store 55 x y, type := ty, pos := ps, after := af, guard := none } := by
  subst hki
  intro hio L vs w hG hL hd hc
  obtain ⟨hLi, hxe⟩ := hx L vs w hG hd
  obtain ⟨n, ao, k, c, n', ao', k', c', r, e, hP⟩ := hy L vs w hG hd
  obtain ⟨b, e1', e2, us, g1, g2, g3, g4, g5⟩ := hG.new _ hi hLi
  have e1 : vs n0.i = .pointer (some ⟨b, 0, none⟩) := by rw [e1']; unfold Nb.ptr; rw [hsl]
  rw [e] at hP
  exact op_storeTest hio (hxe.trans e1) e g3 (by omega) ⟨undef, rfl, hG.storeNew hp hi hLi (us := [.bool n, .slice ao k c, .bool n', .slice ao' k' c', .int .i64 r]) hm.symm (tame_test _ _ _ _ _ _ _ _ _) hP hC h1 h2 e1' _⟩
end
end Go.Proofs.YtnhapjifddhdiaaDoor

namespace Go.Proofs.YtnhapjifddhdiaaDoor
open Go Go.RowKit

theorem setCell_sameT {w : World} {a : Addr} {v : Value} (h : w.cell? a = some v) : w.setCell a v = w := by
  have e : (w.setCell a v).heap = w.heap := by
    unfold World.cell? at h
    unfold World.setCell
    apply Array.ext
    · simp
    · intro j h1 h2
      simp only [Array.getElem_modify]
      split
      · rename_i hj
        subst hj
        rw [Array.getElem?_eq_getElem h2] at h
        cases hc : w.heap[a.block] with
        | cells c el fr =>
          rw [hc] at h
          simp only at h
          split at h
          · cases h
          · rename_i hs
            simp only [hs, Bool.false_eq_true, if_false]
            congr 1
            apply Array.ext
            · simp
            · intro k g1 g2
              rw [Array.getElem_setIfInBounds]
              split
              · rename_i hk
                subst hk
                rw [Array.getElem?_eq_getElem g2] at h
                exact (Option.some.inj h).symm
              · rfl
        | _ => rfl
      · rfl
  have e2 : w.setCell a v = { w with heap := (w.setCell a v).heap } := rfl
  rw [e2, e]
section
variable {os : List Oper} {Q : Exit → Act → World → Prop} {a : Act} {p : Pq} {B B0 : Nat} {w0 : World}
variable {i s : Nat} {d : Option Tmp} {ty : TypeId} {ps : String} {af : Array Edge} {gd : Option (Nat × Bool)}
theorem op_storeTs {ops : Array Oper} {K : Act → World → Prop} {w : World} {x y : Operand} {b : Nat} {u0 u1 u2 u3 u4 : Value} {r : Int} (ho : ops[i]? = some { dst := d, op := .store 3 x y, type := ty, pos := ps, after := af, guard := none }) (hx : a.eval x = .pointer (some ⟨b, 4, none⟩)) (hy : a.eval y = .int .i64 r) (hat : At w b [u0, u1, u2, u3, u4])
    (h : K (a.put d undef) (putFrom w b 0 [u0, u1, u2, u3, .int .i64 r])) : wpOp Tryd.prog ops Q i K a w := by
  refine wpOp_step ho fun K' hK => ?_
  obtain ⟨e0, f0⟩ := hat 0 (by simp)
  obtain ⟨e1, f1⟩ := hat 1 (by simp)
  obtain ⟨e2, f2⟩ := hat 2 (by simp)
  obtain ⟨e3, f3⟩ := hat 3 (by simp)
  obtain ⟨e4, f4⟩ := hat 4 (by simp)
  simp at e0 e1 e2 e3 e4
  have hput : putFrom w b 0 [u0, u1, u2, u3, .int .i64 r] = w.setCell ⟨b, 4, none⟩ (.int .i64 r) := by
    simp only [putFrom, Nat.zero_add, Nat.reduceAdd]
    rw [setCell_sameT e0, setCell_sameT e1, setCell_sameT e2, setCell_sameT e3]
  rw [hput] at h
  have e : (execOp a.eval ({ dst := d, op := .store 3 x y, type := ty, pos := ps, after := af, guard := none } : Oper)).run Tryd.prog w = (.ok .skip (w.setCell ⟨b, 4, none⟩ (.int .i64 r))) := by
    generalize a.eval = ρ at hx hy
    simp [execOp, go_sem, hx, hy, e4, f4]
  have hwn : Region.wanted ({ dst := d, op := .store 3 x y, type := ty, pos := ps, after := af, guard := none } : Oper) (yielded ops a.tmps) = true := rfl
  rw [if_pos hwn]
  unfold Oper.wp
  rw [e]
  exact hK _ _ h
theorem q_storeTs {o0 : Ob} {x y : Operand} {z y0 r r' : Int} (hp : p.Ok B B0) (hi : o0 ∈ p.old) (hki : o0.k = i) (hm : o0.m = 5) (hF0 : o0.F0 = Fq.test z y0 r) (hF1 : o0.F1 = Fq.test z y0 r') (hx : SrcQ os a p B B0 w0 af x fun u _ => u = .pointer (some ⟨o0.b, 4, none⟩)) (hy : SrcQ os a p B B0 w0 af y fun v _ => v = .int .i64 r')
    (hC : ∀ v w', (p.c i).P v w') (h2 : ∀ n ∈ p.new, n.i ≠ i ∧ n.k ≠ i) : StepQ os Q a p B B0 w0 i { dst := none, op := .store 3 x y, type := ty, pos := ps, after := af, guard := none } := by
  subst hki
  intro hio L vs w hG hL hd hc
  have e := hy L vs w hG hd
  obtain ⟨us, g1, g2, g3, g4, g5⟩ := hG.old _ hi
  rw [hL] at g5
  simp at g5
  rw [hF0] at g5
  obtain ⟨n, ao, k, c, n', ao', k', c', hv, h1, h3⟩ := g5
  injection hv with hv
  have hv2 := congrArg Array.toList hv
  simp at hv2
  subst hv2
  exact op_storeTs hio (hx L vs w hG hd) e g3 ⟨undef, rfl, hG.storeOld hp hi (us := [.bool n, .slice ao k c, .bool n', .slice ao' k' c', .int .i64 r']) hm.symm (tame_test _ _ _ _ _ _ _ _ _) (by rw [hF1]; exact ⟨_, _, _, _, _, _, _, _, rfl, h1, h3⟩) hC h2 _⟩
end
end Go.Proofs.YtnhapjifddhdiaaDoor

namespace Go.Proofs.YtnhapjifddhdiaaDoor
open Go Go.RowKit

theorem box_test {w : World} {b : Nat} {z y r : Int} (h : Bq w b 5 (Fq.test z y r)) : ∃ p0 p1 p2 p3 p4, w.cell? ⟨b, 0, none⟩ = some p0 ∧ w.cell? ⟨b, 1, none⟩ = some p1 ∧ w.cell? ⟨b, 2, none⟩ = some p2 ∧ w.cell? ⟨b, 3, none⟩ = some p3 ∧ w.cell? ⟨b, 4, none⟩ = some p4 ∧ Test w (.agg #[p0, p1, p2, p3, p4]) z y r ∧ p4 = .int .i64 r := by
  obtain ⟨us, hl, _, hat, _, hP⟩ := h
  match us, hl, hat, hP with
  | [p, q, r, s, t], _, hat, hP => exact ⟨p, q, r, s, t, (hat 0 (by simp)).1, (hat 1 (by simp)).1, (hat 2 (by simp)).1, (hat 3 (by simp)).1, (hat 4 (by simp)).1, hP, ld_test4 rfl hP⟩
theorem box_s {w : World} {b : Nat} {z y r : Int} (h : Bq w b 5 (Fq.test z y r)) : (w.cell? ⟨b, 4, none⟩).getD undef = .int .i64 r := by
  obtain ⟨_, _, _, _, _, _, _, _, _, h4, _, e⟩ := box_test h
  rw [h4, e]; rfl
theorem bits_above {m s D : Nat} {z : Int} (hz : z.natAbs = m) (h : m = 2 ^ s * D) (hD : 0 < D) : s < nbits z := by
  rcases Nat.lt_or_ge s (nbits z) with h1 | h1
  · exact h1
  · exfalso
    have h2 := nbits_top (z := z)
    have h3 : z.natAbs < 2 ^ nbits z := by
      rcases Nat.lt_or_ge z.natAbs (2 ^ nbits z) with h4 | h4
      · exact h4
      · have := Nat.div_pos h4 (Nat.pow_pos (by omega)); omega
    have h5 : 2 ^ nbits z ≤ 2 ^ s := Nat.pow_le_pow_right (by omega) h1
    have h6 : 2 ^ s * 1 ≤ 2 ^ s * D := Nat.mul_le_mul_left _ hD
    omega
set_option maxRecDepth 100000 in
set_option maxHeartbeats 4000000 in
theorem exNewTest {w : World} {v : Value} {z : Int} {N : Nat} (h : Num w v z) (ha : ab z < pw 3) (hzN : z = (N : Int)) (h2 : 2 < N) (ho : N % 2 = 1) :
    Calls Tryd.prog 28 #[v] w fun e w' => ∃ v', ∃ s D : Nat, e = .returned v' ∧ Below w.heap.size w w' ∧ N - 1 = 2 ^ s * D ∧ D % 2 = 1 ∧ 0 < s ∧ s ≤ 96 ∧ s ≤ nbits (z - 1) ∧ Test w' v' z (z - 1) (s : Int) := by
  replace ha := hidd ha
  have HZN := hidd hzN
  have HN2 := hidd h2
  have HNO := hidd ho
  have B1l : Hid (ab (1 : Int) < pw 3) := ab_lit (by decide)
  have Bm : Hid (ab (z - 1) < pw 4) := ab_subB ha.out B1l.out (by omega) (by omega)
  have HMN : Hid ((z - 1).natAbs = N - 1) := by show _ = _; omega
  clear hzN h2 ho B1l
  obtain ⟨n0, ao0, k0, c0, rfl⟩ := h.parts
  obtain ⟨w1, b1, hw1, hb1, hs1, E⟩ := fr_start w (F := Fq.num z) (us := [.bool n0, .slice ao0 k0 c0]) 27 rfl (by simp) (tame_int _ _ _ _) h
  obtain ⟨w2, b2, hw2, hb2, hs2, E⟩ := fr_more E hs1 (F := Fq.test 0 0 0) (us := [.bool false, .slice none 0 0, .bool false, .slice none 0 0, .int .i64 0]) 55 rfl (by simp) (tame_test _ _ _ _ _ _ _ _ _) (Test.zero _)
  go_enter Tryd.func28, Tryd.ntmps28
  go_upto_region 1 with (fail)
  rw [← hw1]
  rw [← hw2]
  rw [← hb2]
  rw [← hb1]
  clear hw1 hw2 hb1 hb2 hs2 hs1
  have B3 : Hid (ab ((1)) < pw 3) := ab_lit (by decide)
  refine region_fr (C := [Fq.num z, Fq.num z, Fq.num (1), Fq.num (z - 1), Fq.test z (z - 1) 0, Fq.any, Fq.any]) (ks := [none, none]) (new := [⟨5, 6, 5, Fq.test 0 0 0, Fq.test z (z - 1) 0, none⟩]) E rfl (by kernel_rfl) rfl rfl (fun hp => ⟨?_, ?_, ?_, ?_, ?_, ?_, ?_, trivial⟩) ?_
  · exact q_loadInt (off := 0) hp (free_of rfl) trivial (List.mem_iff_getElem?.2 ⟨1, rfl⟩) (.inl rfl) (Nat.le_of_ble_eq_true rfl) (sq_out (s := 1) rfl rfl (fun _ _ => rfl)) (fun us w hl h => ld_num hl h)
  · exact q_loadInt (off := 0) hp (free_of rfl) trivial (List.mem_iff_getElem?.2 ⟨1, rfl⟩) (.inl rfl) (Nat.le_of_ble_eq_true rfl) (sq_out (s := 1) rfl rfl (fun _ _ => rfl)) (fun us w hl h => ld_num hl h)
  · exact q_call1 (F := (Fq.is (.int .i64 1)).P) hp (free_of rfl) trivial (enq_Of) (sq_const (fun _ => rfl)) (fun v w h => (by subst h; exact OfK w (1) (by omega) (by omega)))
  · exact q_call2 (F := (Fq.num z).P) (G := (Fq.num (1)).P) hp (free_of rfl) trivial (enq_Sub) (sqi 1) (sqi 2) (fun v v' w h h' => exK (SubV h h') Bm.out (by omega))
  · exact q_buildTest (z := z) (y0 := (z - 1)) hp (free_of rfl) trivial (sqi 0) (sqi 3) (fun v w h => h)
  · exact q_allocTest hp (List.mem_iff_getElem?.2 ⟨0, rfl⟩) rfl rfl rfl rfl (Nat.ne_of_beq_eq_false rfl) (fun _ _ => trivial) (old_ne rfl) (newk_ne rfl) (fun w => Test.zero w)
  · exact q_storeNewTest hp (List.mem_iff_getElem?.2 ⟨0, rfl⟩) rfl rfl rfl (own_ptr rfl rfl (by simp) rfl) (sq_in 4 rfl rfl (by simp) rfl (fun v w h => h.partsV)) (fun _ _ => trivial) (old_ne rfl) (newi_ne rfl)
  intro L vs w4 nb hL hC hn E4
  have e5 : vs 5 = .pointer (some ⟨nb 5, 0, none⟩) := hn _ (List.mem_iff_getElem?.2 ⟨0, rfl⟩)
  have E : Fr w [(nb 5, 5, Fq.test z (z - 1) 0), (b2, 5, Fq.test 0 0 0), (b1, 2, Fq.num z)] w4 := E4
  rw [lay_all hL]
  simp only [putAll, dstOf, List.length_cons, List.length_nil, Nat.zero_add, Nat.reduceAdd, List.getElem?_toArray, List.getElem?_cons_zero, List.getElem?_cons_succ, Option.bind_some, Act.put, List.setIfInBounds_toArray, List.set_cons_succ, List.set_cons_zero]
  rw [e5]
  generalize nb 5 = b4_5 at E ⊢
  generalize vs 0 = u4_0
  generalize vs 1 = u4_1
  generalize vs 2 = u4_2
  generalize vs 3 = u4_3
  generalize vs 4 = u4_4
  clear e5 hC hn E4 hL vs L nb
  have HSE := hidd E
  go_upto_region 2 with (fail)
  go_loopw [9] (fun _ W => ∃ s D : Nat, N - 1 = 2 ^ s * D ∧ Fr w [(b4_5, 5, Fq.test z (z - 1) (s : Int)), (b2, 5, Fq.test 0 0 0), (b1, 2, Fq.num z)] W) (fun _ W => 96 - (intOf ((W.cell? ⟨b4_5, 4, none⟩).getD undef)).toNat)
  case atStart => exact ⟨0, N - 1, by rw [Nat.pow_zero, Nat.one_mul], HSE.out⟩
  case round =>
    obtain ⟨V1, rfl⟩ : ∃ V1, V1 = wr := ⟨_, rfl⟩
    obtain ⟨s, D, hsd, E⟩ := hrel
    clear HSE
    obtain ⟨hD0, hs96⟩ := twos_lt HZN.out HN2.out ha.out hsd
    have HSD := hidd hsd
    have HS96 := hidd hs96
    have HBA := hidd (bits_above HMN.out hsd hD0)
    have HV := hidd (box_s (E.box 0 rfl))
    have hdv : (N - 1) / 2 ^ s = D := by rw [hsd]; exact Nat.mul_div_cancel_left _ (Nat.pow_pos (by omega))
    have HDV := hidd hdv
    clear hsd hs96 hdv
    by_cases hb : D % 2 = 1
    · have TB : Hid (decide ((z - 1).natAbs / 2 ^ s % 2 = 1) = true) := decide_eq_true (by rw [HMN.out, HDV.out]; exact hb)
      have HDO := hidd hb
      have HS0 : Hid (0 < s) := by
        show 0 < s
        rcases Nat.eq_zero_or_pos s with h0 | h0
        · exfalso; have h1 := HSD.out; rw [h0, Nat.pow_zero, Nat.one_mul] at h1; have := HNO.out; have := HN2.out; omega
        · exact h0
      clear hb hD0
      go_upto_region 2 with (fail)
      refine region_fr (C := [Fq.is (.pointer (some ⟨b4_5, 2, none⟩)), Fq.num (z - 1), Fq.is (.pointer (some ⟨b4_5, 4, none⟩)), Fq.is (.int .i64 (s : Int)), Fq.is (.bool true), Fq.is (.bool false)]) (ks := [none, none, none]) (new := []) E rfl (by kernel_rfl) rfl rfl (fun hp => ⟨?_, ?_, ?_, ?_, ?_, ?_, trivial⟩) ?_
      · exact q_addr (b := b4_5) (off := 0) (off' := 2) hp (free_of rfl) trivial (sq_out (s := 3) rfl rfl (fun _ _ => rfl)) (fun ρ w h => by simp [execOp, go_sem, h]) (fun _ => rfl)
      · exact q_loadInt (off := 2) hp (free_of rfl) trivial (List.mem_iff_getElem?.2 ⟨0, rfl⟩) (.inl rfl) (Nat.le_of_ble_eq_true rfl) (sqi 0) (fun us w hl h => ld_test2 hl h)
      · exact q_addr (b := b4_5) (off := 0) (off' := 4) hp (free_of rfl) trivial (sq_out (s := 3) rfl rfl (fun _ _ => rfl)) (fun ρ w h => by simp [execOp, go_sem, h]) (fun _ => rfl)
      · exact q_loadTs (r := (s : Int)) hp (free_of rfl) trivial (List.mem_iff_getElem?.2 ⟨0, rfl⟩) (.inl rfl) rfl (sqi 2) (fun us w hl h => ld_test4 hl h) (fun _ => rfl)
      · exact q_call2 (F := (Fq.num (z - 1)).P) (G := (Fq.is (.int .i64 (s : Int))).P) hp (free_of rfl) trivial (enq_f_algorist_prime_bit) (sqi 1) (sqi 3) (fun v v' w h h' => (by subst h'; exact exPBit h HBA.out TB.out))
      · exact q_one (F := fun v _ => v = .bool true) hp (free_of rfl) trivial (sqi 4) (fun ρ w _ h => ⟨.bool false, by simp [execOp, go_sem, h], rfl⟩)
      intro L vs w5 nb hL hC hn E5
      have e0 : vs 0 = .pointer (some ⟨b4_5, 2, none⟩) := hC 0 (by simp)
      have e2 : vs 2 = .pointer (some ⟨b4_5, 4, none⟩) := hC 2 (by simp)
      have e3 : vs 3 = .int .i64 (s : Int) := hC 3 (by simp)
      have e4 : vs 4 = .bool true := hC 4 (by simp)
      have e5 : vs 5 = .bool false := hC 5 (by simp)
      have E : Fr w [(b4_5, 5, Fq.test z (z - 1) (s : Int)), (b2, 5, Fq.test 0 0 0), (b1, 2, Fq.num z)] w5 := E5
      rw [lay_all hL]
      simp only [putAll, dstOf, List.length_cons, List.length_nil, Nat.zero_add, Nat.reduceAdd, List.getElem?_toArray, List.getElem?_cons_zero, List.getElem?_cons_succ, Option.bind_some, Act.put, List.setIfInBounds_toArray, List.set_cons_succ, List.set_cons_zero]
      rw [e0, e2, e3, e4, e5]
      generalize vs 1 = u5_1
      clear e0 e2 e3 e4 e5 hC hn E5 hL vs L nb
      clear TB
      go_upto_region 4 with (fail)
      refine region_fr (C := [Fq.test z (z - 1) (s : Int), Fq.any]) (ks := [none, some (1, Fq.test z (z - 1) (s : Int)), none]) (new := []) E rfl (by kernel_rfl) rfl rfl (fun hp => ⟨?_, ?_, trivial⟩) ?_
      · exact q_loadTest hp (free_of rfl) trivial (List.mem_iff_getElem?.2 ⟨0, rfl⟩) (.inl rfl) rfl (sq_out (s := 3) rfl rfl (fun _ _ => rfl)) (fun us w hl h => h)
      · exact q_storeOldTest hp (List.mem_iff_getElem?.2 ⟨1, rfl⟩) rfl rfl (sq_out (s := 2) rfl rfl (fun _ _ => rfl)) (sq_in 0 rfl rfl (by simp) rfl (fun v w h => h.partsV)) (fun _ _ => trivial) (newik_ne rfl)
      intro L vs w6 nb hL hC hn E6
      have E : Fr w [(b4_5, 5, Fq.test z (z - 1) (s : Int)), (b2, 5, Fq.test z (z - 1) (s : Int)), (b1, 2, Fq.num z)] w6 := E6
      rw [lay_all hL]
      simp only [putAll, dstOf, List.length_cons, List.length_nil, Nat.zero_add, Nat.reduceAdd, List.getElem?_toArray, List.getElem?_cons_zero, List.getElem?_cons_succ, Option.bind_some, Act.put, List.setIfInBounds_toArray, List.set_cons_succ, List.set_cons_zero]
      generalize vs 0 = u6_0
      clear  hC hn E6 hL vs L nb
      obtain ⟨p0, p1, p2, p3, p4, c0, c1, c2, c3, c4, hP, _⟩ := box_test (E.box 1 rfl)
      go_wp2
      refine bodyPost_ret (v := .agg #[p0, p1, p2, p3, p4]) ?_ rfl ⟨_, s, D, rfl, E.below, HSD.out, HDO.out, HS0.out, Nat.le_of_lt HS96.out, Nat.le_of_lt HBA.out, hP⟩
      simp [results, Tryd.results28, go_sem, c0, c1, c2, c3, c4]
    · have TB : Hid (decide ((z - 1).natAbs / 2 ^ s % 2 = 1) = false) := decide_eq_false (by rw [HMN.out, HDV.out]; exact hb)
      obtain ⟨t, ht⟩ : ∃ t, t = s + 1 := ⟨_, rfl⟩
      have HT := hidd ht
      have hsd2 : N - 1 = 2 ^ t * (D / 2) := by rw [HSD.out, ht, Nat.pow_succ, Nat.mul_assoc]; congr 1; omega
      have HSD2 := hidd hsd2
      have HT96 := hidd (twos_lt HZN.out HN2.out ha.out hsd2).2
      have WJ : Hid (IntKind.i64.wrap ((s : Int) + 1) = (t : Int)) := by show _ = _; rw [show (s : Int) + 1 = (t : Int) by omega]; exact IntWalk.i64_in _ (by have := HS96.out; omega)
      clear hb hD0 ht hsd2
      go_upto_region 2 with (fail)
      refine region_fr (C := [Fq.is (.pointer (some ⟨b4_5, 2, none⟩)), Fq.num (z - 1), Fq.is (.pointer (some ⟨b4_5, 4, none⟩)), Fq.is (.int .i64 (s : Int)), Fq.is (.bool false), Fq.is (.bool true)]) (ks := [none, none, none]) (new := []) E rfl (by kernel_rfl) rfl rfl (fun hp => ⟨?_, ?_, ?_, ?_, ?_, ?_, trivial⟩) ?_
      · exact q_addr (b := b4_5) (off := 0) (off' := 2) hp (free_of rfl) trivial (sq_out (s := 3) rfl rfl (fun _ _ => rfl)) (fun ρ w h => by simp [execOp, go_sem, h]) (fun _ => rfl)
      · exact q_loadInt (off := 2) hp (free_of rfl) trivial (List.mem_iff_getElem?.2 ⟨0, rfl⟩) (.inl rfl) (Nat.le_of_ble_eq_true rfl) (sqi 0) (fun us w hl h => ld_test2 hl h)
      · exact q_addr (b := b4_5) (off := 0) (off' := 4) hp (free_of rfl) trivial (sq_out (s := 3) rfl rfl (fun _ _ => rfl)) (fun ρ w h => by simp [execOp, go_sem, h]) (fun _ => rfl)
      · exact q_loadTs (r := (s : Int)) hp (free_of rfl) trivial (List.mem_iff_getElem?.2 ⟨0, rfl⟩) (.inl rfl) rfl (sqi 2) (fun us w hl h => ld_test4 hl h) (fun _ => rfl)
      · exact q_call2 (F := (Fq.num (z - 1)).P) (G := (Fq.is (.int .i64 (s : Int))).P) hp (free_of rfl) trivial (enq_f_algorist_prime_bit) (sqi 1) (sqi 3) (fun v v' w h h' => (by subst h'; exact exPBit h HBA.out TB.out))
      · exact q_one (F := fun v _ => v = .bool false) hp (free_of rfl) trivial (sqi 4) (fun ρ w _ h => ⟨.bool true, by simp [execOp, go_sem, h], rfl⟩)
      intro L vs w7 nb hL hC hn E7
      have e0 : vs 0 = .pointer (some ⟨b4_5, 2, none⟩) := hC 0 (by simp)
      have e2 : vs 2 = .pointer (some ⟨b4_5, 4, none⟩) := hC 2 (by simp)
      have e3 : vs 3 = .int .i64 (s : Int) := hC 3 (by simp)
      have e4 : vs 4 = .bool false := hC 4 (by simp)
      have e5 : vs 5 = .bool true := hC 5 (by simp)
      have E : Fr w [(b4_5, 5, Fq.test z (z - 1) (s : Int)), (b2, 5, Fq.test 0 0 0), (b1, 2, Fq.num z)] w7 := E7
      rw [lay_all hL]
      simp only [putAll, dstOf, List.length_cons, List.length_nil, Nat.zero_add, Nat.reduceAdd, List.getElem?_toArray, List.getElem?_cons_zero, List.getElem?_cons_succ, Option.bind_some, Act.put, List.setIfInBounds_toArray, List.set_cons_succ, List.set_cons_zero]
      rw [e0, e2, e3, e4, e5]
      generalize vs 1 = u7_1
      clear e0 e2 e3 e4 e5 hC hn E7 hL vs L nb
      clear TB
      go_upto_region 3 with (fail)
      refine region_fr (C := [Fq.is (.pointer (some ⟨b4_5, 4, none⟩)), Fq.is (.int .i64 (s : Int)), Fq.is (.int .i64 (t : Int)), Fq.is (.pointer (some ⟨b4_5, 4, none⟩)), Fq.any]) (ks := [some (4, Fq.test z (z - 1) (t : Int)), none, none]) (new := []) E rfl (by kernel_rfl) rfl rfl (fun hp => ⟨?_, ?_, ?_, ?_, ?_, trivial⟩) ?_
      · exact q_addr (b := b4_5) (off := 0) (off' := 4) hp (free_of rfl) trivial (sq_out (s := 3) rfl rfl (fun _ _ => rfl)) (fun ρ w h => by simp [execOp, go_sem, h]) (fun _ => rfl)
      · exact q_loadTs (r := (s : Int)) hp (free_of rfl) trivial (List.mem_iff_getElem?.2 ⟨0, rfl⟩) (.inr rfl) rfl (sqi 0) (fun us w hl h => ld_test4 hl h) (fun _ => rfl)
      · exact q_one (F := fun v _ => v = .int .i64 (s : Int)) hp (free_of rfl) trivial (sqi 1) (fun ρ w hc h => ⟨.int .i64 (t : Int), by simp [execOp, go_sem, h, hc, WJ.out], rfl⟩)
      · exact q_addr (b := b4_5) (off := 0) (off' := 4) hp (free_of rfl) trivial (sq_out (s := 3) rfl rfl (fun _ _ => rfl)) (fun ρ w h => by simp [execOp, go_sem, h]) (fun _ => rfl)
      · exact q_storeTs hp (List.mem_iff_getElem?.2 ⟨0, rfl⟩) rfl rfl rfl rfl (sqi 3) (sqi 2) (fun _ _ => trivial) (newik_ne rfl)
      intro L vs w8 nb hL hC hn E8
      have e0 : vs 0 = .pointer (some ⟨b4_5, 4, none⟩) := hC 0 (by simp)
      have e1 : vs 1 = .int .i64 (s : Int) := hC 1 (by simp)
      have e2 : vs 2 = .int .i64 (t : Int) := hC 2 (by simp)
      have e3 : vs 3 = .pointer (some ⟨b4_5, 4, none⟩) := hC 3 (by simp)
      have E : Fr w [(b4_5, 5, Fq.test z (z - 1) (t : Int)), (b2, 5, Fq.test 0 0 0), (b1, 2, Fq.num z)] w8 := E8
      rw [lay_all hL]
      simp only [putAll, dstOf, List.length_cons, List.length_nil, Nat.zero_add, Nat.reduceAdd, List.getElem?_toArray, List.getElem?_cons_zero, List.getElem?_cons_succ, Option.bind_some, Act.put, List.setIfInBounds_toArray, List.set_cons_succ, List.set_cons_zero]
      rw [e0, e1, e2, e3]
      clear e0 e1 e2 e3 hC hn E8 hL vs L nb
      clear WJ
      go_wp2
      go_roundw
      case rel => exact ⟨t, D / 2, HSD2.out, E⟩
      case measure => have h9 := box_s (E.box 0 rfl); have := HT.out; have := HT96.out; rw [h9, HV.out]; simp [intOf]; omega

end Go.Proofs.YtnhapjifddhdiaaDoor

namespace Go.Proofs.YtnhapjifddhdiaaDoor
open Go Go.RowKit

theorem enq_f_algorist_prime_test_power (args : Array Value) (w : World) : (callFunc 30 args).run Tryd.prog w = .ok (.enter 30 args) w := enter_of Tryd.func30 (by kernel_rfl) rfl args w
theorem enq_f_algorist_prime_test_passes (args : Array Value) (w : World) : (callFunc 29 args).run Tryd.prog w = .ok (.enter 29 args) w := enter_of Tryd.func29 (by kernel_rfl) rfl args w
theorem exNewTestK {w : World} {v : Value} {z : Int} {N s D : Nat} (h : Num w v z) (ha : ab z < pw 3) (hzN : z = (N : Int)) (h2 : 2 < N) (ho : N % 2 = 1) (hsd : N - 1 = 2 ^ s * D) (hD : D % 2 = 1) :
    Calls Tryd.prog 28 #[v] w fun e w' => ∃ v', e = .returned v' ∧ Below w.heap.size w w' ∧ (Fq.test z (z - 1) (s : Int)).P v' w' := by
  refine (exNewTest h ha hzN h2 ho).mono ?_
  rintro e w' ⟨v', s', D', h1, h3, h4, h5, _, _, _, h9⟩
  obtain ⟨rfl, rfl⟩ := twos_uniq hD h5 (hsd.symm.trans h4)
  exact ⟨v', h1, h3, h9⟩
theorem test_facts {z : Int} {N s D : Nat} (ha : ab z < pw 3) (hzN : z = (N : Int)) (h2 : 2 < N) (ho : N % 2 = 1) (hsd : N - 1 = 2 ^ s * D) (hD : D % 2 = 1) : (0 < s ∧ s ≤ 96) ∧ s ≤ nbits (z - 1) := by
  obtain ⟨h3, h4⟩ := twos_lt hzN h2 ha hsd
  refine ⟨⟨?_, Nat.le_of_lt h4⟩, Nat.le_of_lt (bits_above (m := N - 1) (by omega) hsd h3)⟩
  rcases Nat.eq_zero_or_pos s with h0 | h0
  · exfalso; rw [h0, Nat.pow_zero, Nat.one_mul] at hsd; omega
  · exact h0
theorem bits_long {z : Int} {N : Nat} (hzN : z = (N : Int)) (h : 18446744073709551616 ≤ N) : 64 < nbits z := by
  rcases Nat.lt_or_ge 64 (nbits z) with h1 | h1
  · exact h1
  · exfalso
    have h2 := nbits_top (z := z)
    have h3 : z.natAbs < 2 ^ nbits z := by
      rcases Nat.lt_or_ge z.natAbs (2 ^ nbits z) with h4 | h4
      · exact h4
      · have := Nat.div_pos h4 (Nat.pow_pos (by omega)); omega
    have h5 : 2 ^ nbits z ≤ 2 ^ 64 := Nat.pow_le_pow_right (by omega) h1
    have h6 : (2 : Nat) ^ 64 = 18446744073709551616 := by decide
    omega
set_option maxRecDepth 100000 in
set_option maxHeartbeats 4000000 in
theorem exPStrongL {w : World} {v : Value} {z bi : Int} {N b : Nat} {S : Bool} (h : Num w v z) (ha : ab z < pw 3) (ho : decide (0 < z ∧ z % 2 = 1) = true) (hzN : z = (N : Int)) (h3 : 18446744073709551616 ≤ N) (hbi : bi = (b : Int)) (hb : 1 ≤ b ∧ b ≤ 9223372036854775807) (hS : S = true ↔ StrongP N b) :
    Calls Tryd.prog 8 #[v, .int .i64 bi] w fun e w' => ∃ v', e = .returned v' ∧ Below w.heap.size w w' ∧ v' = .tuple #[.bool S, .int .i64 0] := by
  replace ha := hidd ha
  have HODD := hidd ho
  have HA9 : Hid (ab z < pw 900) := Int.lt_of_lt_of_le ha.out (pw_le (by omega))
  have HZN := hidd hzN
  have HN3 := hidd h3
  have HBI := hidd hbi
  have HB1 := hidd hb
  have HNO : Hid (N % 2 = 1) := by show _ = _; have := of_decide_eq_true ho; omega
  have HN2 : Hid (2 < N) := by show 2 < N; omega
  have T2 : Hid (¬ cmpI z 2 ≤ 0) := by have := cmpIqgt.2 (show 2 < z by omega); show ¬ _; omega
  have T3 : Hid ((1 : Int) ≤ bi) := by show _ ≤ _; omega
  have T4 : Hid (¬ ((nbits z : Nat) : Int) ≤ 64) := by show ¬ _; have := bits_long hzN h3; omega
  obtain ⟨s, D, hsd, hD⟩ := odd_split (N - 1) (by omega)
  have HSD := hidd hsd
  have HD := hidd hD
  have HTF := hidd (test_facts ha.out hzN HN2.out HNO.out hsd hD)
  have HS : Hid (S = true ↔ (b ^ D % N = 1 ∨ ∃ i, i < s ∧ b ^ (2 ^ i * D) % N = N - 1)) := by
    refine (hS.trans (strong_iff hsd hD)).trans ⟨fun h => ?_, fun h => .inr h⟩
    rcases h with h | h
    · rw [Nat.mod_eq_of_lt (by omega)] at h; omega
    · exact h
  have Bm : Hid (ab (z - 1) < pw 4) := by
    have B1l : ab (1 : Int) < pw 3 := ab_lit (by decide)
    exact ab_subB ha.out B1l (by omega) (by omega)
  have Bx : Hid (ab (pwv N b D) < pw 3) := pwv_lt HZN.out (by omega) ha.out
  clear ho hzN h3 hbi hb hsd hD hS
  obtain ⟨n0, ao0, k0, c0, rfl⟩ := h.parts
  obtain ⟨w1, b1, hw1, hb1, hs1, E⟩ := fr_start w (F := Fq.num z) (us := [.bool n0, .slice ao0 k0 c0]) 27 rfl (by simp) (tame_int _ _ _ _) h
  go_enter Tryd.func8, Tryd.ntmps8
  go_upto_region 1 with (fail)
  rw [← hw1]
  rw [← hb1]
  clear hw1 hb1 hs1
  have B2 : Hid (ab ((2)) < pw 3) := ab_lit (by decide)
  refine region_fr (C := [Fq.num z, Fq.is (.bool true), Fq.is (.bool false), Fq.is (.bool false), Fq.num z, Fq.num (2), Fq.is (.int .i64 (cmpI z (2))), Fq.is (.bool false), Fq.is (.bool false), Fq.is (.bool false), Fq.is (.int .i64 bi), Fq.is (.bool false), Fq.is (.bool false)]) (ks := [none]) (new := []) E rfl (by kernel_rfl) rfl rfl (fun hp => ⟨?_, ?_, ?_, ?_, ?_, ?_, ?_, ?_, ?_, ?_, ?_, ?_, ?_, trivial⟩) ?_
  · exact q_loadInt (off := 0) hp (free_of rfl) trivial (List.mem_iff_getElem?.2 ⟨0, rfl⟩) (.inl rfl) (Nat.le_of_ble_eq_true rfl) (sq_out (s := 2) rfl rfl (fun _ _ => rfl)) (fun us w hl h => ld_num hl h)
  · exact q_call1 (F := (Fq.num z).P) hp (free_of rfl) trivial (enq_f_algorist_prime_isOdd) (sqi 0) (fun v w h => exIsOdd h HODD.out)
  · exact q_one (F := fun v _ => v = .bool true) hp (free_of rfl) trivial (sqi 1) (fun ρ w _ h => ⟨.bool false, by simp [execOp, go_sem, h], rfl⟩)
  · exact q_move hp (free_of rfl) trivial (sqi 2)
  · exact q_loadInt (off := 0) hp (free_of rfl) (gq_some rfl rfl (by simp) rfl (fun v w h => h)) (List.mem_iff_getElem?.2 ⟨0, rfl⟩) (.inl rfl) (Nat.le_of_ble_eq_true rfl) (sq_out (s := 2) rfl rfl (fun _ _ => rfl)) (fun us w hl h => ld_num hl h)
  · exact q_call1 (F := (Fq.is (.int .i64 2)).P) hp (free_of rfl) (gq_some rfl rfl (by simp) rfl (fun v w h => h)) (enq_Of) (sq_const (fun _ => rfl)) (fun v w h => (by subst h; exact OfK w (2) (by omega) (by omega)))
  · exact q_call2 (F := (Fq.num z).P) (G := (Fq.num (2)).P) hp (free_of rfl) (gq_some rfl rfl (by simp) rfl (fun v w h => h)) (enq_Cmp) (sqi 4) (sqi 5) (fun v v' w h h' => exCmp h h')
  · exact q_one (F := fun v _ => v = .int .i64 (cmpI z (2))) hp (free_of rfl) (gq_some rfl rfl (by simp) rfl (fun v w h => h)) (sqi 6) (fun ρ w hc h => ⟨.bool false, by simp [execOp, go_sem, h, hc, T2.out], rfl⟩)
  · exact q_two (F := fun v _ => v = .bool false) (G := fun v _ => v = .bool false) hp (free_of rfl) trivial (sqi 3) (sqi 7) (fun ρ w hc h h' => ⟨_, by simp [execOp, go_sem, h, h'], rfl⟩)
  · exact q_move hp (free_of rfl) trivial (sqi 8)
  · exact q_move hp (free_of rfl) (gq_some rfl rfl (by simp) rfl (fun v w h => h)) (sq_out (s := 1) rfl rfl (fun _ _ => rfl))
  · exact q_one (F := fun v _ => v = .int .i64 bi) hp (free_of rfl) (gq_some rfl rfl (by simp) rfl (fun v w h => h)) (sqi 10) (fun ρ w hc h => ⟨.bool false, by simp [execOp, go_sem, h, hc, T3.out], rfl⟩)
  · exact q_two (F := fun v _ => v = .bool false) (G := fun v _ => v = .bool false) hp (free_of rfl) trivial (sqi 9) (sqi 11) (fun ρ w hc h h' => ⟨_, by simp [execOp, go_sem, h, h'], rfl⟩)
  intro L vs w3 nb hL hC hn E3
  have e1 : vs 1 = .bool true := hC 1 (by simp)
  have e2 : vs 2 = .bool false := hC 2 (by simp)
  have e3 : vs 3 = .bool false := hC 3 (by simp)
  have e6 : vs 6 = .int .i64 (cmpI z (2)) := hC 6 (by simp)
  have e7 : vs 7 = .bool false := hC 7 (by simp)
  have e8 : vs 8 = .bool false := hC 8 (by simp)
  have e9 : vs 9 = .bool false := hC 9 (by simp)
  have e10 : vs 10 = .int .i64 bi := hC 10 (by simp)
  have e11 : vs 11 = .bool false := hC 11 (by simp)
  have e12 : vs 12 = .bool false := hC 12 (by simp)
  have E : Fr w [(b1, 2, Fq.num z)] w3 := E3
  rw [lay_all hL]
  simp only [putAll, dstOf, List.length_cons, List.length_nil, Nat.zero_add, Nat.reduceAdd, List.getElem?_toArray, List.getElem?_cons_zero, List.getElem?_cons_succ, Option.bind_some, Act.put, List.setIfInBounds_toArray, List.set_cons_succ, List.set_cons_zero]
  rw [e1, e2, e3, e6, e7, e8, e9, e10, e11, e12]
  generalize vs 0 = u3_0
  generalize vs 4 = u3_4
  generalize vs 5 = u3_5
  clear e1 e2 e3 e6 e7 e8 e9 e10 e11 e12 hC hn E3 hL vs L nb
  go_upto_region 3 with (fail)
  refine region_fr (C := [Fq.num z, Fq.is (.int .i64 ((nbits z : Nat) : Int)), Fq.is (.bool false)]) (ks := [none]) (new := []) E rfl (by kernel_rfl) rfl rfl (fun hp => ⟨?_, ?_, ?_, trivial⟩) ?_
  · exact q_loadInt (off := 0) hp (free_of rfl) trivial (List.mem_iff_getElem?.2 ⟨0, rfl⟩) (.inl rfl) (Nat.le_of_ble_eq_true rfl) (sq_out (s := 2) rfl rfl (fun _ _ => rfl)) (fun us w hl h => ld_num hl h)
  · exact q_call1 (F := (Fq.num z).P) hp (free_of rfl) trivial (enq_Bits) (sqi 0) (fun v w h => exBits h)
  · exact q_one (F := fun v _ => v = .int .i64 ((nbits z : Nat) : Int)) hp (free_of rfl) trivial (sqi 1) (fun ρ w hc h => ⟨.bool false, by simp [execOp, go_sem, h, hc, T4.out], rfl⟩)
  intro L vs w4 nb hL hC hn E4
  have e1 : vs 1 = .int .i64 ((nbits z : Nat) : Int) := hC 1 (by simp)
  have e2 : vs 2 = .bool false := hC 2 (by simp)
  have E : Fr w [(b1, 2, Fq.num z)] w4 := E4
  rw [lay_all hL]
  simp only [putAll, dstOf, List.length_cons, List.length_nil, Nat.zero_add, Nat.reduceAdd, List.getElem?_toArray, List.getElem?_cons_zero, List.getElem?_cons_succ, Option.bind_some, Act.put, List.setIfInBounds_toArray, List.set_cons_succ, List.set_cons_zero]
  rw [e1, e2]
  generalize vs 0 = u4_0
  clear e1 e2 hC hn E4 hL vs L nb
  go_upto_region 5 with (fail)
  refine region_fr (C := [Fq.num z, Fq.test z (z - 1) (s : Int), Fq.any, Fq.any]) (ks := [none]) (new := [⟨2, 3, 5, Fq.test 0 0 0, Fq.test z (z - 1) (s : Int), none⟩]) E rfl (by kernel_rfl) rfl rfl (fun hp => ⟨?_, ?_, ?_, ?_, trivial⟩) ?_
  · exact q_loadInt (off := 0) hp (free_of rfl) trivial (List.mem_iff_getElem?.2 ⟨0, rfl⟩) (.inl rfl) (Nat.le_of_ble_eq_true rfl) (sq_out (s := 2) rfl rfl (fun _ _ => rfl)) (fun us w hl h => ld_num hl h)
  · exact q_call1 (F := (Fq.num z).P) hp (free_of rfl) trivial (enq_f_algorist_prime_newTest) (sqi 0) (fun v w h => exNewTestK h ha.out HZN.out HN2.out HNO.out HSD.out HD.out)
  · exact q_allocTest hp (List.mem_iff_getElem?.2 ⟨0, rfl⟩) rfl rfl rfl rfl (Nat.ne_of_beq_eq_false rfl) (fun _ _ => trivial) (old_ne rfl) (newk_ne rfl) (fun w => Test.zero w)
  · exact q_storeNewTest hp (List.mem_iff_getElem?.2 ⟨0, rfl⟩) rfl rfl rfl (own_ptr rfl rfl (by simp) rfl) (sq_in 1 rfl rfl (by simp) rfl (fun v w h => h.partsV)) (fun _ _ => trivial) (old_ne rfl) (newi_ne rfl)
  intro L vs w5 nb hL hC hn E5
  have e2 : vs 2 = .pointer (some ⟨nb 2, 0, none⟩) := hn _ (List.mem_iff_getElem?.2 ⟨0, rfl⟩)
  have E : Fr w [(nb 2, 5, Fq.test z (z - 1) (s : Int)), (b1, 2, Fq.num z)] w5 := E5
  rw [lay_all hL]
  simp only [putAll, dstOf, List.length_cons, List.length_nil, Nat.zero_add, Nat.reduceAdd, List.getElem?_toArray, List.getElem?_cons_zero, List.getElem?_cons_succ, Option.bind_some, Act.put, List.setIfInBounds_toArray, List.set_cons_succ, List.set_cons_zero]
  rw [e2]
  generalize nb 2 = b5_2 at E ⊢
  generalize vs 0 = u5_0
  generalize vs 1 = u5_1
  clear e2 hC hn E5 hL vs L nb
  go_upto_region 6 with (fail)
  refine region_fr (C := [Fq.test z (z - 1) (s : Int), Fq.test z (z - 1) (s : Int), Fq.is (.int .i64 bi), Fq.num (pwv N b D), Fq.is (.bool S), Fq.is (.bool S), Fq.is (.int .i64 0)]) (ks := [none, none]) (new := []) E rfl (by kernel_rfl) rfl rfl (fun hp => ⟨?_, ?_, ?_, ?_, ?_, ?_, ?_, trivial⟩) ?_
  · exact q_loadTest hp (free_of rfl) trivial (List.mem_iff_getElem?.2 ⟨0, rfl⟩) (.inl rfl) rfl (sq_out (s := 6) rfl rfl (fun _ _ => rfl)) (fun us w hl h => h)
  · exact q_loadTest hp (free_of rfl) trivial (List.mem_iff_getElem?.2 ⟨0, rfl⟩) (.inl rfl) rfl (sq_out (s := 6) rfl rfl (fun _ _ => rfl)) (fun us w hl h => h)
  · exact q_move hp (free_of rfl) trivial (sq_out (s := 1) rfl rfl (fun _ _ => rfl))
  · exact q_call2 (F := (Fq.test z (z - 1) (s : Int)).P) (G := (Fq.is (.int .i64 bi)).P) hp (free_of rfl) trivial (enq_f_algorist_prime_test_power) (sqi 1) (sqi 2) (fun v v' w h h' => (by subst h'; exact exTPower h ha.out HZN.out HN2.out rfl HBI.out HB1.out HSD.out HTF.out.2))
  · exact q_call2 (F := (Fq.test z (z - 1) (s : Int)).P) (G := (Fq.num (pwv N b D)).P) hp (free_of rfl) trivial (enq_f_algorist_prime_test_passes) (sqi 0) (sqi 3) (fun v v' w h h' => exTPasses h h' ha.out HZN.out HN2.out rfl HTF.out.1 HS.out)
  · exact q_assign hp (free_of rfl) trivial (sqi 4)
  · exact q_assign hp (free_of rfl) trivial (sq_const (fun _ => rfl))
  intro L vs w6 nb hL hC hn E6
  have e2 : vs 2 = .int .i64 bi := hC 2 (by simp)
  have e4 : vs 4 = .bool S := hC 4 (by simp)
  have e5 : vs 5 = .bool S := hC 5 (by simp)
  have e6 : vs 6 = .int .i64 0 := hC 6 (by simp)
  have E : Fr w [(b5_2, 5, Fq.test z (z - 1) (s : Int)), (b1, 2, Fq.num z)] w6 := E6
  rw [lay_all hL]
  simp only [putAll, dstOf, List.length_cons, List.length_nil, Nat.zero_add, Nat.reduceAdd, List.getElem?_toArray, List.getElem?_cons_zero, List.getElem?_cons_succ, Option.bind_some, Act.put, List.setIfInBounds_toArray, List.set_cons_succ, List.set_cons_zero]
  rw [e2, e4, e5, e6]
  generalize vs 0 = u6_0
  generalize vs 1 = u6_1
  generalize vs 3 = u6_3
  clear e2 e4 e5 e6 hC hn E6 hL vs L nb
  clear HODD HZN HN3 HBI HB1 HNO HN2 T2 T3 T4 HSD HD HTF HS
  clear B2 ha HA9 Bm Bx
  go_wp2
  refine bodyPost_ret (v := .tuple #[.bool S, .int .i64 0]) ?_ rfl ⟨_, rfl, E.below, rfl⟩
  simp [results, Tryd.results8, go_sem]

end Go.Proofs.YtnhapjifddhdiaaDoor

namespace Go.Proofs.YtnhapjifddhdiaaDoor
open Go Go.RowKit

inductive Fd where
  | n (z : Int)
  | v (u : Value)
  | r (n : Bool) (a : Option Addr) (k c : Nat) (xs : List Int) (z : Int)
def Fd.len : Fd → Nat
  | .n _ => 2
  | .v _ => 1
  | .r .. => 2
def sz : List Fd → Nat
  | [] => 0
  | f :: fs => f.len + sz fs
def tameB (u : Value) : Bool := u.oneCell' && (match u with | .int .u32 _ => false | _ => true)
def Fits (w : World) : List Fd → List Value → Prop
  | [], us => us = []
  | .n z :: fs, us => ∃ a b r, us = a :: b :: r ∧ Num w (.agg #[a, b]) z ∧ Fits w fs r
  | .v u :: fs, us => ∃ r, us = u :: r ∧ tameB u = true ∧ Fits w fs r
  | .r n ao k c xs z :: fs, us => ∃ r, us = .bool n :: .slice ao k c :: r ∧ (Sl w ao k c xs ∧ Num w (.agg #[.bool n, .slice ao k c]) z) ∧ Fits w fs r
theorem Fits.mono {w w' : World} (hb : Below w.heap.size w w') : ∀ {fs : List Fd} {us : List Value}, Fits w fs us → Fits w' fs us
  | [], _, h => h
  | .n _ :: _, _, ⟨a, b, r, e, h1, h2⟩ => ⟨a, b, r, e, h1.mono hb, Fits.mono hb h2⟩
  | .v _ :: _, _, ⟨r, e, h1, h2⟩ => ⟨r, e, h1, Fits.mono hb h2⟩
  | .r .. :: _, _, ⟨r, e, h1, h2⟩ => ⟨r, e, ⟨h1.1.mono hb, h1.2.mono hb⟩, Fits.mono hb h2⟩
theorem Fits.putAt {w : World} {b : Nat} {vs vs' : List Value} (ha : At w b vs) (ht : Tame vs) (hl : vs'.length = vs.length) : ∀ {fs : List Fd} {us : List Value}, Fits w fs us → Fits (putFrom w b 0 vs') fs us
  | [], _, h => h
  | .n _ :: _, _, ⟨a, b, r, e, h1, h2⟩ => ⟨a, b, r, e, h1.putAt ha ht hl, Fits.putAt ha ht hl h2⟩
  | .v _ :: _, _, ⟨r, e, h1, h2⟩ => ⟨r, e, h1, Fits.putAt ha ht hl h2⟩
  | .r .. :: _, _, ⟨r, e, h1, h2⟩ => ⟨r, e, ⟨h1.1.putAt ha ht hl, h1.2.putAt ha ht hl⟩, Fits.putAt ha ht hl h2⟩
theorem Fits.length {w : World} : ∀ {fs : List Fd} {us : List Value}, Fits w fs us → us.length = sz fs
  | [], _, h => by rw [show _ = [] from h]; rfl
  | .n _ :: _, _, ⟨_, _, _, e, _, h2⟩ => by rw [e]; simp [sz, Fd.len, Fits.length h2]; omega
  | .v _ :: _, _, ⟨_, e, _, h2⟩ => by rw [e]; simp [sz, Fd.len, Fits.length h2]; omega
  | .r .. :: _, _, ⟨_, e, _, h2⟩ => by rw [e]; simp [sz, Fd.len, Fits.length h2]; omega
theorem tameB_ne {u : Value} (h : tameB u = true) : ∀ q, u ≠ .int .u32 q := by
  rintro q rfl
  simp [tameB] at h
theorem num_cells {w : World} {a b : Value} {z : Int} (h : Num w (.agg #[a, b]) z) : tameB a = true ∧ tameB b = true := by
  obtain ⟨n, ao, k, c, e⟩ := h.parts
  injection e with e
  have e2 := congrArg Array.toList e
  simp at e2
  obtain ⟨rfl, rfl⟩ := e2
  exact ⟨rfl, rfl⟩
theorem Fits.all {w : World} : ∀ {fs : List Fd} {us : List Value}, Fits w fs us → ∀ u ∈ us, tameB u = true
  | [], _, h => by rw [show _ = [] from h]; intro u hu; simp at hu
  | .n _ :: _, _, ⟨_, _, _, e, h1, h2⟩ => by
    rw [e]
    intro u hu
    rcases List.mem_cons.1 hu with rfl | hu
    · exact (num_cells h1).1
    · rcases List.mem_cons.1 hu with rfl | hu
      · exact (num_cells h1).2
      · exact Fits.all h2 u hu
  | .v _ :: _, _, ⟨_, e, h1, h2⟩ => by
    rw [e]
    intro u hu
    rcases List.mem_cons.1 hu with rfl | hu
    · exact h1
    · exact Fits.all h2 u hu
  | .r .. :: _, _, ⟨_, e, _, h2⟩ => by
    rw [e]
    intro u hu
    rcases List.mem_cons.1 hu with rfl | hu
    · rfl
    · rcases List.mem_cons.1 hu with rfl | hu
      · rfl
      · exact Fits.all h2 u hu
theorem Fits.tame {w : World} {fs : List Fd} {us : List Value} (h : Fits w fs us) : Tame us := fun u hu => tameB_ne (h.all u hu)
theorem Fits.one {w : World} {fs : List Fd} {us : List Value} (h : Fits w fs us) : ∀ u ∈ us, u.oneCell' = true := fun u hu => by
  have := h.all u hu
  simp only [tameB, Bool.and_eq_true] at this
  exact this.1
theorem Fits.append {w : World} : ∀ {fs : List Fd} {us : List Value} {gs : List Fd} {vs : List Value}, Fits w fs us → Fits w gs vs → Fits w (fs ++ gs) (us ++ vs)
  | [], _, _, _, h, g => by rw [show _ = [] from h]; exact g
  | .n _ :: _, _, _, _, ⟨a, b, r, e, h1, h2⟩, g => ⟨a, b, r ++ _, by rw [e]; rfl, h1, Fits.append h2 g⟩
  | .v _ :: _, _, _, _, ⟨r, e, h1, h2⟩, g => ⟨r ++ _, by rw [e]; rfl, h1, Fits.append h2 g⟩
  | .r .. :: _, _, _, _, ⟨r, e, h1, h2⟩, g => ⟨r ++ _, by rw [e]; rfl, h1, Fits.append h2 g⟩
def cutF : Nat → List Fd → Option (List Fd)
  | 0, fs => some fs
  | _ + 1, [] => none
  | k + 1, .v _ :: fs => cutF k fs
  | 1, .n _ :: _ => none
  | k + 2, .n _ :: fs => cutF k fs
  | 1, .r .. :: _ => none
  | k + 2, .r .. :: fs => cutF k fs
def firstF : Nat → List Fd → Option (List Fd)
  | 0, _ => some []
  | _ + 1, [] => none
  | k + 1, .v u :: fs => (firstF k fs).map (.v u :: ·)
  | 1, .n _ :: _ => none
  | k + 2, .n z :: fs => (firstF k fs).map (.n z :: ·)
  | 1, .r .. :: _ => none
  | k + 2, .r n a l c xs z :: fs => (firstF k fs).map (.r n a l c xs z :: ·)
theorem Fits.cut {w : World} : ∀ {k : Nat} {fs gs : List Fd} {us : List Value}, Fits w fs us → cutF k fs = some gs → Fits w gs (us.drop k)
  | 0, _, _, _, h, e => by cases e; exact h
  | _ + 1, [], _, _, _, e => by cases e
  | k + 1, .v _ :: _, _, _, ⟨_, e1, _, h2⟩, e => by rw [e1]; exact Fits.cut (k := k) h2 e
  | 1, .n _ :: _, _, _, _, e => by cases e
  | k + 2, .n _ :: _, _, _, ⟨_, _, _, e1, _, h2⟩, e => by rw [e1]; exact Fits.cut (k := k) h2 e
  | 1, .r .. :: _, _, _, _, e => by cases e
  | k + 2, .r .. :: _, _, _, ⟨_, e1, _, h2⟩, e => by rw [e1]; exact Fits.cut (k := k) h2 e
theorem Fits.first {w : World} : ∀ {k : Nat} {fs gs : List Fd} {us : List Value}, Fits w fs us → firstF k fs = some gs → Fits w gs (us.take k)
  | 0, _, _, _, _, e => by cases e; rfl
  | _ + 1, [], _, _, _, e => by cases e
  | k + 1, .v u :: fs, _, _, ⟨r, e1, h1, h2⟩, e => by
    cases hq : firstF k fs with
    | none => simp [firstF, hq] at e
    | some g =>
      simp [firstF, hq] at e
      subst e
      rw [e1]
      exact ⟨_, rfl, h1, Fits.first h2 hq⟩
  | 1, .n _ :: _, _, _, _, e => by cases e
  | k + 2, .n z :: fs, _, _, ⟨a, b, r, e1, h1, h2⟩, e => by
    cases hq : firstF k fs with
    | none => simp [firstF, hq] at e
    | some g =>
      simp [firstF, hq] at e
      subst e
      rw [e1]
      exact ⟨_, _, _, rfl, h1, Fits.first h2 hq⟩
  | 1, .r .. :: _, _, _, _, e => by cases e
  | k + 2, .r n a l c xs z :: fs, _, _, ⟨r, e1, h1, h2⟩, e => by
    cases hq : firstF k fs with
    | none => simp [firstF, hq] at e
    | some g =>
      simp [firstF, hq] at e
      subst e
      rw [e1]
      exact ⟨_, rfl, h1, Fits.first h2 hq⟩
def subF (off l : Nat) (fs : List Fd) : Option (List Fd) := (cutF off fs).bind (firstF l)
def putF (off : Nat) (gs fs : List Fd) : Option (List Fd) := (firstF off fs).bind fun a => (cutF (off + sz gs) fs).map fun c => a ++ (gs ++ c)
theorem Fits.sub {w : World} {off l : Nat} {fs gs : List Fd} {us : List Value} (h : Fits w fs us) (e : subF off l fs = some gs) : Fits w gs ((us.drop off).take l) := by
  unfold subF at e
  cases hq : cutF off fs with
  | none => simp [hq] at e
  | some a => rw [hq] at e; exact (h.cut hq).first e
theorem Fits.put {w : World} {off : Nat} {fs gs fs' : List Fd} {us vs : List Value} (h : Fits w fs us) (hv : Fits w gs vs) (e : putF off gs fs = some fs') : Fits w fs' (us.take off ++ (vs ++ us.drop (off + sz gs))) := by
  unfold putF at e
  cases hq : firstF off fs with
  | none => simp [hq] at e
  | some a =>
    cases hc : cutF (off + sz gs) fs with
    | none => simp [hq, hc] at e
    | some c =>
      simp [hq, hc] at e
      subst e
      exact (h.first hq).append (hv.append (h.cut hc))
theorem cutF_le : ∀ {k : Nat} {fs gs : List Fd}, cutF k fs = some gs → k + sz gs = sz fs
  | 0, _, _, e => by cases e; simp
  | _ + 1, [], _, e => by cases e
  | k + 1, .v _ :: _, _, e => by have := cutF_le (k := k) e; simp [sz, Fd.len]; omega
  | 1, .n _ :: _, _, e => by cases e
  | k + 2, .n _ :: _, _, e => by have := cutF_le (k := k) e; simp [sz, Fd.len]; omega
  | 1, .r .. :: _, _, e => by cases e
  | k + 2, .r .. :: _, _, e => by have := cutF_le (k := k) e; simp [sz, Fd.len]; omega
theorem firstF_sz : ∀ {k : Nat} {fs gs : List Fd}, firstF k fs = some gs → sz gs = k
  | 0, _, _, e => by cases e; rfl
  | _ + 1, [], _, e => by cases e
  | k + 1, .v u :: fs, _, e => by
    cases hq : firstF k fs with
    | none => simp [firstF, hq] at e
    | some g => simp [firstF, hq] at e; subst e; have := firstF_sz hq; simp [sz, Fd.len]; omega
  | 1, .n _ :: _, _, e => by cases e
  | k + 2, .n z :: fs, _, e => by
    cases hq : firstF k fs with
    | none => simp [firstF, hq] at e
    | some g => simp [firstF, hq] at e; subst e; have := firstF_sz hq; simp [sz, Fd.len]; omega
  | 1, .r .. :: _, _, e => by cases e
  | k + 2, .r n a l c xs z :: fs, _, e => by
    cases hq : firstF k fs with
    | none => simp [firstF, hq] at e
    | some g => simp [firstF, hq] at e; subst e; have := firstF_sz hq; simp [sz, Fd.len]; omega
theorem agg_inj {us vs : List Value} (e : Value.agg us.toArray = Value.agg vs.toArray) : us = vs := by
  injection e with e
  simpa using congrArg Array.toList e
def Fq.st (fs : List Fd) : Fq := ⟨fun v w => ∃ us : List Value, v = .agg us.toArray ∧ Fits w fs us, fun ⟨us, e, h⟩ hb => ⟨us, e, h.mono hb⟩, fun ⟨us, e, h⟩ ha ht hl => ⟨us, e, h.putAt ha ht hl⟩⟩
def FitV (gs : List Fd) (v : Value) (w : World) : Prop := Fits w gs v.cells.toList
theorem fitv_num {z : Int} {v : Value} {w : World} (h : Num w v z) : FitV [.n z] v w := by
  obtain ⟨n, ao, k, c, e⟩ := h.parts
  subst e
  exact ⟨_, _, [], rfl, h, rfl⟩
theorem st_num {z : Int} {v : Value} {w : World} (h : (Fq.st [.n z]).P v w) : Num w v z := by
  obtain ⟨us, rfl, a, b, r, rfl, h1, h2⟩ := h
  rw [show r = [] from h2]
  exact h1
theorem putFrom_eq (b : Nat) : ∀ (us : List Value) (j : Nat) (w : World), putFrom w b j us = w.setCells b j us
  | [], _, _ => rfl
  | u :: us, j, w => by
    show putFrom (w.setCell ⟨b, j, none⟩ u) b (j + 1) us = _
    rw [putFrom_eq b us]
    rfl
theorem putFrom_append (b : Nat) : ∀ (us vs : List Value) (j : Nat) (w : World), putFrom w b j (us ++ vs) = putFrom (putFrom w b j us) b (j + us.length) vs
  | [], _, _, _ => rfl
  | u :: us, vs, j, w => by
    show putFrom (w.setCell ⟨b, j, none⟩ u) b (j + 1) (us ++ vs) = putFrom (putFrom (w.setCell ⟨b, j, none⟩ u) b (j + 1) us) b _ vs
    rw [putFrom_append b us vs]
    congr 1
    simp
    omega
theorem setCell_sameS {w : World} {a : Addr} {v : Value} (h : w.cell? a = some v) : w.setCell a v = w := by
  have e : (w.setCell a v).heap = w.heap := by
    unfold World.cell? at h
    unfold World.setCell
    apply Array.ext
    · simp
    · intro j h1 h2
      simp only [Array.getElem_modify]
      split
      · rename_i hj
        subst hj
        rw [Array.getElem?_eq_getElem h2] at h
        cases hc : w.heap[a.block] with
        | cells c el fr =>
          rw [hc] at h
          simp only at h
          split at h
          · cases h
          · rename_i hs
            simp only [hs, Bool.false_eq_true, if_false]
            congr 1
            apply Array.ext
            · simp
            · intro k g1 g2
              rw [Array.getElem_setIfInBounds]
              split
              · rename_i hk
                subst hk
                rw [Array.getElem?_eq_getElem g2] at h
                exact (Option.some.inj h).symm
              · rfl
        | _ => rfl
      · rfl
  have e2 : w.setCell a v = { w with heap := (w.setCell a v).heap } := rfl
  rw [e2, e]
theorem putFrom_same (b : Nat) : ∀ (us : List Value) (j : Nat) (w : World), (∀ i, i < us.length → w.cell? ⟨b, j + i, none⟩ = some (us.getD i undef)) → putFrom w b j us = w
  | [], _, _, _ => rfl
  | u :: us, j, w, h => by
    show putFrom (w.setCell ⟨b, j, none⟩ u) b (j + 1) us = w
    have h0 := h 0 (by simp)
    rw [setCell_sameS (by simpa using h0)]
    exact putFrom_same b us (j + 1) w fun i hi => by
      have := h (i + 1) (by simp; omega)
      rw [show j + (i + 1) = j + 1 + i by omega] at this
      simpa using this
theorem putFrom_part {w : World} {b off : Nat} {us vs : List Value} (ha : At w b us) (hl : off + vs.length ≤ us.length) : putFrom w b off vs = putFrom w b 0 (us.take off ++ (vs ++ us.drop (off + vs.length))) := by
  have hlt : (us.take off).length = off := by simp; omega
  rw [putFrom_append, putFrom_same b (us.take off) 0 w fun i hi => ?_]
  · rw [Nat.zero_add, hlt, putFrom_append]
    refine (putFrom_same b _ _ _ fun i hi => ?_).symm
    rw [putFrom_eq, World.cell?_setCells_out b vs off w _ (fun _ _ => .inr (by show off + vs.length ≤ off + vs.length + i; omega))]
    have hi' : off + vs.length + i < us.length := by simp at hi; omega
    rw [(ha _ hi').1]
    simp [List.getD]
  · rw [Nat.zero_add, (ha i (by omega)).1]
    rw [hlt] at hi
    simp [List.getD, hi]

noncomputable def rowB (T l : Nat) : Bool := (match Tryd.prog.underlying T with | some d => d.isRow | none => false) && (match Tryd.prog.info? T with | some i => i.size == l | none => false)
noncomputable def sizeB (T l : Nat) : Bool := match Tryd.prog.info? T with | some i => i.size == l | none => false
theorem rowB_of {T l : Nat} (h : rowB T l = true) : (∃ d, Tryd.prog.underlying T = some d ∧ d.isRow = true) ∧ (Tryd.prog.info? T).map (·.size) = some l := by
  unfold rowB at h
  cases hu : Tryd.prog.underlying T with
  | none => simp [hu] at h
  | some d =>
    cases hi : Tryd.prog.info? T with
    | none => simp [hi] at h
    | some i => simp [hu, hi] at h; exact ⟨⟨d, rfl, h.1⟩, by simp [h.2]⟩
theorem sizeB_of {T l : Nat} (h : sizeB T l = true) : ∃ i, Tryd.prog.info? T = some i ∧ i.size = l := by
  unfold sizeB at h
  cases hi : Tryd.prog.info? T with
  | none => simp [hi] at h
  | some i => simp [hi] at h; exact ⟨i, rfl, h⟩
theorem run_storeVar_fit {w : World} {b o T : Nat} {v : Value} (ht : w.there b o v.cells.size) (hi : sizeB T v.cells.size = true) (h1 : ∀ u ∈ v.cells.toList, u.oneCell' = true) : (storeVar T ⟨b, o, none⟩ v).run Tryd.prog w = .ok () (w.setCells b o v.cells.toList) := by
  have := run_storeCells_cells (P := Tryd.prog) b o v.cells.toList 0 w (fun j hj => by simpa using (ht j (by simpa using hj)).1) (fun j hj => by simpa using (ht j (by simpa using hj)).2) h1
  obtain ⟨i, hq, hs⟩ := sizeB_of hi
  simp only [Nat.add_zero] at this
  simp [storeVar, sizeOf, typeInfo, hq, hs, this]

section
variable {os : List Oper} {Q : Exit → Act → World → Prop} {a : Act} {p : Pq} {B B0 : Nat} {w0 : World}
variable {i s : Nat} {d : Option Tmp} {ty : TypeId} {ps : String} {af : Array Edge} {gd : Option (Nat × Bool)}

theorem q_loadSt {o : Ob} {off l T : Nat} {fs gs : List Fd} {x : Operand} (hp : p.Ok B B0) (hF : p.Free i) (hg : GdQ os a p B B0 w0 af gd) (ho : o ∈ p.old) (hk : o.F1 = o.F0 ∨ leadsB os 9 o.k i = true) (hf : o.F0 = Fq.st fs) (hT : rowB T l = true) (hs : subF off l fs = some gs)
    (hx : SrcQ os a p B B0 w0 af x fun u _ => u = .pointer (some ⟨o.b, off, none⟩)) (hC : ∀ v w, (Fq.st gs).P v w → (p.c i).P v w) :
    StepQ os Q a p B B0 w0 i { dst := d, op := .load T x, type := ty, pos := ps, after := af, guard := gd } := by
  refine stq_val hp hF hg fun L vs w hG hL hc hd => ?_
  obtain ⟨us, hl, h0, hat, ht, hP⟩ := box_now ho hk hG hL hc
  rw [hf] at hP
  obtain ⟨us', e', hfit⟩ := hP
  have e2 : us = us' := agg_inj e'
  subst e2
  have e := hx L vs w hG hd
  have hsub := hfit.sub hs
  obtain ⟨⟨dd, hu, hd'⟩, hi⟩ := rowB_of hT
  have hlen : ((us.drop off).take l).length = l := by
    rw [hsub.length]
    unfold subF at hs
    cases hq : cutF off fs with
    | none => simp [hq] at hs
    | some a => rw [hq] at hs; exact firstF_sz hs
  refine ⟨.agg ((us.drop off).take l).toArray, ?_, hC _ _ ⟨_, rfl, hsub⟩⟩
  have hr : w.rangeAt o.b off ((us.drop off).take l) := by
    intro j v hv
    rw [List.getElem?_take] at hv
    split at hv
    · rw [List.getElem?_drop] at hv
      have hj := (List.getElem?_eq_some_iff.1 hv).1
      rw [(hat _ hj).1, List.getD, hv]
      rfl
    · cases hv
  have := run_loadVar_mid (P := Tryd.prog) w o.b off T _ dd hr hu hd' (by rw [hlen]; exact hi)
  generalize (lay os.toArray L vs os.toArray.size a).eval = ρ at e
  simp only [execOp, e, Instr.loadAt, Instr.sureAddr, Sem.run_bind, Sem.run_pure, Result.andThen_ok, this]

theorem st_run {T b off : Nat} {x y : Operand} {fs gs fs' : List Fd} {us : List Value} {w : World} {ρ : Operand → Value} (hx : ρ x = .pointer (some ⟨b, off, none⟩)) (hv : FitV gs (ρ y) w) (ha : At w b us) (hf : Fits w fs us) (hT : sizeB T (sz gs) = true) (hput : putF off gs fs = some fs') :
    ∃ us', us'.length = us.length ∧ Fits w fs' us' ∧ (execOp ρ { dst := d, op := .store T x y, type := ty, pos := ps, after := af, guard := none }).run Tryd.prog w = .ok .skip (putFrom w b 0 us') := by
  have hlen := hv.length
  have hsum : off + sz gs ≤ sz fs := by
    unfold putF at hput
    cases hq : firstF off fs with
    | none => simp [hq] at hput
    | some a =>
      cases hc : cutF (off + sz gs) fs with
      | none => simp [hq, hc] at hput
      | some c => have := cutF_le hc; omega
  rw [← hf.length] at hsum
  have hcs : (ρ y).cells.size = sz gs := by rw [← hlen]; simp
  refine ⟨_, ?_, hf.put hv hput, ?_⟩
  · simp only [List.length_append, List.length_take, List.length_drop, hlen]; omega
  · have hrun := run_storeVar_fit (w := w) (b := b) (o := off) (T := T) (v := ρ y) (fun j hj => by
        have := ha (off + j) (by omega)
        exact ⟨by rw [this.1]; rfl, this.2⟩) (by rw [hcs]; exact hT) hv.one
    rw [← putFrom_eq, putFrom_part ha (by rw [hlen]; exact hsum), hlen] at hrun
    simp only [execOp, Instr.storeAt, Instr.sureAddr, hx, Sem.run_bind, Sem.run_pure, Result.andThen_ok, hrun]

theorem q_storeOldSt {o0 : Ob} {off T : Nat} {x y : Operand} {fs gs fs' : List Fd} (hp : p.Ok B B0) (hi : o0 ∈ p.old) (hki : o0.k = i) (hf0 : o0.F0 = Fq.st fs) (hf1 : o0.F1 = Fq.st fs') (hT : sizeB T (sz gs) = true) (hput : putF off gs fs = some fs')
    (hx : SrcQ os a p B B0 w0 af x fun u _ => u = .pointer (some ⟨o0.b, off, none⟩)) (hy : SrcQ os a p B B0 w0 af y (FitV gs))
    (hC : ∀ v w', (p.c i).P v w') (h2 : ∀ n ∈ p.new, n.i ≠ i ∧ n.k ≠ i) : StepQ os Q a p B B0 w0 i { dst := none, op := .store T x y, type := ty, pos := ps, after := af, guard := none } := by
  subst hki
  intro hio L vs w hG hL hd hc
  have hv := hy L vs w hG hd
  obtain ⟨us, g1, g2, g3, g4, g5⟩ := hG.old _ hi
  rw [hL] at g5
  simp only [Bool.false_eq_true, if_false] at g5
  rw [hf0] at g5
  obtain ⟨us2, e2, hfit⟩ := g5
  have e3 : us = us2 := agg_inj e2
  subst e3
  obtain ⟨us', hl', hfit', hrun⟩ := st_run (d := none) (ty := ty) (ps := ps) (af := af) (hx L vs w hG hd) hv g3 hfit hT hput
  refine wpOp_step hio fun K' hK => ?_
  have hwn : Region.wanted ({ dst := none, op := .store T x y, type := ty, pos := ps, after := af, guard := none } : Oper) (yielded os.toArray (lay os.toArray L vs os.toArray.size a).tmps) = true := rfl
  rw [if_pos hwn]
  unfold Oper.wp
  rw [hrun]
  exact hK _ _ ⟨undef, rfl, hG.storeOld hp hi (us := us') (by omega) hfit'.tame (by rw [hf1]; exact ⟨_, rfl, hfit'⟩) hC h2 _⟩

end
end Go.Proofs.YtnhapjifddhdiaaDoor

namespace Go.Proofs.YtnhapjifddhdiaaDoor
open Go Go.RowKit

def arrF (f : Nat → Int) : Nat → Nat → List Fd
  | _, 0 => []
  | s, n + 1 => .n (f s) :: arrF f (s + 1) n
def zerosC : Nat → List Value
  | 0 => []
  | n + 1 => .bool false :: .slice none 0 0 :: zerosC n
theorem arr_cut (f : Nat → Int) : ∀ k s n, k ≤ n → cutF (2 * k) (arrF f s n) = some (arrF f (s + k) (n - k))
  | 0, _, _, _ => by rw [Nat.mul_zero, Nat.add_zero, Nat.sub_zero]; cases ‹Nat› <;> rfl
  | k + 1, s, n + 1, h => by
    rw [show 2 * (k + 1) = 2 * k + 2 by omega, show s + (k + 1) = s + 1 + k by omega, show n + 1 - (k + 1) = n - k by omega]
    exact arr_cut f k (s + 1) n (by omega)
theorem arr_first (f : Nat → Int) : ∀ k s n, k ≤ n → firstF (2 * k) (arrF f s n) = some (arrF f s k)
  | 0, _, _, _ => by rw [Nat.mul_zero]; cases ‹Nat› <;> rfl
  | k + 1, s, n + 1, h => by
    rw [show 2 * (k + 1) = 2 * k + 2 by omega]
    show (firstF (2 * k) (arrF f (s + 1) n)).map _ = _
    rw [arr_first f k (s + 1) n (by omega)]
    rfl
theorem arr_app (f : Nat → Int) : ∀ a s b, arrF f s (a + b) = arrF f s a ++ arrF f (s + a) b
  | 0, s, b => by rw [Nat.zero_add, Nat.add_zero]; rfl
  | a + 1, s, b => by
    rw [show a + 1 + b = (a + b) + 1 by omega, show s + (a + 1) = s + 1 + a by omega]
    show _ :: arrF f (s + 1) (a + b) = _ :: (arrF f (s + 1) a ++ _)
    rw [arr_app f a (s + 1) b]
theorem arr_congr {f g : Nat → Int} : ∀ n s, (∀ j, s ≤ j → j < s + n → f j = g j) → arrF f s n = arrF g s n
  | 0, _, _ => rfl
  | n + 1, s, h => by
    show _ :: arrF f (s + 1) n = _ :: arrF g (s + 1) n
    rw [h s (Nat.le_refl _) (by omega), arr_congr n (s + 1) fun j h1 h2 => h j (by omega) (by omega)]
def updI (f : Nat → Int) (k : Nat) (z : Int) (j : Nat) : Int := if j = k then z else f j
theorem arr_sub (f : Nat → Int) {k n : Nat} (h : k < n) : subF (k * 2) 2 (arrF f 0 n) = some [.n (f k)] := by
  unfold subF
  rw [Nat.mul_comm, arr_cut f k 0 n (by omega), Nat.zero_add]
  obtain ⟨m, hm⟩ : ∃ m, n - k = m + 1 := ⟨n - k - 1, by omega⟩
  rw [hm]
  show (firstF 0 (arrF f (k + 1) m)).map _ = _
  cases arrF f (k + 1) m <;> rfl
theorem arr_put (f : Nat → Int) {k n : Nat} (z : Int) (h : k < n) : putF (k * 2) [.n z] (arrF f 0 n) = some (arrF (updI f k z) 0 n) := by
  unfold putF
  rw [Nat.mul_comm, arr_first f k 0 n (by omega), show 2 * k + sz [.n z] = 2 * (k + 1) from rfl, arr_cut f (k + 1) 0 n (by omega)]
  show some _ = some _
  congr 1
  obtain ⟨m, hm⟩ : ∃ m, n = k + (1 + m) := ⟨n - k - 1, by omega⟩
  subst hm
  rw [show k + (1 + m) - (k + 1) = m by omega, arr_app (updI f k z) k 0 (1 + m), arr_app (updI f k z) 1 (0 + k) m, Nat.zero_add, Nat.zero_add]
  rw [arr_congr (f := f) (g := updI f k z) k 0 fun j _ h2 => by unfold updI; rw [if_neg (by omega)]]
  rw [arr_congr (f := f) (g := updI f k z) m (k + 1) fun j h1 _ => by unfold updI; rw [if_neg (by omega)]]
  show _ ++ (Fd.n z :: _) = _ ++ (Fd.n (updI f k z k) :: _)
  unfold updI
  rw [if_pos rfl]
  rfl
theorem arr_fits (w : World) : ∀ n s, Fits w (arrF (fun _ => 0) s n) (zerosC n)
  | 0, _ => rfl
  | n + 1, s => ⟨_, _, _, rfl, Num.zero w, arr_fits w n (s + 1)⟩
theorem zeros_length : ∀ n, (zerosC n).length = n * 2
  | 0 => rfl
  | n + 1 => by simp [zerosC, zeros_length n]; omega
noncomputable def zeroB (T : Nat) (us : List Value) : Prop := (Tryd.prog.info? T).map (·.zero) = some (some (.agg us.toArray))
theorem run_alloc_zero {T : Nat} {us : List Value} (h : zeroB T us) {d : Option Tmp} {ty : TypeId} {ps : String} {af : Array Edge} {gd : Option (Nat × Bool)} (ρ : Operand → Value) (w : World) : (execOp ρ { dst := d, op := .alloc T, type := ty, pos := ps, after := af, guard := gd }).run Tryd.prog w = .ok (.value (.pointer (some ⟨w.heap.size, 0, none⟩))) (w.alloc (.cells us.toArray T)) := by
  unfold zeroB at h
  cases hi : Tryd.prog.info? T with
  | none => simp [hi] at h
  | some i =>
    simp [hi] at h
    have hz : (zeroValue T).run Tryd.prog w = .ok (.agg us.toArray) w := by
      simp [zeroValue, typeInfo, hi, h]
    simp only [execOp, Instr.alloc, Sem.run_bind, hz, Result.andThen_ok]
    simp [go_sem, newVar, newRow, Value.cells]
theorem region_alloc {Q : Exit → Act → World → Prop} {a : Act} {W : World} {id T : Nat} {us : List Value} (hz : zeroB T us) {d : Option Tmp} {ty : TypeId} {ps : String} (h : Q .normal (a.put d (.pointer (some ⟨W.heap.size, 0, none⟩))) (W.alloc (.cells us.toArray T))) : (Code.region id #[{ dst := d, op := .alloc T, type := ty, pos := ps, after := #[], guard := none }] false).wp Tryd.prog Q a W := by
  refine wp_region_list ?_
  refine wpList_plain rfl fun K hK => ?_
  unfold Oper.wp
  rw [run_alloc_zero hz]
  exact hK _ _ h
end Go.Proofs.YtnhapjifddhdiaaDoor

namespace Go.Proofs.YtnhapjifddhdiaaDoor
open Go Go.RowKit

theorem row_api_Int : rowB 27 2 = true := by kernel_rfl
theorem size_api_Int : sizeB 27 2 = true := by kernel_rfl
theorem zero201 : zeroB 82 (zerosC 201) := by show (Tryd.prog.info? 82).map (·.zero) = some (some (.agg (zerosC 201).toArray)); kernel_rfl
theorem enq_f_algorist_prime_leastDivisor (args : Array Value) (w : World) : (callFunc 63 args).run Tryd.prog w = .ok (.enter 63 args) w := enter_of Tryd.func63 (by kernel_rfl) rfl args w
theorem least_ex (b : Nat) (hb : 2 ≤ b) : ∃ p, Least b p ∧ p ≤ b := by
  have h : ∀ n, n ≤ b → (∃ p, p < n ∧ Least b p) ∨ ∀ q, 2 ≤ q → q < n → b % q ≠ 0 := by
    intro n
    induction n with
    | zero => intro _; right; intro q _ h; omega
    | succ n ih =>
      intro hn
      rcases ih (by omega) with ⟨p, h1, h2⟩ | h1
      · exact .inl ⟨p, by omega, h2⟩
      · by_cases h2 : 2 ≤ n ∧ b % n = 0
        · exact .inl ⟨n, by omega, h2.1, h2.2, h1⟩
        · right
          intro q hq hqn
          by_cases e : q = n
          · subst e; exact fun h3 => h2 ⟨hq, h3⟩
          · exact h1 q hq (by omega)
  rcases h b (Nat.le_refl _) with ⟨p, h1, h2⟩ | h1
  · exact ⟨p, h2, by omega⟩
  · exact ⟨b, ⟨hb, Nat.mod_self b, h1⟩, Nat.le_refl _⟩
theorem least_uniq {b p q : Nat} (hp : Least b p) (hq : Least b q) : p = q := by
  rcases Nat.lt_trichotomy p q with h | h | h
  · exact absurd hp.2.1 (hq.2.2 p hp.1 h)
  · exact h
  · exact absurd hq.2.1 (hp.2.2 q hq.1 h)
theorem exLeast {w : World} {b p : Nat} (h0 : 2 ≤ b) (h1 : b < 1000) (hp : Least b p) : Calls Tryd.prog 63 #[.int .i64 b] w fun e w' => ∃ v', e = .returned v' ∧ Below w.heap.size w w' ∧ v' = .int .i64 (p : Int) := by
  refine (leastDivisor_any w b h0 h1).mono ?_
  rintro e w' ⟨⟨q, rfl, hq, _⟩, rfl⟩
  exact ⟨_, rfl, Below.refl _ _, by rw [least_uniq hq hp]⟩
theorem pwv_mul {N p q b D : Nat} {z : Int} (hz : z = (N : Int)) (hb : b = p * q) : (pwv N p D * pwv N q D) % z = pwv N b D := by
  rw [hz, hb]
  unfold pwv
  rw [← Int.natCast_mul, ← Int.natCast_emod, Nat.mul_pow, ← Nat.mul_mod]
set_option maxRecDepth 100000 in
set_option maxHeartbeats 4000000 in
theorem exTWitness {w : World} {v : Value} {z si : Int} {N D s R : Nat} {F : Nat → Bool} (h : Test w v z (z - 1) si) (hn : ab z < pw 3) (hzN : z = (N : Int)) (h2 : 2 < N) (hsi : si = (s : Int)) (hs : s ≤ nbits (z - 1)) (hsd : N - 1 = 2 ^ s * D ∧ D % 2 = 1) (hsb : (0 < s ∧ s ≤ 96) ∧ 200 < N) (hf : ∀ b, F b = true ↔ StrongP N b) (hR : R = witF F 199 2) :
    Calls Tryd.prog 39 #[v] w fun e w' => ∃ v', e = .returned v' ∧ Below w.heap.size w w' ∧ v' = .int .i64 (R : Int) := by
  replace hn := hidd hn
  have HZN := hidd hzN
  have HN2 := hidd h2
  have HSI := hidd hsi
  have HS := hidd hs
  have HSD := hidd hsd
  have HSB := hidd hsb
  have HF := hidd hf
  have HRR := hidd hR
  have HM : Hid (z ≠ 0) := by show _ ≠ _; omega
  have HN0 : Hid (0 < N) := by show 0 < N; omega
  clear hzN h2 hsi hs hsd hsb hf hR
  obtain ⟨n0, ao0, k0, c0, n0', ao0', k0', c0', rfl, _, _⟩ := h.parts
  obtain ⟨w1, b1, hw1, hb1, hs1, E⟩ := fr_start w (F := Fq.test z (z - 1) si) (us := [.bool n0, .slice ao0 k0 c0, .bool n0', .slice ao0' k0' c0', .int .i64 si]) 55 rfl (by simp) (tame_test _ _ _ _ _ _ _ _ _) h
  go_enter Tryd.func39, Tryd.ntmps39
  go_upto_region 1 with (fail)
  rw [← hw1]
  rw [← hb1]
  clear hw1 hb1 hs1
  refine region_alloc zero201 ?_
  obtain ⟨w9, b9, hw9, hb9, hs9, E9⟩ := fr_more E rfl (F := Fq.st (arrF (fun _ => 0) 0 201)) (us := zerosC 201) 82 (zeros_length 201) (by omega) (arr_fits w 201 0).tame ⟨_, rfl, arr_fits _ 201 0⟩
  rw [← hw9, ← hb9]
  clear hw9 hb9 hs9 E
  have E : Fr w [(b9, 402, Fq.st (arrF (fun _ => 0) 0 201)), (b1, 5, Fq.test z (z - 1) si)] w9 := E9
  clear E9
  simp only [Act.put, List.setIfInBounds_toArray, List.set_cons_succ, List.set_cons_zero]
  go_upto_region 2 with (fail)
  refine region_fr (C := [Fq.is (.int .i64 2)]) (ks := [none, none]) (new := []) E rfl (by kernel_rfl) rfl rfl (fun hp => ⟨?_, trivial⟩) ?_
  · exact q_assign hp (free_of rfl) trivial (sq_const (fun _ => rfl))
  intro L vs w2 nb hL hC hn E2
  have e0 : vs 0 = .int .i64 2 := hC 0 (by simp)
  have E : Fr w [(b9, 402, Fq.st (arrF (fun _ => 0) 0 201)), (b1, 5, Fq.test z (z - 1) si)] w2 := E2
  rw [lay_all hL]
  simp only [putAll, dstOf, List.length_cons, List.length_nil, Nat.zero_add, List.getElem?_toArray, List.getElem?_cons_zero, Option.bind_some, Act.put, List.setIfInBounds_toArray, List.set_cons_succ, List.set_cons_zero]
  rw [e0]
  clear e0 hC hn E2 hL vs L nb
  have HSE := hidd E
  go_upto_region 3 with (fail)
  go_loopw [4] (fun vi W => ∃ (b : Nat) (f : Nat → Int), 2 ≤ b ∧ b ≤ 201 ∧ vi = .int .i64 (b : Int) ∧ (∀ j, 2 ≤ j → j < b → f j = pwv N j D) ∧ R = witF F (201 - b) b ∧ Fr w [(b9, 402, Fq.st (arrF f 0 201)), (b1, 5, Fq.test z (z - 1) si)] W) (fun vi _ => 201 - (intOf vi).toNat)
  case atStart => exact ⟨2, fun _ => 0, by omega, by omega, rfl, fun j h1 h2 => by omega, HRR.out, HSE.out⟩
  case round =>
    obtain ⟨b, f, hb2, hb1, rfl, hfj, hRb, E⟩ := hrel
    clear HSE
    by_cases h0 : b = 201
    · have e9 : b = 201 := by omega
      subst e9
      have e8 : R = 0 := hRb
      subst e8
      clear hfj hRb hb2 hb1 h0
      go_upto_region 3 with (fail)
      refine region_fr (C := [Fq.is (.int .i64 ((201 : Nat) : Int)), Fq.is (.bool false)]) (ks := [none, none]) (new := []) E rfl (by kernel_rfl) rfl rfl (fun hp => ⟨?_, ?_, trivial⟩) ?_
      · exact q_move hp (free_of rfl) trivial (sq_out (s := 4) rfl rfl (fun _ _ => rfl))
      · exact q_one (F := fun v _ => v = .int .i64 ((201 : Nat) : Int)) hp (free_of rfl) trivial (sqi 0) (fun ρ w hc h => ⟨.bool false, by simp [execOp, go_sem, h, hc], rfl⟩)
      intro L vs w3 nb hL hC hn E3
      have e0 : vs 0 = .int .i64 ((201 : Nat) : Int) := hC 0 (by simp)
      have e1 : vs 1 = .bool false := hC 1 (by simp)
      have E : Fr w [(b9, 402, Fq.st (arrF f 0 201)), (b1, 5, Fq.test z (z - 1) si)] w3 := E3
      rw [lay_all hL]
      simp only [putAll, dstOf, List.length_cons, List.length_nil, Nat.zero_add, Nat.reduceAdd, List.getElem?_toArray, List.getElem?_cons_zero, List.getElem?_cons_succ, Option.bind_some, Act.put, List.setIfInBounds_toArray, List.set_cons_succ, List.set_cons_zero]
      rw [e0, e1]
      clear e0 e1 hC hn E3 hL vs L nb
      go_upto_region 11 with (fail)
      refine region_fr (C := [Fq.is (.int .i64 0)]) (ks := [none, none]) (new := []) E rfl (by kernel_rfl) rfl rfl (fun hp => ⟨?_, trivial⟩) ?_
      · exact q_assign hp (free_of rfl) trivial (sq_const (fun _ => rfl))
      intro L vs w4 nb hL hC hn E4
      have e0 : vs 0 = .int .i64 0 := hC 0 (by simp)
      have E : Fr w [(b9, 402, Fq.st (arrF f 0 201)), (b1, 5, Fq.test z (z - 1) si)] w4 := E4
      rw [lay_all hL]
      simp only [putAll, dstOf, List.length_cons, List.length_nil, Nat.zero_add, List.getElem?_toArray, List.getElem?_cons_zero, Option.bind_some, Act.put, List.setIfInBounds_toArray, List.set_cons_succ, List.set_cons_zero]
      rw [e0]
      clear e0 hC hn E4 hL vs L nb
      clear HZN HN2 HSI HS HSD HSB HF HRR HM HN0
      clear hn
      go_wp2
      refine bodyPost_ret (v := .int .i64 0) ?_ rfl ⟨_, rfl, E.below, rfl⟩
      simp [results, Tryd.results39, go_sem]
    · have HB := hidd (And.intro hb2 (show b ≤ 200 by omega))
      have TL : Hid ((b : Int) ≤ 200) := by show _ ≤ _; omega
      have HFJ := hidd hfj
      have HRB := hidd hRb
      obtain ⟨p, hp, hpb⟩ := least_ex b hb2
      have HP := hidd hp
      have HP2 : Hid (2 ≤ p) := hp.1
      obtain ⟨S, hS⟩ : ∃ S, S = F b := ⟨_, rfl⟩
      have HSF := hidd hS
      have HPA : Hid (S = true ↔ (b ^ D % N = 1 ∨ ∃ i, i < s ∧ b ^ (2 ^ i * D) % N = N - 1)) := by
        show _ ↔ _
        rw [hS, HF.out b, strong_iff HSD.out.1 HSD.out.2]
        constructor
        · rintro (h | h)
          · rw [Nat.mod_eq_of_lt (by have := HSB.out.2; omega)] at h; omega
          · exact h
        · exact .inr
      have Bx : Hid (ab (pwv N b D) < pw 3) := pwv_lt HZN.out HN0.out hn.out
      have HKB : Hid (b < 201) := by show b < 201; omega
      have TKB : Hid ((b : Int) < 201) := by show (b : Int) < 201; omega
      clear hfj hRb hS hp h0 hb1 hb2
      go_upto_region 3 with (fail)
      refine region_fr (C := [Fq.is (.int .i64 (b : Int)), Fq.is (.bool true)]) (ks := [none, none]) (new := []) E rfl (by kernel_rfl) rfl rfl (fun hp => ⟨?_, ?_, trivial⟩) ?_
      · exact q_move hp (free_of rfl) trivial (sq_out (s := 4) rfl rfl (fun _ _ => rfl))
      · exact q_one (F := fun v _ => v = .int .i64 (b : Int)) hp (free_of rfl) trivial (sqi 0) (fun ρ w hc h => ⟨.bool true, by simp [execOp, go_sem, h, hc, TL.out], rfl⟩)
      intro L vs w5 nb hL hC hn E5
      have e0 : vs 0 = .int .i64 (b : Int) := hC 0 (by simp)
      have e1 : vs 1 = .bool true := hC 1 (by simp)
      have E : Fr w [(b9, 402, Fq.st (arrF f 0 201)), (b1, 5, Fq.test z (z - 1) si)] w5 := E5
      rw [lay_all hL]
      simp only [putAll, dstOf, List.length_cons, List.length_nil, Nat.zero_add, Nat.reduceAdd, List.getElem?_toArray, List.getElem?_cons_zero, List.getElem?_cons_succ, Option.bind_some, Act.put, List.setIfInBounds_toArray, List.set_cons_succ, List.set_cons_zero]
      rw [e0, e1]
      clear e0 e1 hC hn E5 hL vs L nb
      clear TL
      go_upto_region 5 with (fail)
      refine region_fr (C := [Fq.is (.int .i64 (b : Int)), Fq.is (.int .i64 (p : Int)), Fq.is (.int .i64 (p : Int))]) (ks := [none, none]) (new := []) E rfl (by kernel_rfl) rfl rfl (fun hp => ⟨?_, ?_, ?_, trivial⟩) ?_
      · exact q_move hp (free_of rfl) trivial (sq_out (s := 4) rfl rfl (fun _ _ => rfl))
      · exact q_call1 (F := (Fq.is (.int .i64 (b : Int))).P) hp (free_of rfl) trivial (enq_f_algorist_prime_leastDivisor) (sqi 0) (fun v w h => (by subst h; exact exLeast HB.out.1 (by have := HB.out; omega) HP.out))
      · exact q_assign hp (free_of rfl) trivial (sqi 1)
      intro L vs w6 nb hL hC hn E6
      have e0 : vs 0 = .int .i64 (b : Int) := hC 0 (by simp)
      have e1 : vs 1 = .int .i64 (p : Int) := hC 1 (by simp)
      have e2 : vs 2 = .int .i64 (p : Int) := hC 2 (by simp)
      have E : Fr w [(b9, 402, Fq.st (arrF f 0 201)), (b1, 5, Fq.test z (z - 1) si)] w6 := E6
      rw [lay_all hL]
      simp only [putAll, dstOf, List.length_cons, List.length_nil, Nat.zero_add, Nat.reduceAdd, List.getElem?_toArray, List.getElem?_cons_zero, List.getElem?_cons_succ, Option.bind_some, Act.put, List.setIfInBounds_toArray, List.set_cons_succ, List.set_cons_zero]
      rw [e0, e1, e2]
      clear e0 e1 e2 hC hn E6 hL vs L nb
      by_cases hpl : p < b
      · obtain ⟨q, hq⟩ : ∃ q, q = b / p := ⟨_, rfl⟩
        have HPQ : b = p * q := by rw [hq]; have := Nat.div_add_mod b p; have := HP.out.2.1; omega
        have hq2 : 2 ≤ q := by
          rcases Nat.lt_or_ge q 2 with h | h
          · exfalso
            have : p * q ≤ p * 1 := Nat.mul_le_mul_left _ (by omega)
            omega
          · exact h
        have hqb : q < b := by
          have : 2 * q ≤ p * q := Nat.mul_le_mul_right _ HP2.out
          omega
        have HKP : Hid (p < 201) := by have := HB.out; show p < 201; omega
        have HKQ : Hid (q < 201) := by have := HB.out; show q < 201; omega
        have TKP : Hid ((p : Int) < 201) := by have := HKP.out; show (p : Int) < 201; omega
        have TKQ : Hid ((q : Int) < 201) := by have := HKQ.out; show (q : Int) < 201; omega
        have FP := HFJ.out p HP2.out hpl
        have FQ := HFJ.out q hq2 hqb
        have Bp : Hid (ab (f p) < pw 3) := by show _ < _; rw [FP]; exact pwv_lt HZN.out HN0.out hn.out
        have Bq9 : Hid (ab (f q) < pw 3) := by show _ < _; rw [FQ]; exact pwv_lt HZN.out HN0.out hn.out
        have EZ : Hid (f p * f q % z = pwv N b D) := by show _ = _; rw [FP, FQ]; exact pwv_mul HZN.out HPQ
        have TP0 : Hid (¬ p = 0) := by have := HP2.out; show ¬ _; omega
        have WQ : Hid (Int.tdiv (b : Int) p = (q : Int)) := by show _ = _; rw [Int.tdiv_eq_ediv_of_nonneg (by omega), hq]; exact (Int.natCast_ediv _ _).symm
        have WQ2 : Hid (IntKind.i64.wrap (q : Int) = q) := IntWalk.i64_in _ (by have := HKQ.out; omega)
        have TLT : Hid ((p : Int) < b) := by show _ < _; omega
        clear hq HPQ hq2 hqb FP FQ hpl hpb
        go_upto_region 6 with (fail)
        refine region_fr (C := [Fq.is (.int .i64 (p : Int)), Fq.is (.int .i64 (b : Int)), Fq.is (.bool true)]) (ks := [none, none]) (new := []) E rfl (by kernel_rfl) rfl rfl (fun hp => ⟨?_, ?_, ?_, trivial⟩) ?_
        · exact q_move hp (free_of rfl) trivial (sq_out (s := 5) rfl rfl (fun _ _ => rfl))
        · exact q_move hp (free_of rfl) trivial (sq_out (s := 4) rfl rfl (fun _ _ => rfl))
        · exact q_two (F := fun v _ => v = .int .i64 (p : Int)) (G := fun v _ => v = .int .i64 (b : Int)) hp (free_of rfl) trivial (sqi 0) (sqi 1) (fun ρ w hc h h' => ⟨.bool true, by simp [execOp, go_sem, h, h', TLT.out], rfl⟩)
        intro L vs w7 nb hL hC hn E7
        have e0 : vs 0 = .int .i64 (p : Int) := hC 0 (by simp)
        have e1 : vs 1 = .int .i64 (b : Int) := hC 1 (by simp)
        have e2 : vs 2 = .bool true := hC 2 (by simp)
        have E : Fr w [(b9, 402, Fq.st (arrF f 0 201)), (b1, 5, Fq.test z (z - 1) si)] w7 := E7
        rw [lay_all hL]
        simp only [putAll, dstOf, List.length_cons, List.length_nil, Nat.zero_add, Nat.reduceAdd, List.getElem?_toArray, List.getElem?_cons_zero, List.getElem?_cons_succ, Option.bind_some, Act.put, List.setIfInBounds_toArray, List.set_cons_succ, List.set_cons_zero]
        rw [e0, e1, e2]
        clear e0 e1 e2 hC hn E7 hL vs L nb
        clear TLT
        go_upto_region 7 with (fail)
        refine region_fr (C := [Fq.is (.int .i64 (b : Int)), Fq.test z (z - 1) si, Fq.is (.int .i64 (p : Int)), Fq.is (.pointer (some ⟨b9, p * 2, none⟩)), Fq.num (f p), Fq.is (.int .i64 (b : Int)), Fq.is (.int .i64 (p : Int)), Fq.is (.int .i64 (q : Int)), Fq.is (.pointer (some ⟨b9, q * 2, none⟩)), Fq.num (f q), Fq.num (f p * f q % z), Fq.is (.pointer (some ⟨b9, b * 2, none⟩)), Fq.any]) (ks := [some (12, Fq.st (arrF (updI f b (f p * f q % z)) 0 201)), none]) (new := []) E rfl (by kernel_rfl) rfl rfl (fun hp => ⟨?_, ?_, ?_, ?_, ?_, ?_, ?_, ?_, ?_, ?_, ?_, ?_, ?_, trivial⟩) ?_
        · exact q_move hp (free_of rfl) trivial (sq_out (s := 4) rfl rfl (fun _ _ => rfl))
        · exact q_loadTest hp (free_of rfl) trivial (List.mem_iff_getElem?.2 ⟨1, rfl⟩) (.inl rfl) rfl (sq_out (s := 1) rfl rfl (fun _ _ => rfl)) (fun us w hl h => h)
        · exact q_move hp (free_of rfl) trivial (sq_out (s := 5) rfl rfl (fun _ _ => rfl))
        · exact q_two (F := fun v _ => v = .pointer (some ⟨b9, 0, none⟩)) (G := fun v _ => v = .int .i64 (p : Int)) hp (free_of rfl) trivial (sq_out (s := 3) rfl rfl (fun _ _ => rfl)) (sqi 2) (fun ρ w hc h h' => ⟨.pointer (some ⟨b9, p * 2, none⟩), by simp [execOp, go_sem, h, h', TKP.out], rfl⟩)
        · exact q_loadSt (off := p * 2) (l := 2) (fs := arrF f 0 201) (gs := [.n (f p)]) hp (free_of rfl) trivial (List.mem_iff_getElem?.2 ⟨0, rfl⟩) (.inr rfl) rfl row_api_Int (arr_sub f HKP.out) (sqi 3) (fun v w h => st_num h)
        · exact q_move hp (free_of rfl) trivial (sq_out (s := 4) rfl rfl (fun _ _ => rfl))
        · exact q_move hp (free_of rfl) trivial (sq_out (s := 5) rfl rfl (fun _ _ => rfl))
        · exact q_two (F := fun v _ => v = .int .i64 (b : Int)) (G := fun v _ => v = .int .i64 (p : Int)) hp (free_of rfl) trivial (sqi 5) (sqi 6) (fun ρ w hc h h' => ⟨.int .i64 (q : Int), by simp [execOp, go_sem, h, h', TP0.out, WQ.out, WQ2.out], rfl⟩)
        · exact q_two (F := fun v _ => v = .pointer (some ⟨b9, 0, none⟩)) (G := fun v _ => v = .int .i64 (q : Int)) hp (free_of rfl) trivial (sq_out (s := 3) rfl rfl (fun _ _ => rfl)) (sqi 7) (fun ρ w hc h h' => ⟨.pointer (some ⟨b9, q * 2, none⟩), by simp [execOp, go_sem, h, h', TKQ.out], rfl⟩)
        · exact q_loadSt (off := q * 2) (l := 2) (fs := arrF f 0 201) (gs := [.n (f q)]) hp (free_of rfl) trivial (List.mem_iff_getElem?.2 ⟨0, rfl⟩) (.inr rfl) rfl row_api_Int (arr_sub f HKQ.out) (sqi 8) (fun v w h => st_num h)
        · exact q_call3 (F := (Fq.test z (z - 1) si).P) (G := (Fq.num (f p)).P) (F3 := (Fq.num (f q)).P) hp (free_of rfl) trivial (enq_f_algorist_prime_test_mul) (sqi 1) (sqi 4) (sqi 9) (fun v v' u w h h' g => exTMul h h' g (Int.lt_of_lt_of_le Bp.out (pw_le (by omega))) (Int.lt_of_lt_of_le Bq9.out (pw_le (by omega))) (Int.lt_of_lt_of_le hn.out (pw_le (by omega))) HM.out)
        · exact q_two (F := fun v _ => v = .pointer (some ⟨b9, 0, none⟩)) (G := fun v _ => v = .int .i64 (b : Int)) hp (free_of rfl) trivial (sq_out (s := 3) rfl rfl (fun _ _ => rfl)) (sqi 0) (fun ρ w hc h h' => ⟨.pointer (some ⟨b9, b * 2, none⟩), by simp [execOp, go_sem, h, h', TKB.out], rfl⟩)
        · exact q_storeOldSt (off := b * 2) (fs := arrF f 0 201) (gs := [.n (f p * f q % z)]) (fs' := arrF (updI f b (f p * f q % z)) 0 201) hp (List.mem_iff_getElem?.2 ⟨0, rfl⟩) rfl rfl rfl size_api_Int (arr_put f (f p * f q % z) HKB.out) (sqi 11) (sq_in 10 rfl rfl (by simp) rfl (fun v w h => fitv_num h)) (fun _ _ => trivial) (newik_ne rfl)
        intro L vs w8 nb hL hC hn E8
        have e0 : vs 0 = .int .i64 (b : Int) := hC 0 (by simp)
        have e2 : vs 2 = .int .i64 (p : Int) := hC 2 (by simp)
        have e3 : vs 3 = .pointer (some ⟨b9, p * 2, none⟩) := hC 3 (by simp)
        have e5 : vs 5 = .int .i64 (b : Int) := hC 5 (by simp)
        have e6 : vs 6 = .int .i64 (p : Int) := hC 6 (by simp)
        have e7 : vs 7 = .int .i64 (q : Int) := hC 7 (by simp)
        have e8 : vs 8 = .pointer (some ⟨b9, q * 2, none⟩) := hC 8 (by simp)
        have e11 : vs 11 = .pointer (some ⟨b9, b * 2, none⟩) := hC 11 (by simp)
        have E : Fr w [(b9, 402, Fq.st (arrF (updI f b (f p * f q % z)) 0 201)), (b1, 5, Fq.test z (z - 1) si)] w8 := E8
        rw [lay_all hL]
        simp only [putAll, dstOf, List.length_cons, List.length_nil, Nat.zero_add, Nat.reduceAdd, List.getElem?_toArray, List.getElem?_cons_zero, List.getElem?_cons_succ, Option.bind_some, Act.put, List.setIfInBounds_toArray, List.set_cons_succ, List.set_cons_zero]
        rw [e0, e2, e3, e5, e6, e7, e8, e11]
        generalize vs 1 = u8_1
        generalize vs 4 = u8_4
        generalize vs 9 = u8_9
        generalize vs 10 = u8_10
        clear e0 e2 e3 e5 e6 e7 e8 e11 hC hn E8 hL vs L nb
        clear TP0 WQ WQ2 HKP HKQ TKP TKQ Bp Bq9
        obtain ⟨f2, hf2⟩ : ∃ f2, f2 = updI f b (f p * f q % z) := ⟨_, rfl⟩
        rw [← hf2] at E
        have HF2 : Hid (f2 b = pwv N b D) := by show _ = _; rw [hf2]; exact (if_pos rfl).trans EZ.out
        have HF3 : Hid (∀ j, 2 ≤ j → j < b + 1 → f2 j = pwv N j D) := by
          intro j h1 h2
          by_cases e : j = b
          · subst e; exact HF2.out
          · rw [hf2]; unfold updI; rw [if_neg e]; exact HFJ.out j h1 (by omega)
        clear hf2 EZ HFJ
        go_upto_region 9 with (fail)
        by_cases hs : S = true
        · have HPS : Hid (true = true ↔ (b ^ D % N = 1 ∨ ∃ i, i < s ∧ b ^ (2 ^ i * D) % N = N - 1)) := by have h9 := HPA.out; rw [hs] at h9; exact h9
          have HNX : Hid (R = witF F (201 - (b + 1)) (b + 1)) := by show _ = _; rw [HRB.out]; exact witF_yes HB.out.2 (by rw [← HSF.out, hs])
          clear hs HPA HRB HSF
          refine region_fr (C := [Fq.test z (z - 1) si, Fq.is (.int .i64 (b : Int)), Fq.is (.pointer (some ⟨b9, b * 2, none⟩)), Fq.num (f2 b), Fq.is (.bool true), Fq.is (.bool false)]) (ks := [none, none]) (new := []) E rfl (by kernel_rfl) rfl rfl (fun hp => ⟨?_, ?_, ?_, ?_, ?_, ?_, trivial⟩) ?_
          · exact q_loadTest hp (free_of rfl) trivial (List.mem_iff_getElem?.2 ⟨1, rfl⟩) (.inl rfl) rfl (sq_out (s := 1) rfl rfl (fun _ _ => rfl)) (fun us w hl h => h)
          · exact q_move hp (free_of rfl) trivial (sq_out (s := 4) rfl rfl (fun _ _ => rfl))
          · exact q_two (F := fun v _ => v = .pointer (some ⟨b9, 0, none⟩)) (G := fun v _ => v = .int .i64 (b : Int)) hp (free_of rfl) trivial (sq_out (s := 3) rfl rfl (fun _ _ => rfl)) (sqi 1) (fun ρ w hc h h' => ⟨.pointer (some ⟨b9, b * 2, none⟩), by simp [execOp, go_sem, h, h', TKB.out], rfl⟩)
          · exact q_loadSt (off := b * 2) (l := 2) (fs := arrF f2 0 201) (gs := [.n (f2 b)]) hp (free_of rfl) trivial (List.mem_iff_getElem?.2 ⟨0, rfl⟩) (.inl rfl) rfl row_api_Int (arr_sub f2 HKB.out) (sqi 2) (fun v w h => st_num h)
          · exact q_call2 (F := (Fq.test z (z - 1) si).P) (G := (Fq.num (f2 b)).P) hp (free_of rfl) trivial (enq_f_algorist_prime_test_passes) (sqi 0) (sqi 3) (fun v v' w h h' => (by rw [HF2.out] at h'; exact exTPasses h h' hn.out HZN.out HN2.out HSI.out HSB.out.1 HPS.out))
          · exact q_one (F := fun v _ => v = .bool true) hp (free_of rfl) trivial (sqi 4) (fun ρ w _ h => ⟨.bool false, by simp [execOp, go_sem, h], rfl⟩)
          intro L vs w9 nb hL hC hn E9
          have e1 : vs 1 = .int .i64 (b : Int) := hC 1 (by simp)
          have e2 : vs 2 = .pointer (some ⟨b9, b * 2, none⟩) := hC 2 (by simp)
          have e4 : vs 4 = .bool true := hC 4 (by simp)
          have e5 : vs 5 = .bool false := hC 5 (by simp)
          have E : Fr w [(b9, 402, Fq.st (arrF f2 0 201)), (b1, 5, Fq.test z (z - 1) si)] w9 := E9
          rw [lay_all hL]
          simp only [putAll, dstOf, List.length_cons, List.length_nil, Nat.zero_add, Nat.reduceAdd, List.getElem?_toArray, List.getElem?_cons_zero, List.getElem?_cons_succ, Option.bind_some, Act.put, List.setIfInBounds_toArray, List.set_cons_succ, List.set_cons_zero]
          rw [e1, e2, e4, e5]
          generalize vs 0 = u9_0
          generalize vs 3 = u9_3
          clear e1 e2 e4 e5 hC hn E9 hL vs L nb
          clear HPS
          have hw : IntKind.i64.wrap ((b : Int) + 1) = ((b + 1 : Nat) : Int) := by rw [IntWalk.i64_in _ (by have := HB.out; omega)]; omega
          have HBW := HB.out
          go_wp2
          go_roundw
          case rel => exact ⟨b + 1, f2, by omega, by omega, by first | exact congrArg _ hw | go_num | (rw [hw]; go_num) | (simp only [hw]) | rfl, HF3.out, HNX.out, E⟩
          case measure => first | (simp [intOf]; omega) | (simp [intOf, hw]; omega)
        · have hs2 : S = false := by cases S <;> simp_all
          have HPS : Hid (false = true ↔ (b ^ D % N = 1 ∨ ∃ i, i < s ∧ b ^ (2 ^ i * D) % N = N - 1)) := by have h9 := HPA.out; rw [hs2] at h9; exact h9
          have e8 : R = b := by rw [HRB.out]; exact witF_no HB.out.2 (by rw [← HSF.out, hs2])
          replace e8 := hidd e8
          clear hs hs2 HPA HRB HSF
          refine region_fr (C := [Fq.test z (z - 1) si, Fq.is (.int .i64 (b : Int)), Fq.is (.pointer (some ⟨b9, b * 2, none⟩)), Fq.num (f2 b), Fq.is (.bool false), Fq.is (.bool true)]) (ks := [none, none]) (new := []) E rfl (by kernel_rfl) rfl rfl (fun hp => ⟨?_, ?_, ?_, ?_, ?_, ?_, trivial⟩) ?_
          · exact q_loadTest hp (free_of rfl) trivial (List.mem_iff_getElem?.2 ⟨1, rfl⟩) (.inl rfl) rfl (sq_out (s := 1) rfl rfl (fun _ _ => rfl)) (fun us w hl h => h)
          · exact q_move hp (free_of rfl) trivial (sq_out (s := 4) rfl rfl (fun _ _ => rfl))
          · exact q_two (F := fun v _ => v = .pointer (some ⟨b9, 0, none⟩)) (G := fun v _ => v = .int .i64 (b : Int)) hp (free_of rfl) trivial (sq_out (s := 3) rfl rfl (fun _ _ => rfl)) (sqi 1) (fun ρ w hc h h' => ⟨.pointer (some ⟨b9, b * 2, none⟩), by simp [execOp, go_sem, h, h', TKB.out], rfl⟩)
          · exact q_loadSt (off := b * 2) (l := 2) (fs := arrF f2 0 201) (gs := [.n (f2 b)]) hp (free_of rfl) trivial (List.mem_iff_getElem?.2 ⟨0, rfl⟩) (.inl rfl) rfl row_api_Int (arr_sub f2 HKB.out) (sqi 2) (fun v w h => st_num h)
          · exact q_call2 (F := (Fq.test z (z - 1) si).P) (G := (Fq.num (f2 b)).P) hp (free_of rfl) trivial (enq_f_algorist_prime_test_passes) (sqi 0) (sqi 3) (fun v v' w h h' => (by rw [HF2.out] at h'; exact exTPasses h h' hn.out HZN.out HN2.out HSI.out HSB.out.1 HPS.out))
          · exact q_one (F := fun v _ => v = .bool false) hp (free_of rfl) trivial (sqi 4) (fun ρ w _ h => ⟨.bool true, by simp [execOp, go_sem, h], rfl⟩)
          intro L vs w10 nb hL hC hn E10
          have e1 : vs 1 = .int .i64 (b : Int) := hC 1 (by simp)
          have e2 : vs 2 = .pointer (some ⟨b9, b * 2, none⟩) := hC 2 (by simp)
          have e4 : vs 4 = .bool false := hC 4 (by simp)
          have e5 : vs 5 = .bool true := hC 5 (by simp)
          have E : Fr w [(b9, 402, Fq.st (arrF f2 0 201)), (b1, 5, Fq.test z (z - 1) si)] w10 := E10
          rw [lay_all hL]
          simp only [putAll, dstOf, List.length_cons, List.length_nil, Nat.zero_add, Nat.reduceAdd, List.getElem?_toArray, List.getElem?_cons_zero, List.getElem?_cons_succ, Option.bind_some, Act.put, List.setIfInBounds_toArray, List.set_cons_succ, List.set_cons_zero]
          rw [e1, e2, e4, e5]
          generalize vs 0 = u10_0
          generalize vs 3 = u10_3
          clear e1 e2 e4 e5 hC hn E10 hL vs L nb
          go_upto_region 10 with (fail)
          refine region_fr (C := [Fq.is (.int .i64 (b : Int)), Fq.is (.int .i64 (b : Int))]) (ks := [none, none]) (new := []) E rfl (by kernel_rfl) rfl rfl (fun hp => ⟨?_, ?_, trivial⟩) ?_
          · exact q_move hp (free_of rfl) trivial (sq_out (s := 4) rfl rfl (fun _ _ => rfl))
          · exact q_assign hp (free_of rfl) trivial (sqi 0)
          intro L vs w11 nb hL hC hn E11
          have e0 : vs 0 = .int .i64 (b : Int) := hC 0 (by simp)
          have e1 : vs 1 = .int .i64 (b : Int) := hC 1 (by simp)
          have E : Fr w [(b9, 402, Fq.st (arrF f2 0 201)), (b1, 5, Fq.test z (z - 1) si)] w11 := E11
          rw [lay_all hL]
          simp only [putAll, dstOf, List.length_cons, List.length_nil, Nat.zero_add, Nat.reduceAdd, List.getElem?_toArray, List.getElem?_cons_zero, List.getElem?_cons_succ, Option.bind_some, Act.put, List.setIfInBounds_toArray, List.set_cons_succ, List.set_cons_zero]
          rw [e0, e1]
          clear e0 e1 hC hn E11 hL vs L nb
          clear HPS HF2 HF3 HB HP HP2 HKB TKB HZN HN2 HSI HS HSD HSB HF HRR HM HN0
          clear hn Bx
          go_wp2
          refine bodyPost_ret (v := .int .i64 (b : Int)) ?_ rfl ⟨_, rfl, E.below, by rw [e8.out]⟩
          simp [results, Tryd.results39, go_sem]
      · have TLT : Hid (¬ (p : Int) < b) := by show ¬ _; omega
        have EZ : Hid (pwv N b D = pwv N b D) := rfl
        clear hpl hpb
        go_upto_region 6 with (fail)
        refine region_fr (C := [Fq.is (.int .i64 (p : Int)), Fq.is (.int .i64 (b : Int)), Fq.is (.bool false)]) (ks := [none, none]) (new := []) E rfl (by kernel_rfl) rfl rfl (fun hp => ⟨?_, ?_, ?_, trivial⟩) ?_
        · exact q_move hp (free_of rfl) trivial (sq_out (s := 5) rfl rfl (fun _ _ => rfl))
        · exact q_move hp (free_of rfl) trivial (sq_out (s := 4) rfl rfl (fun _ _ => rfl))
        · exact q_two (F := fun v _ => v = .int .i64 (p : Int)) (G := fun v _ => v = .int .i64 (b : Int)) hp (free_of rfl) trivial (sqi 0) (sqi 1) (fun ρ w hc h h' => ⟨.bool false, by simp [execOp, go_sem, h, h', TLT.out], rfl⟩)
        intro L vs w12 nb hL hC hn E12
        have e0 : vs 0 = .int .i64 (p : Int) := hC 0 (by simp)
        have e1 : vs 1 = .int .i64 (b : Int) := hC 1 (by simp)
        have e2 : vs 2 = .bool false := hC 2 (by simp)
        have E : Fr w [(b9, 402, Fq.st (arrF f 0 201)), (b1, 5, Fq.test z (z - 1) si)] w12 := E12
        rw [lay_all hL]
        simp only [putAll, dstOf, List.length_cons, List.length_nil, Nat.zero_add, Nat.reduceAdd, List.getElem?_toArray, List.getElem?_cons_zero, List.getElem?_cons_succ, Option.bind_some, Act.put, List.setIfInBounds_toArray, List.set_cons_succ, List.set_cons_zero]
        rw [e0, e1, e2]
        clear e0 e1 e2 hC hn E12 hL vs L nb
        clear TLT
        go_upto_region 8 with (fail)
        refine region_fr (C := [Fq.is (.int .i64 (b : Int)), Fq.test z (z - 1) si, Fq.is (.int .i64 (b : Int)), Fq.num (pwv N b D), Fq.is (.pointer (some ⟨b9, b * 2, none⟩)), Fq.any]) (ks := [some (5, Fq.st (arrF (updI f b (pwv N b D)) 0 201)), none]) (new := []) E rfl (by kernel_rfl) rfl rfl (fun hp => ⟨?_, ?_, ?_, ?_, ?_, ?_, trivial⟩) ?_
        · exact q_move hp (free_of rfl) trivial (sq_out (s := 4) rfl rfl (fun _ _ => rfl))
        · exact q_loadTest hp (free_of rfl) trivial (List.mem_iff_getElem?.2 ⟨1, rfl⟩) (.inl rfl) rfl (sq_out (s := 1) rfl rfl (fun _ _ => rfl)) (fun us w hl h => h)
        · exact q_move hp (free_of rfl) trivial (sq_out (s := 4) rfl rfl (fun _ _ => rfl))
        · exact q_call2 (F := (Fq.test z (z - 1) si).P) (G := (Fq.is (.int .i64 (b : Int))).P) hp (free_of rfl) trivial (enq_f_algorist_prime_test_power) (sqi 1) (sqi 2) (fun v v' w h h' => (by subst h'; exact exTPower h hn.out HZN.out HN2.out HSI.out rfl (by have := HB.out; omega) HSD.out.1 HS.out))
        · exact q_two (F := fun v _ => v = .pointer (some ⟨b9, 0, none⟩)) (G := fun v _ => v = .int .i64 (b : Int)) hp (free_of rfl) trivial (sq_out (s := 3) rfl rfl (fun _ _ => rfl)) (sqi 0) (fun ρ w hc h h' => ⟨.pointer (some ⟨b9, b * 2, none⟩), by simp [execOp, go_sem, h, h', TKB.out], rfl⟩)
        · exact q_storeOldSt (off := b * 2) (fs := arrF f 0 201) (gs := [.n (pwv N b D)]) (fs' := arrF (updI f b (pwv N b D)) 0 201) hp (List.mem_iff_getElem?.2 ⟨0, rfl⟩) rfl rfl rfl size_api_Int (arr_put f (pwv N b D) HKB.out) (sqi 4) (sq_in 3 rfl rfl (by simp) rfl (fun v w h => fitv_num h)) (fun _ _ => trivial) (newik_ne rfl)
        intro L vs w13 nb hL hC hn E13
        have e0 : vs 0 = .int .i64 (b : Int) := hC 0 (by simp)
        have e2 : vs 2 = .int .i64 (b : Int) := hC 2 (by simp)
        have e4 : vs 4 = .pointer (some ⟨b9, b * 2, none⟩) := hC 4 (by simp)
        have E : Fr w [(b9, 402, Fq.st (arrF (updI f b (pwv N b D)) 0 201)), (b1, 5, Fq.test z (z - 1) si)] w13 := E13
        rw [lay_all hL]
        simp only [putAll, dstOf, List.length_cons, List.length_nil, Nat.zero_add, Nat.reduceAdd, List.getElem?_toArray, List.getElem?_cons_zero, List.getElem?_cons_succ, Option.bind_some, Act.put, List.setIfInBounds_toArray, List.set_cons_succ, List.set_cons_zero]
        rw [e0, e2, e4]
        generalize vs 1 = u13_1
        generalize vs 3 = u13_3
        clear e0 e2 e4 hC hn E13 hL vs L nb
        obtain ⟨f2, hf2⟩ : ∃ f2, f2 = updI f b (pwv N b D) := ⟨_, rfl⟩
        rw [← hf2] at E
        have HF2 : Hid (f2 b = pwv N b D) := by show _ = _; rw [hf2]; exact (if_pos rfl).trans EZ.out
        have HF3 : Hid (∀ j, 2 ≤ j → j < b + 1 → f2 j = pwv N j D) := by
          intro j h1 h2
          by_cases e : j = b
          · subst e; exact HF2.out
          · rw [hf2]; unfold updI; rw [if_neg e]; exact HFJ.out j h1 (by omega)
        clear hf2 EZ HFJ
        go_upto_region 9 with (fail)
        by_cases hs : S = true
        · have HPS : Hid (true = true ↔ (b ^ D % N = 1 ∨ ∃ i, i < s ∧ b ^ (2 ^ i * D) % N = N - 1)) := by have h9 := HPA.out; rw [hs] at h9; exact h9
          have HNX : Hid (R = witF F (201 - (b + 1)) (b + 1)) := by show _ = _; rw [HRB.out]; exact witF_yes HB.out.2 (by rw [← HSF.out, hs])
          clear hs HPA HRB HSF
          refine region_fr (C := [Fq.test z (z - 1) si, Fq.is (.int .i64 (b : Int)), Fq.is (.pointer (some ⟨b9, b * 2, none⟩)), Fq.num (f2 b), Fq.is (.bool true), Fq.is (.bool false)]) (ks := [none, none]) (new := []) E rfl (by kernel_rfl) rfl rfl (fun hp => ⟨?_, ?_, ?_, ?_, ?_, ?_, trivial⟩) ?_
          · exact q_loadTest hp (free_of rfl) trivial (List.mem_iff_getElem?.2 ⟨1, rfl⟩) (.inl rfl) rfl (sq_out (s := 1) rfl rfl (fun _ _ => rfl)) (fun us w hl h => h)
          · exact q_move hp (free_of rfl) trivial (sq_out (s := 4) rfl rfl (fun _ _ => rfl))
          · exact q_two (F := fun v _ => v = .pointer (some ⟨b9, 0, none⟩)) (G := fun v _ => v = .int .i64 (b : Int)) hp (free_of rfl) trivial (sq_out (s := 3) rfl rfl (fun _ _ => rfl)) (sqi 1) (fun ρ w hc h h' => ⟨.pointer (some ⟨b9, b * 2, none⟩), by simp [execOp, go_sem, h, h', TKB.out], rfl⟩)
          · exact q_loadSt (off := b * 2) (l := 2) (fs := arrF f2 0 201) (gs := [.n (f2 b)]) hp (free_of rfl) trivial (List.mem_iff_getElem?.2 ⟨0, rfl⟩) (.inl rfl) rfl row_api_Int (arr_sub f2 HKB.out) (sqi 2) (fun v w h => st_num h)
          · exact q_call2 (F := (Fq.test z (z - 1) si).P) (G := (Fq.num (f2 b)).P) hp (free_of rfl) trivial (enq_f_algorist_prime_test_passes) (sqi 0) (sqi 3) (fun v v' w h h' => (by rw [HF2.out] at h'; exact exTPasses h h' hn.out HZN.out HN2.out HSI.out HSB.out.1 HPS.out))
          · exact q_one (F := fun v _ => v = .bool true) hp (free_of rfl) trivial (sqi 4) (fun ρ w _ h => ⟨.bool false, by simp [execOp, go_sem, h], rfl⟩)
          intro L vs w14 nb hL hC hn E14
          have e1 : vs 1 = .int .i64 (b : Int) := hC 1 (by simp)
          have e2 : vs 2 = .pointer (some ⟨b9, b * 2, none⟩) := hC 2 (by simp)
          have e4 : vs 4 = .bool true := hC 4 (by simp)
          have e5 : vs 5 = .bool false := hC 5 (by simp)
          have E : Fr w [(b9, 402, Fq.st (arrF f2 0 201)), (b1, 5, Fq.test z (z - 1) si)] w14 := E14
          rw [lay_all hL]
          simp only [putAll, dstOf, List.length_cons, List.length_nil, Nat.zero_add, Nat.reduceAdd, List.getElem?_toArray, List.getElem?_cons_zero, List.getElem?_cons_succ, Option.bind_some, Act.put, List.setIfInBounds_toArray, List.set_cons_succ, List.set_cons_zero]
          rw [e1, e2, e4, e5]
          generalize vs 0 = u14_0
          generalize vs 3 = u14_3
          clear e1 e2 e4 e5 hC hn E14 hL vs L nb
          clear HPS
          have hw : IntKind.i64.wrap ((b : Int) + 1) = ((b + 1 : Nat) : Int) := by rw [IntWalk.i64_in _ (by have := HB.out; omega)]; omega
          have HBW := HB.out
          go_wp2
          go_roundw
          case rel => exact ⟨b + 1, f2, by omega, by omega, by first | exact congrArg _ hw | go_num | (rw [hw]; go_num) | (simp only [hw]) | rfl, HF3.out, HNX.out, E⟩
          case measure => first | (simp [intOf]; omega) | (simp [intOf, hw]; omega)
        · have hs2 : S = false := by cases S <;> simp_all
          have HPS : Hid (false = true ↔ (b ^ D % N = 1 ∨ ∃ i, i < s ∧ b ^ (2 ^ i * D) % N = N - 1)) := by have h9 := HPA.out; rw [hs2] at h9; exact h9
          have e8 : R = b := by rw [HRB.out]; exact witF_no HB.out.2 (by rw [← HSF.out, hs2])
          replace e8 := hidd e8
          clear hs hs2 HPA HRB HSF
          refine region_fr (C := [Fq.test z (z - 1) si, Fq.is (.int .i64 (b : Int)), Fq.is (.pointer (some ⟨b9, b * 2, none⟩)), Fq.num (f2 b), Fq.is (.bool false), Fq.is (.bool true)]) (ks := [none, none]) (new := []) E rfl (by kernel_rfl) rfl rfl (fun hp => ⟨?_, ?_, ?_, ?_, ?_, ?_, trivial⟩) ?_
          · exact q_loadTest hp (free_of rfl) trivial (List.mem_iff_getElem?.2 ⟨1, rfl⟩) (.inl rfl) rfl (sq_out (s := 1) rfl rfl (fun _ _ => rfl)) (fun us w hl h => h)
          · exact q_move hp (free_of rfl) trivial (sq_out (s := 4) rfl rfl (fun _ _ => rfl))
          · exact q_two (F := fun v _ => v = .pointer (some ⟨b9, 0, none⟩)) (G := fun v _ => v = .int .i64 (b : Int)) hp (free_of rfl) trivial (sq_out (s := 3) rfl rfl (fun _ _ => rfl)) (sqi 1) (fun ρ w hc h h' => ⟨.pointer (some ⟨b9, b * 2, none⟩), by simp [execOp, go_sem, h, h', TKB.out], rfl⟩)
          · exact q_loadSt (off := b * 2) (l := 2) (fs := arrF f2 0 201) (gs := [.n (f2 b)]) hp (free_of rfl) trivial (List.mem_iff_getElem?.2 ⟨0, rfl⟩) (.inl rfl) rfl row_api_Int (arr_sub f2 HKB.out) (sqi 2) (fun v w h => st_num h)
          · exact q_call2 (F := (Fq.test z (z - 1) si).P) (G := (Fq.num (f2 b)).P) hp (free_of rfl) trivial (enq_f_algorist_prime_test_passes) (sqi 0) (sqi 3) (fun v v' w h h' => (by rw [HF2.out] at h'; exact exTPasses h h' hn.out HZN.out HN2.out HSI.out HSB.out.1 HPS.out))
          · exact q_one (F := fun v _ => v = .bool false) hp (free_of rfl) trivial (sqi 4) (fun ρ w _ h => ⟨.bool true, by simp [execOp, go_sem, h], rfl⟩)
          intro L vs w15 nb hL hC hn E15
          have e1 : vs 1 = .int .i64 (b : Int) := hC 1 (by simp)
          have e2 : vs 2 = .pointer (some ⟨b9, b * 2, none⟩) := hC 2 (by simp)
          have e4 : vs 4 = .bool false := hC 4 (by simp)
          have e5 : vs 5 = .bool true := hC 5 (by simp)
          have E : Fr w [(b9, 402, Fq.st (arrF f2 0 201)), (b1, 5, Fq.test z (z - 1) si)] w15 := E15
          rw [lay_all hL]
          simp only [putAll, dstOf, List.length_cons, List.length_nil, Nat.zero_add, Nat.reduceAdd, List.getElem?_toArray, List.getElem?_cons_zero, List.getElem?_cons_succ, Option.bind_some, Act.put, List.setIfInBounds_toArray, List.set_cons_succ, List.set_cons_zero]
          rw [e1, e2, e4, e5]
          generalize vs 0 = u15_0
          generalize vs 3 = u15_3
          clear e1 e2 e4 e5 hC hn E15 hL vs L nb
          go_upto_region 10 with (fail)
          refine region_fr (C := [Fq.is (.int .i64 (b : Int)), Fq.is (.int .i64 (b : Int))]) (ks := [none, none]) (new := []) E rfl (by kernel_rfl) rfl rfl (fun hp => ⟨?_, ?_, trivial⟩) ?_
          · exact q_move hp (free_of rfl) trivial (sq_out (s := 4) rfl rfl (fun _ _ => rfl))
          · exact q_assign hp (free_of rfl) trivial (sqi 0)
          intro L vs w16 nb hL hC hn E16
          have e0 : vs 0 = .int .i64 (b : Int) := hC 0 (by simp)
          have e1 : vs 1 = .int .i64 (b : Int) := hC 1 (by simp)
          have E : Fr w [(b9, 402, Fq.st (arrF f2 0 201)), (b1, 5, Fq.test z (z - 1) si)] w16 := E16
          rw [lay_all hL]
          simp only [putAll, dstOf, List.length_cons, List.length_nil, Nat.zero_add, Nat.reduceAdd, List.getElem?_toArray, List.getElem?_cons_zero, List.getElem?_cons_succ, Option.bind_some, Act.put, List.setIfInBounds_toArray, List.set_cons_succ, List.set_cons_zero]
          rw [e0, e1]
          clear e0 e1 hC hn E16 hL vs L nb
          clear HPS HF2 HF3 HB HP HP2 HKB TKB HZN HN2 HSI HS HSD HSB HF HRR HM HN0
          clear hn Bx
          go_wp2
          refine bodyPost_ret (v := .int .i64 (b : Int)) ?_ rfl ⟨_, rfl, E.below, by rw [e8.out]⟩
          simp [results, Tryd.results39, go_sem]

end Go.Proofs.YtnhapjifddhdiaaDoor

namespace Go.Proofs.YtnhapjifddhdiaaDoor
open Go Go.RowKit

theorem enq_f_algorist_prime_test_witness (args : Array Value) (w : World) : (callFunc 39 args).run Tryd.prog w = .ok (.enter 39 args) w := enter_of Tryd.func39 (by kernel_rfl) rfl args w
theorem enq_f_algorist_algoristlaw04_number (args : Array Value) (w : World) : (callFunc 5 args).run Tryd.prog w = .ok (.enter 5 args) w := enter_of Tryd.func5 (by kernel_rfl) rfl args w
set_option maxRecDepth 100000 in
set_option maxHeartbeats 4000000 in
theorem exPWitL0 {w : World} {v : Value} {z : Int} {N R : Nat} {F : Nat → Bool} (h : Num w v z) (ha : ab z < pw 3) (ho : decide (0 < z ∧ z % 2 = 1) = true) (hzN : z = (N : Int)) (h3 : 18446744073709551616 ≤ N) (hf : ∀ b, F b = true ↔ StrongP N b) (hR : R = witF F 199 2) (hr0 :  R = 0) :
    Calls Tryd.prog 10 #[v] w fun e w' => ∃ v', e = .returned v' ∧ Below w.heap.size w w' ∧ v' = .tuple #[.int .i64 0, .int .i64 6] := by
  replace ha := hidd ha
  have HODD := hidd ho
  have HZN := hidd hzN
  have HN3 := hidd h3
  have HF := hidd hf
  have HR := hidd hR
  have HNO : Hid (N % 2 = 1) := by have h9 := of_decide_eq_true ho; show _ = _; omega
  have HN2 : Hid (2 < N) := by show 2 < N; omega
  have T2 : Hid (¬ cmpI z 9 ≤ 0) := by have := cmpIqgt.2 (show 9 < z by omega); show ¬ _; omega
  have T4 : Hid (¬ ((nbits z : Nat) : Int) ≤ 64) := by show ¬ _; have := bits_long hzN h3; omega
  obtain ⟨s, D, hsd, hD⟩ := odd_split (N - 1) (by omega)
  have HSD := hidd hsd
  have HD := hidd hD
  have HTF := hidd (test_facts ha.out hzN HN2.out HNO.out hsd hD)
  have HZ0 := hidd hr0
  clear ho hzN h3 hf hR hsd hD hr0
  obtain ⟨n0, ao0, k0, c0, rfl⟩ := h.parts
  obtain ⟨w1, b1, hw1, hb1, hs1, E⟩ := fr_start w (F := Fq.num z) (us := [.bool n0, .slice ao0 k0 c0]) 27 rfl (by simp) (tame_int _ _ _ _) h
  go_enter Tryd.func10, Tryd.ntmps10
  go_upto_region 1 with (fail)
  rw [← hw1]
  rw [← hb1]
  clear hw1 hb1 hs1
  have B2 : Hid (ab ((9)) < pw 3) := ab_lit (by decide)
  refine region_fr (C := [Fq.num z, Fq.is (.bool true), Fq.is (.bool false), Fq.is (.bool false), Fq.num z, Fq.num (9), Fq.is (.int .i64 (cmpI z (9))), Fq.is (.bool false), Fq.is (.bool false)]) (ks := [none]) (new := []) E rfl (by kernel_rfl) rfl rfl (fun hp => ⟨?_, ?_, ?_, ?_, ?_, ?_, ?_, ?_, ?_, trivial⟩) ?_
  · exact q_loadInt (off := 0) hp (free_of rfl) trivial (List.mem_iff_getElem?.2 ⟨0, rfl⟩) (.inl rfl) (Nat.le_of_ble_eq_true rfl) (sq_out (s := 1) rfl rfl (fun _ _ => rfl)) (fun us w hl h => ld_num hl h)
  · exact q_call1 (F := (Fq.num z).P) hp (free_of rfl) trivial (enq_f_algorist_prime_isOdd) (sqi 0) (fun v w h => exIsOdd h HODD.out)
  · exact q_one (F := fun v _ => v = .bool true) hp (free_of rfl) trivial (sqi 1) (fun ρ w _ h => ⟨.bool false, by simp [execOp, go_sem, h], rfl⟩)
  · exact q_move hp (free_of rfl) trivial (sqi 2)
  · exact q_loadInt (off := 0) hp (free_of rfl) (gq_some rfl rfl (by simp) rfl (fun v w h => h)) (List.mem_iff_getElem?.2 ⟨0, rfl⟩) (.inl rfl) (Nat.le_of_ble_eq_true rfl) (sq_out (s := 1) rfl rfl (fun _ _ => rfl)) (fun us w hl h => ld_num hl h)
  · exact q_call1 (F := (Fq.is (.int .i64 9)).P) hp (free_of rfl) (gq_some rfl rfl (by simp) rfl (fun v w h => h)) (enq_Of) (sq_const (fun _ => rfl)) (fun v w h => (by subst h; exact OfK w (9) (by omega) (by omega)))
  · exact q_call2 (F := (Fq.num z).P) (G := (Fq.num (9)).P) hp (free_of rfl) (gq_some rfl rfl (by simp) rfl (fun v w h => h)) (enq_Cmp) (sqi 4) (sqi 5) (fun v v' w h h' => exCmp h h')
  · exact q_one (F := fun v _ => v = .int .i64 (cmpI z (9))) hp (free_of rfl) (gq_some rfl rfl (by simp) rfl (fun v w h => h)) (sqi 6) (fun ρ w hc h => ⟨.bool false, by simp [execOp, go_sem, h, hc, T2.out], rfl⟩)
  · exact q_two (F := fun v _ => v = .bool false) (G := fun v _ => v = .bool false) hp (free_of rfl) trivial (sqi 3) (sqi 7) (fun ρ w hc h h' => ⟨_, by simp [execOp, go_sem, h, h'], rfl⟩)
  intro L vs w3 nb hL hC hn E3
  have e1 : vs 1 = .bool true := hC 1 (by simp)
  have e2 : vs 2 = .bool false := hC 2 (by simp)
  have e3 : vs 3 = .bool false := hC 3 (by simp)
  have e6 : vs 6 = .int .i64 (cmpI z (9)) := hC 6 (by simp)
  have e7 : vs 7 = .bool false := hC 7 (by simp)
  have e8 : vs 8 = .bool false := hC 8 (by simp)
  have E : Fr w [(b1, 2, Fq.num z)] w3 := E3
  rw [lay_all hL]
  simp only [putAll, dstOf, List.length_cons, List.length_nil, Nat.zero_add, Nat.reduceAdd, List.getElem?_toArray, List.getElem?_cons_zero, List.getElem?_cons_succ, Option.bind_some, Act.put, List.setIfInBounds_toArray, List.set_cons_succ, List.set_cons_zero]
  rw [e1, e2, e3, e6, e7, e8]
  generalize vs 0 = u3_0
  generalize vs 4 = u3_4
  generalize vs 5 = u3_5
  clear e1 e2 e3 e6 e7 e8 hC hn E3 hL vs L nb
  go_upto_region 3 with (fail)
  refine region_fr (C := [Fq.is (.int .i64 0)]) (ks := [none]) (new := []) E rfl (by kernel_rfl) rfl rfl (fun hp => ⟨?_, trivial⟩) ?_
  · exact q_assign hp (free_of rfl) trivial (sq_const (fun _ => rfl))
  intro L vs w4 nb hL hC hn E4
  have e0 : vs 0 = .int .i64 0 := hC 0 (by simp)
  have E : Fr w [(b1, 2, Fq.num z)] w4 := E4
  rw [lay_all hL]
  simp only [putAll, dstOf, List.length_cons, List.length_nil, Nat.zero_add, List.getElem?_toArray, List.getElem?_cons_zero, Option.bind_some, Act.put, List.setIfInBounds_toArray, List.set_cons_succ, List.set_cons_zero]
  rw [e0]
  clear e0 hC hn E4 hL vs L nb
  go_upto_region 4 with (fail)
  refine region_fr (C := [Fq.num z, Fq.is (.int .i64 ((nbits z : Nat) : Int)), Fq.is (.bool false)]) (ks := [none]) (new := []) E rfl (by kernel_rfl) rfl rfl (fun hp => ⟨?_, ?_, ?_, trivial⟩) ?_
  · exact q_loadInt (off := 0) hp (free_of rfl) trivial (List.mem_iff_getElem?.2 ⟨0, rfl⟩) (.inl rfl) (Nat.le_of_ble_eq_true rfl) (sq_out (s := 1) rfl rfl (fun _ _ => rfl)) (fun us w hl h => ld_num hl h)
  · exact q_call1 (F := (Fq.num z).P) hp (free_of rfl) trivial (enq_Bits) (sqi 0) (fun v w h => exBits h)
  · exact q_one (F := fun v _ => v = .int .i64 ((nbits z : Nat) : Int)) hp (free_of rfl) trivial (sqi 1) (fun ρ w hc h => ⟨.bool false, by simp [execOp, go_sem, h, hc, T4.out], rfl⟩)
  intro L vs w5 nb hL hC hn E5
  have e1 : vs 1 = .int .i64 ((nbits z : Nat) : Int) := hC 1 (by simp)
  have e2 : vs 2 = .bool false := hC 2 (by simp)
  have E : Fr w [(b1, 2, Fq.num z)] w5 := E5
  rw [lay_all hL]
  simp only [putAll, dstOf, List.length_cons, List.length_nil, Nat.zero_add, Nat.reduceAdd, List.getElem?_toArray, List.getElem?_cons_zero, List.getElem?_cons_succ, Option.bind_some, Act.put, List.setIfInBounds_toArray, List.set_cons_succ, List.set_cons_zero]
  rw [e1, e2]
  generalize vs 0 = u5_0
  clear e1 e2 hC hn E5 hL vs L nb
  go_upto_region 6 with (fail)
  refine region_fr (C := [Fq.num z, Fq.test z (z - 1) (s : Int), Fq.is (.int .i64 (R : Int)), Fq.is (.int .i64 (R : Int))]) (ks := [none]) (new := []) E rfl (by kernel_rfl) rfl rfl (fun hp => ⟨?_, ?_, ?_, ?_, trivial⟩) ?_
  · exact q_loadInt (off := 0) hp (free_of rfl) trivial (List.mem_iff_getElem?.2 ⟨0, rfl⟩) (.inl rfl) (Nat.le_of_ble_eq_true rfl) (sq_out (s := 1) rfl rfl (fun _ _ => rfl)) (fun us w hl h => ld_num hl h)
  · exact q_call1 (F := (Fq.num z).P) hp (free_of rfl) trivial (enq_f_algorist_prime_newTest) (sqi 0) (fun v w h => exNewTestK h ha.out HZN.out HN2.out HNO.out HSD.out HD.out)
  · exact q_call1 (F := (Fq.test z (z - 1) (s : Int)).P) hp (free_of rfl) trivial (enq_f_algorist_prime_test_witness) (sqi 1) (fun v w h => exTWitness h ha.out HZN.out HN2.out rfl HTF.out.2 ⟨HSD.out, HD.out⟩ ⟨HTF.out.1, by have := HN3.out; omega⟩ HF.out HR.out)
  · exact q_assign hp (free_of rfl) trivial (sqi 2)
  intro L vs w6 nb hL hC hn E6
  have e2 : vs 2 = .int .i64 (R : Int) := hC 2 (by simp)
  have e3 : vs 3 = .int .i64 (R : Int) := hC 3 (by simp)
  have E : Fr w [(b1, 2, Fq.num z)] w6 := E6
  rw [lay_all hL]
  simp only [putAll, dstOf, List.length_cons, List.length_nil, Nat.zero_add, Nat.reduceAdd, List.getElem?_toArray, List.getElem?_cons_zero, List.getElem?_cons_succ, Option.bind_some, Act.put, List.setIfInBounds_toArray, List.set_cons_succ, List.set_cons_zero]
  rw [e2, e3]
  generalize vs 0 = u6_0
  generalize vs 1 = u6_1
  clear e2 e3 hC hn E6 hL vs L nb
  clear T2 T4
  have e0 := HZ0.out
  subst e0
  have TZ : Hid ((0 : Nat) = 0) := rfl
  go_upto_region 7 with (fail)
  refine region_fr (C := [Fq.is (.int .i64 ((0 : Nat) : Int)), Fq.is (.bool true)]) (ks := [none]) (new := []) E rfl (by kernel_rfl) rfl rfl (fun hp => ⟨?_, ?_, trivial⟩) ?_
  · exact q_move hp (free_of rfl) trivial (sq_out (s := 4) rfl rfl (fun _ _ => rfl))
  · exact q_one (F := fun v _ => v = .int .i64 ((0 : Nat) : Int)) hp (free_of rfl) trivial (sqi 0) (fun ρ w hc h => ⟨.bool true, by simp [execOp, go_sem, h, hc], rfl⟩)
  intro L vs w7 nb hL hC hn E7
  have e0 : vs 0 = .int .i64 ((0 : Nat) : Int) := hC 0 (by simp)
  have e1 : vs 1 = .bool true := hC 1 (by simp)
  have E : Fr w [(b1, 2, Fq.num z)] w7 := E7
  rw [lay_all hL]
  simp only [putAll, dstOf, List.length_cons, List.length_nil, Nat.zero_add, Nat.reduceAdd, List.getElem?_toArray, List.getElem?_cons_zero, List.getElem?_cons_succ, Option.bind_some, Act.put, List.setIfInBounds_toArray, List.set_cons_succ, List.set_cons_zero]
  rw [e0, e1]
  clear e0 e1 hC hn E7 hL vs L nb
  go_upto_region 8 with (fail)
  refine region_fr (C := [Fq.is (.int .i64 0), Fq.is (.int .i64 6)]) (ks := [none]) (new := []) E rfl (by kernel_rfl) rfl rfl (fun hp => ⟨?_, ?_, trivial⟩) ?_
  · exact q_assign hp (free_of rfl) trivial (sq_const (fun _ => rfl))
  · exact q_assign hp (free_of rfl) trivial (sq_const (fun _ => rfl))
  intro L vs w8 nb hL hC hn E8
  have e0 : vs 0 = .int .i64 0 := hC 0 (by simp)
  have e1 : vs 1 = .int .i64 6 := hC 1 (by simp)
  have E : Fr w [(b1, 2, Fq.num z)] w8 := E8
  rw [lay_all hL]
  simp only [putAll, dstOf, List.length_cons, List.length_nil, Nat.zero_add, Nat.reduceAdd, List.getElem?_toArray, List.getElem?_cons_zero, List.getElem?_cons_succ, Option.bind_some, Act.put, List.setIfInBounds_toArray, List.set_cons_succ, List.set_cons_zero]
  rw [e0, e1]
  clear e0 e1 hC hn E8 hL vs L nb
  clear TZ HODD HZN HN3 HF HR HNO HN2 HSD HD HTF HZ0
  clear B2 ha
  go_wp2
  refine bodyPost_ret (v := .tuple #[.int .i64 0, .int .i64 6]) ?_ rfl ⟨_, rfl, E.below, rfl⟩
  simp [results, Tryd.results10, go_sem]

set_option maxRecDepth 100000 in
set_option maxHeartbeats 4000000 in
theorem exPWitL1 {w : World} {v : Value} {z : Int} {N R : Nat} {F : Nat → Bool} (h : Num w v z) (ha : ab z < pw 3) (ho : decide (0 < z ∧ z % 2 = 1) = true) (hzN : z = (N : Int)) (h3 : 18446744073709551616 ≤ N) (hf : ∀ b, F b = true ↔ StrongP N b) (hR : R = witF F 199 2) (hr0 : ¬ R = 0) :
    Calls Tryd.prog 10 #[v] w fun e w' => ∃ v', e = .returned v' ∧ Below w.heap.size w w' ∧ v' = .tuple #[.int .i64 (R : Int), .int .i64 0] := by
  replace ha := hidd ha
  have HODD := hidd ho
  have HZN := hidd hzN
  have HN3 := hidd h3
  have HF := hidd hf
  have HR := hidd hR
  have HNO : Hid (N % 2 = 1) := by have h9 := of_decide_eq_true ho; show _ = _; omega
  have HN2 : Hid (2 < N) := by show 2 < N; omega
  have T2 : Hid (¬ cmpI z 9 ≤ 0) := by have := cmpIqgt.2 (show 9 < z by omega); show ¬ _; omega
  have T4 : Hid (¬ ((nbits z : Nat) : Int) ≤ 64) := by show ¬ _; have := bits_long hzN h3; omega
  obtain ⟨s, D, hsd, hD⟩ := odd_split (N - 1) (by omega)
  have HSD := hidd hsd
  have HD := hidd hD
  have HTF := hidd (test_facts ha.out hzN HN2.out HNO.out hsd hD)
  have HZ0 := hidd hr0
  clear ho hzN h3 hf hR hsd hD hr0
  obtain ⟨n0, ao0, k0, c0, rfl⟩ := h.parts
  obtain ⟨w1, b1, hw1, hb1, hs1, E⟩ := fr_start w (F := Fq.num z) (us := [.bool n0, .slice ao0 k0 c0]) 27 rfl (by simp) (tame_int _ _ _ _) h
  go_enter Tryd.func10, Tryd.ntmps10
  go_upto_region 1 with (fail)
  rw [← hw1]
  rw [← hb1]
  clear hw1 hb1 hs1
  have B2 : Hid (ab ((9)) < pw 3) := ab_lit (by decide)
  refine region_fr (C := [Fq.num z, Fq.is (.bool true), Fq.is (.bool false), Fq.is (.bool false), Fq.num z, Fq.num (9), Fq.is (.int .i64 (cmpI z (9))), Fq.is (.bool false), Fq.is (.bool false)]) (ks := [none]) (new := []) E rfl (by kernel_rfl) rfl rfl (fun hp => ⟨?_, ?_, ?_, ?_, ?_, ?_, ?_, ?_, ?_, trivial⟩) ?_
  · exact q_loadInt (off := 0) hp (free_of rfl) trivial (List.mem_iff_getElem?.2 ⟨0, rfl⟩) (.inl rfl) (Nat.le_of_ble_eq_true rfl) (sq_out (s := 1) rfl rfl (fun _ _ => rfl)) (fun us w hl h => ld_num hl h)
  · exact q_call1 (F := (Fq.num z).P) hp (free_of rfl) trivial (enq_f_algorist_prime_isOdd) (sqi 0) (fun v w h => exIsOdd h HODD.out)
  · exact q_one (F := fun v _ => v = .bool true) hp (free_of rfl) trivial (sqi 1) (fun ρ w _ h => ⟨.bool false, by simp [execOp, go_sem, h], rfl⟩)
  · exact q_move hp (free_of rfl) trivial (sqi 2)
  · exact q_loadInt (off := 0) hp (free_of rfl) (gq_some rfl rfl (by simp) rfl (fun v w h => h)) (List.mem_iff_getElem?.2 ⟨0, rfl⟩) (.inl rfl) (Nat.le_of_ble_eq_true rfl) (sq_out (s := 1) rfl rfl (fun _ _ => rfl)) (fun us w hl h => ld_num hl h)
  · exact q_call1 (F := (Fq.is (.int .i64 9)).P) hp (free_of rfl) (gq_some rfl rfl (by simp) rfl (fun v w h => h)) (enq_Of) (sq_const (fun _ => rfl)) (fun v w h => (by subst h; exact OfK w (9) (by omega) (by omega)))
  · exact q_call2 (F := (Fq.num z).P) (G := (Fq.num (9)).P) hp (free_of rfl) (gq_some rfl rfl (by simp) rfl (fun v w h => h)) (enq_Cmp) (sqi 4) (sqi 5) (fun v v' w h h' => exCmp h h')
  · exact q_one (F := fun v _ => v = .int .i64 (cmpI z (9))) hp (free_of rfl) (gq_some rfl rfl (by simp) rfl (fun v w h => h)) (sqi 6) (fun ρ w hc h => ⟨.bool false, by simp [execOp, go_sem, h, hc, T2.out], rfl⟩)
  · exact q_two (F := fun v _ => v = .bool false) (G := fun v _ => v = .bool false) hp (free_of rfl) trivial (sqi 3) (sqi 7) (fun ρ w hc h h' => ⟨_, by simp [execOp, go_sem, h, h'], rfl⟩)
  intro L vs w3 nb hL hC hn E3
  have e1 : vs 1 = .bool true := hC 1 (by simp)
  have e2 : vs 2 = .bool false := hC 2 (by simp)
  have e3 : vs 3 = .bool false := hC 3 (by simp)
  have e6 : vs 6 = .int .i64 (cmpI z (9)) := hC 6 (by simp)
  have e7 : vs 7 = .bool false := hC 7 (by simp)
  have e8 : vs 8 = .bool false := hC 8 (by simp)
  have E : Fr w [(b1, 2, Fq.num z)] w3 := E3
  rw [lay_all hL]
  simp only [putAll, dstOf, List.length_cons, List.length_nil, Nat.zero_add, Nat.reduceAdd, List.getElem?_toArray, List.getElem?_cons_zero, List.getElem?_cons_succ, Option.bind_some, Act.put, List.setIfInBounds_toArray, List.set_cons_succ, List.set_cons_zero]
  rw [e1, e2, e3, e6, e7, e8]
  generalize vs 0 = u3_0
  generalize vs 4 = u3_4
  generalize vs 5 = u3_5
  clear e1 e2 e3 e6 e7 e8 hC hn E3 hL vs L nb
  go_upto_region 3 with (fail)
  refine region_fr (C := [Fq.is (.int .i64 0)]) (ks := [none]) (new := []) E rfl (by kernel_rfl) rfl rfl (fun hp => ⟨?_, trivial⟩) ?_
  · exact q_assign hp (free_of rfl) trivial (sq_const (fun _ => rfl))
  intro L vs w4 nb hL hC hn E4
  have e0 : vs 0 = .int .i64 0 := hC 0 (by simp)
  have E : Fr w [(b1, 2, Fq.num z)] w4 := E4
  rw [lay_all hL]
  simp only [putAll, dstOf, List.length_cons, List.length_nil, Nat.zero_add, List.getElem?_toArray, List.getElem?_cons_zero, Option.bind_some, Act.put, List.setIfInBounds_toArray, List.set_cons_succ, List.set_cons_zero]
  rw [e0]
  clear e0 hC hn E4 hL vs L nb
  go_upto_region 4 with (fail)
  refine region_fr (C := [Fq.num z, Fq.is (.int .i64 ((nbits z : Nat) : Int)), Fq.is (.bool false)]) (ks := [none]) (new := []) E rfl (by kernel_rfl) rfl rfl (fun hp => ⟨?_, ?_, ?_, trivial⟩) ?_
  · exact q_loadInt (off := 0) hp (free_of rfl) trivial (List.mem_iff_getElem?.2 ⟨0, rfl⟩) (.inl rfl) (Nat.le_of_ble_eq_true rfl) (sq_out (s := 1) rfl rfl (fun _ _ => rfl)) (fun us w hl h => ld_num hl h)
  · exact q_call1 (F := (Fq.num z).P) hp (free_of rfl) trivial (enq_Bits) (sqi 0) (fun v w h => exBits h)
  · exact q_one (F := fun v _ => v = .int .i64 ((nbits z : Nat) : Int)) hp (free_of rfl) trivial (sqi 1) (fun ρ w hc h => ⟨.bool false, by simp [execOp, go_sem, h, hc, T4.out], rfl⟩)
  intro L vs w5 nb hL hC hn E5
  have e1 : vs 1 = .int .i64 ((nbits z : Nat) : Int) := hC 1 (by simp)
  have e2 : vs 2 = .bool false := hC 2 (by simp)
  have E : Fr w [(b1, 2, Fq.num z)] w5 := E5
  rw [lay_all hL]
  simp only [putAll, dstOf, List.length_cons, List.length_nil, Nat.zero_add, Nat.reduceAdd, List.getElem?_toArray, List.getElem?_cons_zero, List.getElem?_cons_succ, Option.bind_some, Act.put, List.setIfInBounds_toArray, List.set_cons_succ, List.set_cons_zero]
  rw [e1, e2]
  generalize vs 0 = u5_0
  clear e1 e2 hC hn E5 hL vs L nb
  go_upto_region 6 with (fail)
  refine region_fr (C := [Fq.num z, Fq.test z (z - 1) (s : Int), Fq.is (.int .i64 (R : Int)), Fq.is (.int .i64 (R : Int))]) (ks := [none]) (new := []) E rfl (by kernel_rfl) rfl rfl (fun hp => ⟨?_, ?_, ?_, ?_, trivial⟩) ?_
  · exact q_loadInt (off := 0) hp (free_of rfl) trivial (List.mem_iff_getElem?.2 ⟨0, rfl⟩) (.inl rfl) (Nat.le_of_ble_eq_true rfl) (sq_out (s := 1) rfl rfl (fun _ _ => rfl)) (fun us w hl h => ld_num hl h)
  · exact q_call1 (F := (Fq.num z).P) hp (free_of rfl) trivial (enq_f_algorist_prime_newTest) (sqi 0) (fun v w h => exNewTestK h ha.out HZN.out HN2.out HNO.out HSD.out HD.out)
  · exact q_call1 (F := (Fq.test z (z - 1) (s : Int)).P) hp (free_of rfl) trivial (enq_f_algorist_prime_test_witness) (sqi 1) (fun v w h => exTWitness h ha.out HZN.out HN2.out rfl HTF.out.2 ⟨HSD.out, HD.out⟩ ⟨HTF.out.1, by have := HN3.out; omega⟩ HF.out HR.out)
  · exact q_assign hp (free_of rfl) trivial (sqi 2)
  intro L vs w6 nb hL hC hn E6
  have e2 : vs 2 = .int .i64 (R : Int) := hC 2 (by simp)
  have e3 : vs 3 = .int .i64 (R : Int) := hC 3 (by simp)
  have E : Fr w [(b1, 2, Fq.num z)] w6 := E6
  rw [lay_all hL]
  simp only [putAll, dstOf, List.length_cons, List.length_nil, Nat.zero_add, Nat.reduceAdd, List.getElem?_toArray, List.getElem?_cons_zero, List.getElem?_cons_succ, Option.bind_some, Act.put, List.setIfInBounds_toArray, List.set_cons_succ, List.set_cons_zero]
  rw [e2, e3]
  generalize vs 0 = u6_0
  generalize vs 1 = u6_1
  clear e2 e3 hC hn E6 hL vs L nb
  clear T2 T4
  have TZ : Hid (¬ R = 0) := HZ0.out
  go_upto_region 7 with (fail)
  refine region_fr (C := [Fq.is (.int .i64 (R : Int)), Fq.is (.bool false)]) (ks := [none]) (new := []) E rfl (by kernel_rfl) rfl rfl (fun hp => ⟨?_, ?_, trivial⟩) ?_
  · exact q_move hp (free_of rfl) trivial (sq_out (s := 4) rfl rfl (fun _ _ => rfl))
  · exact q_one (F := fun v _ => v = .int .i64 (R : Int)) hp (free_of rfl) trivial (sqi 0) (fun ρ w hc h => ⟨.bool false, by simp [execOp, go_sem, h, hc, TZ.out], rfl⟩)
  intro L vs w7 nb hL hC hn E7
  have e0 : vs 0 = .int .i64 (R : Int) := hC 0 (by simp)
  have e1 : vs 1 = .bool false := hC 1 (by simp)
  have E : Fr w [(b1, 2, Fq.num z)] w7 := E7
  rw [lay_all hL]
  simp only [putAll, dstOf, List.length_cons, List.length_nil, Nat.zero_add, Nat.reduceAdd, List.getElem?_toArray, List.getElem?_cons_zero, List.getElem?_cons_succ, Option.bind_some, Act.put, List.setIfInBounds_toArray, List.set_cons_succ, List.set_cons_zero]
  rw [e0, e1]
  clear e0 e1 hC hn E7 hL vs L nb
  go_upto_region 9 with (fail)
  refine region_fr (C := [Fq.is (.int .i64 (R : Int)), Fq.is (.int .i64 (R : Int)), Fq.is (.int .i64 0)]) (ks := [none]) (new := []) E rfl (by kernel_rfl) rfl rfl (fun hp => ⟨?_, ?_, ?_, trivial⟩) ?_
  · exact q_move hp (free_of rfl) trivial (sq_out (s := 4) rfl rfl (fun _ _ => rfl))
  · exact q_assign hp (free_of rfl) trivial (sqi 0)
  · exact q_assign hp (free_of rfl) trivial (sq_const (fun _ => rfl))
  intro L vs w8 nb hL hC hn E8
  have e0 : vs 0 = .int .i64 (R : Int) := hC 0 (by simp)
  have e1 : vs 1 = .int .i64 (R : Int) := hC 1 (by simp)
  have e2 : vs 2 = .int .i64 0 := hC 2 (by simp)
  have E : Fr w [(b1, 2, Fq.num z)] w8 := E8
  rw [lay_all hL]
  simp only [putAll, dstOf, List.length_cons, List.length_nil, Nat.zero_add, Nat.reduceAdd, List.getElem?_toArray, List.getElem?_cons_zero, List.getElem?_cons_succ, Option.bind_some, Act.put, List.setIfInBounds_toArray, List.set_cons_succ, List.set_cons_zero]
  rw [e0, e1, e2]
  clear e0 e1 e2 hC hn E8 hL vs L nb
  clear TZ HODD HZN HN3 HF HR HNO HN2 HSD HD HTF HZ0
  clear B2 ha
  go_wp2
  refine bodyPost_ret (v := .tuple #[.int .i64 (R : Int), .int .i64 0]) ?_ rfl ⟨_, rfl, E.below, rfl⟩
  simp [results, Tryd.results10, go_sem]

def HB (f : FuncId) (z : Int) (v2 : Value) : Prop := ∀ (w : World) (v : Value), TabsP w → Num w v z → Calls Tryd.prog f #[v] w fun e w' => ∃ v', e = .returned v' ∧ Below w.heap.size w w' ∧ v' = v2
def HB2 (f : FuncId) (z b : Int) (v2 : Value) : Prop := ∀ (w : World) (v : Value), TabsP w → Num w v z → Calls Tryd.prog f #[v, .int .i64 b] w fun e w' => ∃ v', e = .returned v' ∧ Below w.heap.size w w' ∧ v' = v2
theorem ret_eq {f : FuncId} {args : Array Value} {w : World} {v2 : Value} (h : Calls Tryd.prog f args w fun e w' => e = .returned v2 ∧ Below w.heap.size w w') : Calls Tryd.prog f args w fun e w' => ∃ v', e = .returned v' ∧ Below w.heap.size w w' ∧ v' = v2 := h.mono fun _ _ hh => ⟨_, hh.1, hh.2, rfl⟩
theorem ret_tup {f : FuncId} {args : Array Value} {w : World} {u1 u2 : Value} (h : Calls Tryd.prog f args w fun e w' => ∃ v', e = .returned v' ∧ Below w.heap.size w w' ∧ (Fq.tup2 (Fq.is u1) (Fq.is u2)).P v' w') : Calls Tryd.prog f args w fun e w' => ∃ v', e = .returned v' ∧ Below w.heap.size w w' ∧ v' = .tuple #[u1, u2] := h.mono fun _ _ hh => by
  obtain ⟨v', h1, h2, _, _, e, e1, e2⟩ := hh
  cases e1
  cases e2
  exact ⟨_, h1, h2, e⟩
theorem up9 {z : Int} (h : ab z < pw 3) : ab z < pw 900 := Int.lt_of_lt_of_le h (pw_le (by omega))
theorem bothIs (z : Int) (ha : ab z < pw 3) : ∃ S er, HB 6 z (.tuple #[.bool S, .int .i64 er]) ∧ HB 7 z (.tuple #[.bool S, .int .i64 er]) := by
  rcases Int.lt_trichotomy z 0 with h0 | h0 | h0
  · exact ⟨false, 0, fun w v _ h => exPIsZ h (up9 ha) (by omega), fun w v _ h => ret_eq (exRIsZ h h0)⟩
  · exact ⟨false, 0, fun w v _ h => exPIsZ h (up9 ha) (by omega), fun w v _ h => ret_eq (exRIsN (N := 0) (by rw [h0] at h; exact h) (by omega))⟩
  · obtain ⟨N, hN⟩ : ∃ N : Nat, z = (N : Int) := ⟨z.toNat, by omega⟩
    rcases Nat.lt_or_ge N 18446744073709551616 with h3 | h3
    · exact ⟨primeB N, 0, fun w v hT h => exPIsN h hT (up9 ha) h0 hN h3, fun w v _ h => ret_eq (exRIsN (by rw [hN] at h; exact h) h3)⟩
    · exact ⟨false, 2, fun w v _ h => exPIsB h (up9 ha) h0 (bits_long hN h3), fun w v _ h => ret_eq (exRIsB h (by omega))⟩
theorem bothStrong (z b : Int) (ha : ab z < pw 3) (hb : b ≤ 9223372036854775807) : ∃ S er, HB2 8 z b (.tuple #[.bool S, .int .i64 er]) ∧ HB2 9 z b (.tuple #[.bool S, .int .i64 er]) := by
  by_cases h2 : 2 < z
  · by_cases ho : z % 2 = 1
    · have hd : decide (0 < z ∧ z % 2 = 1) = true := decide_eq_true ⟨by omega, ho⟩
      by_cases h1 : b < 1
      · exact ⟨false, 1, fun w v _ h => exPStrongB h (up9 ha) hd h2 h1, fun w v _ h => exR4StrongB h ha h2 ho h1⟩
      · obtain ⟨N, hN⟩ : ∃ N : Nat, z = (N : Int) := ⟨z.toNat, by omega⟩
        obtain ⟨c, hc⟩ : ∃ c : Nat, b = (c : Int) := ⟨b.toNat, by omega⟩
        have hc2 : 1 ≤ c ∧ c ≤ 9223372036854775807 := by omega
        rcases Nat.lt_or_ge N 18446744073709551616 with h3 | h3
        · subst hc
          exact ⟨strongB N c, 0, fun w v hT h => exPStrongN h hT (up9 ha) hd h2 hc2 hN h3, fun w v _ h => exR4StrongN h ha h2 ho hN rfl hc2 h3 rfl⟩
        · obtain ⟨S, hS⟩ : ∃ S : Bool, S = true ↔ StrongP N c := by
            by_cases h : StrongP N c
            · exact ⟨true, by simp [h]⟩
            · exact ⟨false, by simp [h]⟩
          exact ⟨S, 0, fun w v _ h => exPStrongL h ha hd hN h3 hc hc2 hS, fun w v _ h => ret_tup (exR4StrongA h ha h2 ho hN hc hc2 hS)⟩
    · exact ⟨false, 1, fun w v _ h => exPStrongE h (up9 ha) (decide_eq_false fun e => ho e.2), fun w v _ h => exR4StrongV h ha h2 (by omega)⟩
  · by_cases ho : 0 < z ∧ z % 2 = 1
    · exact ⟨false, 1, fun w v _ h => exPStrongT h (up9 ha) (decide_eq_true ho) (by omega), fun w v _ h => exR4StrongE h ha h2⟩
    · exact ⟨false, 1, fun w v _ h => exPStrongE h (up9 ha) (decide_eq_false ho), fun w v _ h => exR4StrongE h ha h2⟩
theorem bothWit (z : Int) (ha : ab z < pw 3) : ∃ S er, HB 10 z (.tuple #[.int .i64 S, .int .i64 er]) ∧ HB 11 z (.tuple #[.int .i64 S, .int .i64 er]) := by
  by_cases h2 : 9 < z
  · by_cases ho : z % 2 = 1
    · have hd : decide (0 < z ∧ z % 2 = 1) = true := decide_eq_true ⟨by omega, ho⟩
      obtain ⟨N, hN⟩ : ∃ N : Nat, z = (N : Int) := ⟨z.toNat, by omega⟩
      rcases Nat.lt_or_ge N 18446744073709551616 with h3 | h3
      · have hf : ∀ b, strongB N b = true ↔ StrongP N b := fun b => strongB_iff b (by omega) (by have h64 : (2 : Nat) ^ 64 = 18446744073709551616 := (by decide); omega)
        by_cases hw : witB N 199 2 = 0
        · exact ⟨0, 6, fun w v hT h => exPWit0 h hT (up9 ha) hd h2 hN h3 hw, fun w v _ h => exR4Witness (R := 0) h ha h2 ho hN hf (by rw [witF_strong]; exact hw.symm) rfl⟩
        · exact ⟨_, 0, fun w v hT h => exPWitN h hT (up9 ha) hd h2 hN h3 hw, fun w v _ h => exR4Witness h ha h2 ho hN hf (witF_strong N 199 2).symm (by rw [if_neg hw])⟩
      · obtain ⟨F, hF⟩ : ∃ F : Nat → Bool, ∀ b, F b = true ↔ StrongP N b := by
          have h : ∀ b, ∃ S : Bool, S = true ↔ StrongP N b := fun b => by
            by_cases h : StrongP N b
            · exact ⟨true, by simp [h]⟩
            · exact ⟨false, by simp [h]⟩
          exact ⟨fun b => (h b).choose, fun b => (h b).choose_spec⟩
        by_cases hw : witF F 199 2 = 0
        · exact ⟨0, 6, fun w v _ h => exPWitL0 h ha hd hN h3 hF hw.symm rfl, fun w v _ h => exR4Witness (R := 0) h ha h2 ho hN hF hw.symm rfl⟩
        · exact ⟨_, 0, fun w v _ h => exPWitL1 h ha hd hN h3 hF rfl hw, fun w v _ h => exR4Witness h ha h2 ho hN hF rfl (by rw [if_neg hw])⟩
    · exact ⟨0, 1, fun w v _ h => exPWitE h (up9 ha) (decide_eq_false fun e => ho e.2), fun w v _ h => exR4WitV h ha h2 (by omega)⟩
  · by_cases ho : 0 < z ∧ z % 2 = 1
    · exact ⟨0, 1, fun w v _ h => exPWitT h (up9 ha) (decide_eq_true ho) (by omega), fun w v _ h => exR4WitE h ha h2⟩
    · exact ⟨0, 1, fun w v _ h => exPWitE h (up9 ha) (decide_eq_false ho), fun w v _ h => exR4WitE h ha h2⟩

set_option maxRecDepth 100000 in
set_option maxHeartbeats 4000000 in
theorem exNumber4 {w : World} {n : Bool} {a : Option Addr} {k c : Nat} {xs : List Int} (h : Sl w a k c xs) (hk : k ≤ 9223372036854775807) :
    Calls Tryd.prog 5 #[.agg #[.bool n, .slice a k c]] w fun e w' => ∃ v', e = .returned v' ∧ Below w.heap.size w w' ∧ Num w' v' (sgn n (val (xs.take 3))) := by
  obtain ⟨w1, b1, hw1, hb1, hs1, E⟩ := fr_start w (F := Fq.raw n a k c xs) (us := [.bool n, .slice a k c]) 24 rfl (by simp) (tame_int _ _ _ _) (show (Fq.raw n a k c xs).P _ w from ⟨rfl, h⟩)
  obtain ⟨w2, b2, hw2, hb2, hs2, E⟩ := fr_more E hs1 (F := Fq.num 0) (us := [.bool false, .slice none 0 0]) 27 rfl (by simp) (tame_int _ _ _ _) (Num.zero _)
  go_enter Tryd.func5, Tryd.ntmps5
  go_upto_region 1 with (fail)
  rw [← hw1]
  rw [← hw2]
  rw [← hb2]
  rw [← hb1]
  clear hw1 hw2 hb1 hb2 hs2 hs1
  replace hk := hidd hk
  refine region_fr (C := [Fq.raw n a k c xs, Fq.num (sgn n (val (xs.take 3))), Fq.any]) (ks := [some (2, Fq.num (sgn n (val (xs.take 3)))), none]) (new := []) E rfl (by kernel_rfl) rfl rfl (fun hp => ⟨?_, ?_, ?_, trivial⟩) ?_
  · exact q_loadRaw (off := 0) hp (free_of rfl) trivial (List.mem_iff_getElem?.2 ⟨1, rfl⟩) (.inl rfl) (Nat.le_of_ble_eq_true rfl) (sq_out (s := 1) rfl rfl (fun _ _ => rfl)) (fun us w hl h => ld_raw hl h)
  · exact q_call2 (F := (Fq.raw n a k c xs).P) (G := (Fq.is (.int .i64 3)).P) hp (free_of rfl) trivial (enq_R_Made) (sqi 0) (sq_const (fun _ => rfl)) (fun v v' w h h' => exRMade (j := 3) h h' hk.out (by omega))
  · exact q_storeOldInt hp (List.mem_iff_getElem?.2 ⟨0, rfl⟩) rfl rfl (sq_out (s := 2) rfl rfl (fun _ _ => rfl)) (sq_in 1 rfl rfl (by simp) rfl (fun v w h => intV_num h)) (fun _ _ => trivial) (newik_ne rfl)
  intro L vs w3 nb hL hC hn E3
  have E : Fr w [(b2, 2, Fq.num (sgn n (val (xs.take 3)))), (b1, 2, Fq.raw n a k c xs)] w3 := E3
  rw [lay_all hL]
  simp only [putAll, dstOf, List.length_cons, List.length_nil, Nat.zero_add, Nat.reduceAdd, List.getElem?_toArray, List.getElem?_cons_zero, List.getElem?_cons_succ, Option.bind_some, Act.put, List.setIfInBounds_toArray, List.set_cons_succ, List.set_cons_zero]
  generalize vs 0 = u3_0
  generalize vs 1 = u3_1
  clear  hC hn E3 hL vs L nb
  obtain ⟨p0, p1, c0, c1, hP⟩ := box_num (E.box 0 rfl)
  clear hk
  go_wp2
  refine bodyPost_ret (v := .agg #[p0, p1]) ?_ rfl ⟨_, rfl, E.below, hP⟩
  simp [results, Tryd.results5, go_sem, c0, c1]

set_option maxRecDepth 100000 in
set_option maxHeartbeats 4000000 in
theorem PrimeMatchesReference_any (w : World) (hT : TabsP w) (n1 : Bool) (a1 : Option Addr) (k1 c1 : Nat) (xs1 : List Int) (h1 : Sl w a1 k1 c1 xs1) (hk1 : k1 ≤ 9223372036854775807) (b : Int) (hlb : -9223372036854775808 ≤ b) (hhb : b ≤ 9223372036854775807) :
    Calls Tryd.prog 3 #[.agg #[.bool n1, .slice a1 k1 c1], .int .i64 b] w fun e w' => e = .returned (.bool true) ∧ Below w.heap.size w w' := by
  replace hT := hidd hT
  obtain ⟨z, hz⟩ : ∃ z, z = sgn n1 (val (xs1.take 3)) := ⟨_, rfl⟩
  have Bz : Hid (ab z < pw 3) := by rw [hz]; exact Num.ofMade h1.digs
  have Hz := hidd hz
  have K1 := hidd hk1
  obtain ⟨S1, r1, ha1, hb1⟩ := bothIs z Bz.out
  obtain ⟨S2, r2, ha2, hb2⟩ := bothStrong z b Bz.out hhb
  obtain ⟨S3, r3, ha3, hb3⟩ := bothWit z Bz.out
  have H1 := hidd (And.intro ha1 hb1)
  have H2 := hidd (And.intro ha2 hb2)
  have H3 := hidd (And.intro ha3 hb3)
  clear hz hk1 hlb hhb ha1 hb1 ha2 hb2 ha3 hb3
  obtain ⟨w1, b1, hw1, hb1, hs1, E⟩ := fr_start w (F := Fq.raw n1 a1 k1 c1 xs1) (us := [.bool n1, .slice a1 k1 c1]) 24 rfl (by simp) (tame_int _ _ _ _) (show (Fq.raw n1 a1 k1 c1 xs1).P _ w from ⟨rfl, h1⟩)
  go_enter Tryd.func3, Tryd.ntmps3
  go_upto_region 1 with (fail)
  rw [← hw1]
  rw [← hb1]
  clear hw1 hb1 hs1
  refine region_fr (C := [Fq.is (.bool true), Fq.is (.bool true)]) (ks := [none]) (new := []) E rfl (by kernel_rfl) rfl rfl (fun hp => ⟨?_, ?_, trivial⟩) ?_
  · exact q_call0W hp (free_of rfl) trivial (enq_f_algorist_algoristlaw04_examples) rfl (fun w hbw => exPExamples (hT.out.mono hbw))
  · exact q_assign hp (free_of rfl) trivial (sqi 0)
  intro L vs w2 nb hL hC hn E2
  have e0 : vs 0 = .bool true := hC 0 (by simp)
  have e1 : vs 1 = .bool true := hC 1 (by simp)
  have E : Fr w [(b1, 2, Fq.raw n1 a1 k1 c1 xs1)] w2 := E2
  rw [lay_all hL]
  simp only [putAll, dstOf, List.length_cons, List.length_nil, Nat.zero_add, Nat.reduceAdd, List.getElem?_toArray, List.getElem?_cons_zero, List.getElem?_cons_succ, Option.bind_some, Act.put, List.setIfInBounds_toArray, List.set_cons_succ, List.set_cons_zero]
  rw [e0, e1]
  clear e0 e1 hC hn E2 hL vs L nb
  go_upto_region 2 with (fail)
  refine region_fr (C := [Fq.is (.bool true), Fq.is (.bool false)]) (ks := [none]) (new := []) E rfl (by kernel_rfl) rfl rfl (fun hp => ⟨?_, ?_, trivial⟩) ?_
  · exact q_move hp (free_of rfl) trivial (sq_out (s := 5) rfl rfl (fun _ _ => rfl))
  · exact q_one (F := fun v _ => v = .bool true) hp (free_of rfl) trivial (sqi 0) (fun ρ w _ h => ⟨.bool false, by simp [execOp, go_sem, h], rfl⟩)
  intro L vs w3 nb hL hC hn E3
  have e0 : vs 0 = .bool true := hC 0 (by simp)
  have e1 : vs 1 = .bool false := hC 1 (by simp)
  have E : Fr w [(b1, 2, Fq.raw n1 a1 k1 c1 xs1)] w3 := E3
  rw [lay_all hL]
  simp only [putAll, dstOf, List.length_cons, List.length_nil, Nat.zero_add, Nat.reduceAdd, List.getElem?_toArray, List.getElem?_cons_zero, List.getElem?_cons_succ, Option.bind_some, Act.put, List.setIfInBounds_toArray, List.set_cons_succ, List.set_cons_zero]
  rw [e0, e1]
  clear e0 e1 hC hn E3 hL vs L nb
  go_upto_region 4 with (fail)
  refine region_fr (C := [Fq.raw n1 a1 k1 c1 xs1, Fq.num z, Fq.any, Fq.any]) (ks := [none]) (new := [⟨2, 3, 2, Fq.num 0, Fq.num z, none⟩]) E rfl (by kernel_rfl) rfl rfl (fun hp => ⟨?_, ?_, ?_, ?_, trivial⟩) ?_
  · exact q_loadRaw (off := 0) hp (free_of rfl) trivial (List.mem_iff_getElem?.2 ⟨0, rfl⟩) (.inl rfl) (Nat.le_of_ble_eq_true rfl) (sq_out (s := 2) rfl rfl (fun _ _ => rfl)) (fun us w hl h => ld_raw hl h)
  · exact q_call1 (F := (Fq.raw n1 a1 k1 c1 xs1).P) hp (free_of rfl) trivial (enq_f_algorist_algoristlaw04_number) (sqi 0) (fun v w h => (by obtain ⟨rfl, h9⟩ := h; rw [Hz.out]; exact exNumber4 h9 K1.out))
  · exact q_allocInt hp (List.mem_iff_getElem?.2 ⟨0, rfl⟩) rfl rfl rfl rfl (Nat.ne_of_beq_eq_false rfl) (fun _ _ => trivial) (old_ne rfl) (newk_ne rfl) (fun w => Num.zero w)
  · exact q_storeNewInt hp (List.mem_iff_getElem?.2 ⟨0, rfl⟩) rfl rfl rfl (own_ptr rfl rfl (by simp) rfl) (sq_in 1 rfl rfl (by simp) rfl (fun v w h => intV_num h)) (fun _ _ => trivial) (old_ne rfl) (newi_ne rfl)
  intro L vs w4 nb hL hC hn E4
  have e2 : vs 2 = .pointer (some ⟨nb 2, 0, none⟩) := hn _ (List.mem_iff_getElem?.2 ⟨0, rfl⟩)
  have E : Fr w [(nb 2, 2, Fq.num z), (b1, 2, Fq.raw n1 a1 k1 c1 xs1)] w4 := E4
  rw [lay_all hL]
  simp only [putAll, dstOf, List.length_cons, List.length_nil, Nat.zero_add, Nat.reduceAdd, List.getElem?_toArray, List.getElem?_cons_zero, List.getElem?_cons_succ, Option.bind_some, Act.put, List.setIfInBounds_toArray, List.set_cons_succ, List.set_cons_zero]
  rw [e2]
  generalize nb 2 = b4_2 at E ⊢
  generalize vs 0 = u4_0
  generalize vs 1 = u4_1
  clear e2 hC hn E4 hL vs L nb
  go_upto_region 5 with (fail)
  refine region_fr (C := [Fq.num z, Fq.tup2 (Fq.is (.bool S1)) (Fq.is (.int .i64 r1)), Fq.tup2 (Fq.is (.bool S1)) (Fq.is (.int .i64 r1)), Fq.is (.bool S1), Fq.is (.int .i64 r1), Fq.is (.bool S1), Fq.is (.int .i64 r1)]) (ks := [none, none]) (new := []) E rfl (by kernel_rfl) rfl rfl (fun hp => ⟨?_, ?_, ?_, ?_, ?_, ?_, ?_, trivial⟩) ?_
  · exact q_loadInt (off := 0) hp (free_of rfl) trivial (List.mem_iff_getElem?.2 ⟨0, rfl⟩) (.inl rfl) (Nat.le_of_ble_eq_true rfl) (sq_out (s := 6) rfl rfl (fun _ _ => rfl)) (fun us w hl h => ld_num hl h)
  · exact q_call1W (F := (Fq.num z).P) hp (free_of rfl) trivial (enq_f_algorist_prime_Is) rfl (sqi 0) (fun v w hbw h => (H1.out.1 _ _ (hT.out.mono hbw) h).mono fun e w' hh => by obtain ⟨v2, h1, h2, rfl⟩ := hh; exact ⟨_, h1, h2, _, _, rfl, rfl, rfl⟩)
  · exact q_move hp (free_of rfl) trivial (sqi 1)
  · exact q_extract2 hp (free_of rfl) trivial (sqi 2) (fun v1 v2 w h1 h2 => ⟨_, rfl, h1⟩)
  · exact q_extract2 hp (free_of rfl) trivial (sqi 2) (fun v1 v2 w h1 h2 => ⟨_, rfl, h2⟩)
  · exact q_assign hp (free_of rfl) trivial (sqi 3)
  · exact q_assign hp (free_of rfl) trivial (sqi 4)
  intro L vs w5 nb hL hC hn E5
  have e3 : vs 3 = .bool S1 := hC 3 (by simp)
  have e4 : vs 4 = .int .i64 r1 := hC 4 (by simp)
  have e5 : vs 5 = .bool S1 := hC 5 (by simp)
  have e6 : vs 6 = .int .i64 r1 := hC 6 (by simp)
  have E : Fr w [(b4_2, 2, Fq.num z), (b1, 2, Fq.raw n1 a1 k1 c1 xs1)] w5 := E5
  rw [lay_all hL]
  simp only [putAll, dstOf, List.length_cons, List.length_nil, Nat.zero_add, Nat.reduceAdd, List.getElem?_toArray, List.getElem?_cons_zero, List.getElem?_cons_succ, Option.bind_some, Act.put, List.setIfInBounds_toArray, List.set_cons_succ, List.set_cons_zero]
  rw [e3, e4, e5, e6]
  generalize vs 0 = u5_0
  generalize vs 1 = u5_1
  generalize vs 2 = u5_2
  clear e3 e4 e5 e6 hC hn E5 hL vs L nb
  go_upto_region 6 with (fail)
  refine region_fr (C := [Fq.num z, Fq.tup2 (Fq.is (.bool S1)) (Fq.is (.int .i64 r1)), Fq.tup2 (Fq.is (.bool S1)) (Fq.is (.int .i64 r1)), Fq.is (.bool S1), Fq.is (.int .i64 r1), Fq.is (.bool S1), Fq.is (.int .i64 r1)]) (ks := [none, none]) (new := []) E rfl (by kernel_rfl) rfl rfl (fun hp => ⟨?_, ?_, ?_, ?_, ?_, ?_, ?_, trivial⟩) ?_
  · exact q_loadInt (off := 0) hp (free_of rfl) trivial (List.mem_iff_getElem?.2 ⟨0, rfl⟩) (.inl rfl) (Nat.le_of_ble_eq_true rfl) (sq_out (s := 6) rfl rfl (fun _ _ => rfl)) (fun us w hl h => ld_num hl h)
  · exact q_call1W (F := (Fq.num z).P) hp (free_of rfl) trivial (enq_f_algorist_algoristref04_Is) rfl (sqi 0) (fun v w hbw h => (H1.out.2 _ _ (hT.out.mono hbw) h).mono fun e w' hh => by obtain ⟨v2, h1, h2, rfl⟩ := hh; exact ⟨_, h1, h2, _, _, rfl, rfl, rfl⟩)
  · exact q_move hp (free_of rfl) trivial (sqi 1)
  · exact q_extract2 hp (free_of rfl) trivial (sqi 2) (fun v1 v2 w h1 h2 => ⟨_, rfl, h1⟩)
  · exact q_extract2 hp (free_of rfl) trivial (sqi 2) (fun v1 v2 w h1 h2 => ⟨_, rfl, h2⟩)
  · exact q_assign hp (free_of rfl) trivial (sqi 3)
  · exact q_assign hp (free_of rfl) trivial (sqi 4)
  intro L vs w6 nb hL hC hn E6
  have e3 : vs 3 = .bool S1 := hC 3 (by simp)
  have e4 : vs 4 = .int .i64 r1 := hC 4 (by simp)
  have e5 : vs 5 = .bool S1 := hC 5 (by simp)
  have e6 : vs 6 = .int .i64 r1 := hC 6 (by simp)
  have E : Fr w [(b4_2, 2, Fq.num z), (b1, 2, Fq.raw n1 a1 k1 c1 xs1)] w6 := E6
  rw [lay_all hL]
  simp only [putAll, dstOf, List.length_cons, List.length_nil, Nat.zero_add, Nat.reduceAdd, List.getElem?_toArray, List.getElem?_cons_zero, List.getElem?_cons_succ, Option.bind_some, Act.put, List.setIfInBounds_toArray, List.set_cons_succ, List.set_cons_zero]
  rw [e3, e4, e5, e6]
  generalize vs 0 = u6_0
  generalize vs 1 = u6_1
  generalize vs 2 = u6_2
  clear e3 e4 e5 e6 hC hn E6 hL vs L nb
  go_upto_region 7 with (fail)
  refine region_fr (C := [Fq.num z, Fq.is (.int .i64 b), Fq.tup2 (Fq.is (.bool S2)) (Fq.is (.int .i64 r2)), Fq.tup2 (Fq.is (.bool S2)) (Fq.is (.int .i64 r2)), Fq.is (.bool S2), Fq.is (.int .i64 r2), Fq.is (.bool S2), Fq.is (.int .i64 r2)]) (ks := [none, none]) (new := []) E rfl (by kernel_rfl) rfl rfl (fun hp => ⟨?_, ?_, ?_, ?_, ?_, ?_, ?_, ?_, trivial⟩) ?_
  · exact q_loadInt (off := 0) hp (free_of rfl) trivial (List.mem_iff_getElem?.2 ⟨0, rfl⟩) (.inl rfl) (Nat.le_of_ble_eq_true rfl) (sq_out (s := 6) rfl rfl (fun _ _ => rfl)) (fun us w hl h => ld_num hl h)
  · exact q_move hp (free_of rfl) trivial (sq_out (s := 1) rfl rfl (fun _ _ => rfl))
  · exact q_call2W (F := (Fq.num z).P) (G := (Fq.is (.int .i64 b)).P) hp (free_of rfl) trivial (enq_f_algorist_prime_Strong) rfl (sqi 0) (sqi 1) (fun v v' w hbw h h' => (by subst h'; exact ((H2.out.1 _ _ (hT.out.mono hbw) h)).mono fun e w' hh => by obtain ⟨v2, h1, h2, rfl⟩ := hh; exact ⟨_, h1, h2, _, _, rfl, rfl, rfl⟩))
  · exact q_move hp (free_of rfl) trivial (sqi 2)
  · exact q_extract2 hp (free_of rfl) trivial (sqi 3) (fun v1 v2 w h1 h2 => ⟨_, rfl, h1⟩)
  · exact q_extract2 hp (free_of rfl) trivial (sqi 3) (fun v1 v2 w h1 h2 => ⟨_, rfl, h2⟩)
  · exact q_assign hp (free_of rfl) trivial (sqi 4)
  · exact q_assign hp (free_of rfl) trivial (sqi 5)
  intro L vs w7 nb hL hC hn E7
  have e1 : vs 1 = .int .i64 b := hC 1 (by simp)
  have e4 : vs 4 = .bool S2 := hC 4 (by simp)
  have e5 : vs 5 = .int .i64 r2 := hC 5 (by simp)
  have e6 : vs 6 = .bool S2 := hC 6 (by simp)
  have e7 : vs 7 = .int .i64 r2 := hC 7 (by simp)
  have E : Fr w [(b4_2, 2, Fq.num z), (b1, 2, Fq.raw n1 a1 k1 c1 xs1)] w7 := E7
  rw [lay_all hL]
  simp only [putAll, dstOf, List.length_cons, List.length_nil, Nat.zero_add, Nat.reduceAdd, List.getElem?_toArray, List.getElem?_cons_zero, List.getElem?_cons_succ, Option.bind_some, Act.put, List.setIfInBounds_toArray, List.set_cons_succ, List.set_cons_zero]
  rw [e1, e4, e5, e6, e7]
  generalize vs 0 = u7_0
  generalize vs 2 = u7_2
  generalize vs 3 = u7_3
  clear e1 e4 e5 e6 e7 hC hn E7 hL vs L nb
  go_upto_region 8 with (fail)
  refine region_fr (C := [Fq.num z, Fq.is (.int .i64 b), Fq.tup2 (Fq.is (.bool S2)) (Fq.is (.int .i64 r2)), Fq.tup2 (Fq.is (.bool S2)) (Fq.is (.int .i64 r2)), Fq.is (.bool S2), Fq.is (.int .i64 r2), Fq.is (.bool S2), Fq.is (.int .i64 r2)]) (ks := [none, none]) (new := []) E rfl (by kernel_rfl) rfl rfl (fun hp => ⟨?_, ?_, ?_, ?_, ?_, ?_, ?_, ?_, trivial⟩) ?_
  · exact q_loadInt (off := 0) hp (free_of rfl) trivial (List.mem_iff_getElem?.2 ⟨0, rfl⟩) (.inl rfl) (Nat.le_of_ble_eq_true rfl) (sq_out (s := 6) rfl rfl (fun _ _ => rfl)) (fun us w hl h => ld_num hl h)
  · exact q_move hp (free_of rfl) trivial (sq_out (s := 1) rfl rfl (fun _ _ => rfl))
  · exact q_call2W (F := (Fq.num z).P) (G := (Fq.is (.int .i64 b)).P) hp (free_of rfl) trivial (enq_f_algorist_algoristref04_Strong) rfl (sqi 0) (sqi 1) (fun v v' w hbw h h' => (by subst h'; exact ((H2.out.2 _ _ (hT.out.mono hbw) h)).mono fun e w' hh => by obtain ⟨v2, h1, h2, rfl⟩ := hh; exact ⟨_, h1, h2, _, _, rfl, rfl, rfl⟩))
  · exact q_move hp (free_of rfl) trivial (sqi 2)
  · exact q_extract2 hp (free_of rfl) trivial (sqi 3) (fun v1 v2 w h1 h2 => ⟨_, rfl, h1⟩)
  · exact q_extract2 hp (free_of rfl) trivial (sqi 3) (fun v1 v2 w h1 h2 => ⟨_, rfl, h2⟩)
  · exact q_assign hp (free_of rfl) trivial (sqi 4)
  · exact q_assign hp (free_of rfl) trivial (sqi 5)
  intro L vs w8 nb hL hC hn E8
  have e1 : vs 1 = .int .i64 b := hC 1 (by simp)
  have e4 : vs 4 = .bool S2 := hC 4 (by simp)
  have e5 : vs 5 = .int .i64 r2 := hC 5 (by simp)
  have e6 : vs 6 = .bool S2 := hC 6 (by simp)
  have e7 : vs 7 = .int .i64 r2 := hC 7 (by simp)
  have E : Fr w [(b4_2, 2, Fq.num z), (b1, 2, Fq.raw n1 a1 k1 c1 xs1)] w8 := E8
  rw [lay_all hL]
  simp only [putAll, dstOf, List.length_cons, List.length_nil, Nat.zero_add, Nat.reduceAdd, List.getElem?_toArray, List.getElem?_cons_zero, List.getElem?_cons_succ, Option.bind_some, Act.put, List.setIfInBounds_toArray, List.set_cons_succ, List.set_cons_zero]
  rw [e1, e4, e5, e6, e7]
  generalize vs 0 = u8_0
  generalize vs 2 = u8_2
  generalize vs 3 = u8_3
  clear e1 e4 e5 e6 e7 hC hn E8 hL vs L nb
  go_upto_region 9 with (fail)
  refine region_fr (C := [Fq.num z, Fq.tup2 (Fq.is (.int .i64 S3)) (Fq.is (.int .i64 r3)), Fq.tup2 (Fq.is (.int .i64 S3)) (Fq.is (.int .i64 r3)), Fq.is (.int .i64 S3), Fq.is (.int .i64 r3), Fq.is (.int .i64 S3), Fq.is (.int .i64 r3)]) (ks := [none, none]) (new := []) E rfl (by kernel_rfl) rfl rfl (fun hp => ⟨?_, ?_, ?_, ?_, ?_, ?_, ?_, trivial⟩) ?_
  · exact q_loadInt (off := 0) hp (free_of rfl) trivial (List.mem_iff_getElem?.2 ⟨0, rfl⟩) (.inl rfl) (Nat.le_of_ble_eq_true rfl) (sq_out (s := 6) rfl rfl (fun _ _ => rfl)) (fun us w hl h => ld_num hl h)
  · exact q_call1W (F := (Fq.num z).P) hp (free_of rfl) trivial (enq_f_algorist_prime_Witness) rfl (sqi 0) (fun v w hbw h => (H3.out.1 _ _ (hT.out.mono hbw) h).mono fun e w' hh => by obtain ⟨v2, h1, h2, rfl⟩ := hh; exact ⟨_, h1, h2, _, _, rfl, rfl, rfl⟩)
  · exact q_move hp (free_of rfl) trivial (sqi 1)
  · exact q_extract2 hp (free_of rfl) trivial (sqi 2) (fun v1 v2 w h1 h2 => ⟨_, rfl, h1⟩)
  · exact q_extract2 hp (free_of rfl) trivial (sqi 2) (fun v1 v2 w h1 h2 => ⟨_, rfl, h2⟩)
  · exact q_assign hp (free_of rfl) trivial (sqi 3)
  · exact q_assign hp (free_of rfl) trivial (sqi 4)
  intro L vs w9 nb hL hC hn E9
  have e3 : vs 3 = .int .i64 S3 := hC 3 (by simp)
  have e4 : vs 4 = .int .i64 r3 := hC 4 (by simp)
  have e5 : vs 5 = .int .i64 S3 := hC 5 (by simp)
  have e6 : vs 6 = .int .i64 r3 := hC 6 (by simp)
  have E : Fr w [(b4_2, 2, Fq.num z), (b1, 2, Fq.raw n1 a1 k1 c1 xs1)] w9 := E9
  rw [lay_all hL]
  simp only [putAll, dstOf, List.length_cons, List.length_nil, Nat.zero_add, Nat.reduceAdd, List.getElem?_toArray, List.getElem?_cons_zero, List.getElem?_cons_succ, Option.bind_some, Act.put, List.setIfInBounds_toArray, List.set_cons_succ, List.set_cons_zero]
  rw [e3, e4, e5, e6]
  generalize vs 0 = u9_0
  generalize vs 1 = u9_1
  generalize vs 2 = u9_2
  clear e3 e4 e5 e6 hC hn E9 hL vs L nb
  go_upto_region 10 with (fail)
  refine region_fr (C := [Fq.num z, Fq.tup2 (Fq.is (.int .i64 S3)) (Fq.is (.int .i64 r3)), Fq.tup2 (Fq.is (.int .i64 S3)) (Fq.is (.int .i64 r3)), Fq.is (.int .i64 S3), Fq.is (.int .i64 r3), Fq.is (.int .i64 S3), Fq.is (.int .i64 r3)]) (ks := [none, none]) (new := []) E rfl (by kernel_rfl) rfl rfl (fun hp => ⟨?_, ?_, ?_, ?_, ?_, ?_, ?_, trivial⟩) ?_
  · exact q_loadInt (off := 0) hp (free_of rfl) trivial (List.mem_iff_getElem?.2 ⟨0, rfl⟩) (.inl rfl) (Nat.le_of_ble_eq_true rfl) (sq_out (s := 6) rfl rfl (fun _ _ => rfl)) (fun us w hl h => ld_num hl h)
  · exact q_call1W (F := (Fq.num z).P) hp (free_of rfl) trivial (enq_f_algorist_algoristref04_Witness) rfl (sqi 0) (fun v w hbw h => (H3.out.2 _ _ (hT.out.mono hbw) h).mono fun e w' hh => by obtain ⟨v2, h1, h2, rfl⟩ := hh; exact ⟨_, h1, h2, _, _, rfl, rfl, rfl⟩)
  · exact q_move hp (free_of rfl) trivial (sqi 1)
  · exact q_extract2 hp (free_of rfl) trivial (sqi 2) (fun v1 v2 w h1 h2 => ⟨_, rfl, h1⟩)
  · exact q_extract2 hp (free_of rfl) trivial (sqi 2) (fun v1 v2 w h1 h2 => ⟨_, rfl, h2⟩)
  · exact q_assign hp (free_of rfl) trivial (sqi 3)
  · exact q_assign hp (free_of rfl) trivial (sqi 4)
  intro L vs w10 nb hL hC hn E10
  have e3 : vs 3 = .int .i64 S3 := hC 3 (by simp)
  have e4 : vs 4 = .int .i64 r3 := hC 4 (by simp)
  have e5 : vs 5 = .int .i64 S3 := hC 5 (by simp)
  have e6 : vs 6 = .int .i64 r3 := hC 6 (by simp)
  have E : Fr w [(b4_2, 2, Fq.num z), (b1, 2, Fq.raw n1 a1 k1 c1 xs1)] w10 := E10
  rw [lay_all hL]
  simp only [putAll, dstOf, List.length_cons, List.length_nil, Nat.zero_add, Nat.reduceAdd, List.getElem?_toArray, List.getElem?_cons_zero, List.getElem?_cons_succ, Option.bind_some, Act.put, List.setIfInBounds_toArray, List.set_cons_succ, List.set_cons_zero]
  rw [e3, e4, e5, e6]
  generalize vs 0 = u10_0
  generalize vs 1 = u10_1
  generalize vs 2 = u10_2
  clear e3 e4 e5 e6 hC hn E10 hL vs L nb
  go_upto_region 11 with (fail)
  refine region_fr (C := [Fq.is (.bool true), Fq.is (.bool true), Fq.is (.bool S1), Fq.is (.bool S1), Fq.is (.bool true), Fq.is (.bool true), Fq.is (.bool true), Fq.is (.int .i64 r1), Fq.is (.int .i64 r1), Fq.is (.bool true), Fq.is (.bool true), Fq.is (.bool true), Fq.is (.bool S2), Fq.is (.bool S2), Fq.is (.bool true), Fq.is (.bool true), Fq.is (.bool true), Fq.is (.int .i64 r2), Fq.is (.int .i64 r2), Fq.is (.bool true), Fq.is (.bool true), Fq.is (.bool true), Fq.is (.int .i64 S3), Fq.is (.int .i64 S3), Fq.is (.bool true), Fq.is (.bool true), Fq.is (.bool true), Fq.is (.int .i64 r3), Fq.is (.int .i64 r3), Fq.is (.bool true), Fq.is (.bool true), Fq.is (.bool true)]) (ks := [none, none]) (new := []) E rfl (by kernel_rfl) rfl rfl (fun hp => ⟨?_, ?_, ?_, ?_, ?_, ?_, ?_, ?_, ?_, ?_, ?_, ?_, ?_, ?_, ?_, ?_, ?_, ?_, ?_, ?_, ?_, ?_, ?_, ?_, ?_, ?_, ?_, ?_, ?_, ?_, ?_, ?_, trivial⟩) ?_
  · exact q_move hp (free_of rfl) trivial (sq_out (s := 5) rfl rfl (fun _ _ => rfl))
  · exact q_move hp (free_of rfl) trivial (sqi 0)
  · exact q_move hp (free_of rfl) (gq_some rfl rfl (by simp) rfl (fun v w h => h)) (sq_out (s := 7) rfl rfl (fun _ _ => rfl))
  · exact q_move hp (free_of rfl) (gq_some rfl rfl (by simp) rfl (fun v w h => h)) (sq_out (s := 9) rfl rfl (fun _ _ => rfl))
  · exact q_two (F := fun v _ => v = .bool S1) (G := fun v _ => v = .bool S1) hp (free_of rfl) (gq_some rfl rfl (by simp) rfl (fun v w h => h)) (sqi 2) (sqi 3) (fun ρ w hc h h' => ⟨.bool true, by simp [execOp, go_sem, h, h'], rfl⟩)
  · exact q_two (F := fun v _ => v = .bool true) (G := fun v _ => v = .bool true) hp (free_of rfl) trivial (sqi 1) (sqi 4) (fun ρ w hc h h' => ⟨_, by simp [execOp, go_sem, h, h'], rfl⟩)
  · exact q_move hp (free_of rfl) trivial (sqi 5)
  · exact q_move hp (free_of rfl) (gq_some rfl rfl (by simp) rfl (fun v w h => h)) (sq_out (s := 8) rfl rfl (fun _ _ => rfl))
  · exact q_move hp (free_of rfl) (gq_some rfl rfl (by simp) rfl (fun v w h => h)) (sq_out (s := 10) rfl rfl (fun _ _ => rfl))
  · exact q_two (F := fun v _ => v = .int .i64 r1) (G := fun v _ => v = .int .i64 r1) hp (free_of rfl) (gq_some rfl rfl (by simp) rfl (fun v w h => h)) (sqi 7) (sqi 8) (fun ρ w hc h h' => ⟨.bool true, by simp [execOp, go_sem, h, h'], rfl⟩)
  · exact q_two (F := fun v _ => v = .bool true) (G := fun v _ => v = .bool true) hp (free_of rfl) trivial (sqi 6) (sqi 9) (fun ρ w hc h h' => ⟨_, by simp [execOp, go_sem, h, h'], rfl⟩)
  · exact q_move hp (free_of rfl) trivial (sqi 10)
  · exact q_move hp (free_of rfl) (gq_some rfl rfl (by simp) rfl (fun v w h => h)) (sq_out (s := 11) rfl rfl (fun _ _ => rfl))
  · exact q_move hp (free_of rfl) (gq_some rfl rfl (by simp) rfl (fun v w h => h)) (sq_out (s := 13) rfl rfl (fun _ _ => rfl))
  · exact q_two (F := fun v _ => v = .bool S2) (G := fun v _ => v = .bool S2) hp (free_of rfl) (gq_some rfl rfl (by simp) rfl (fun v w h => h)) (sqi 12) (sqi 13) (fun ρ w hc h h' => ⟨.bool true, by simp [execOp, go_sem, h, h'], rfl⟩)
  · exact q_two (F := fun v _ => v = .bool true) (G := fun v _ => v = .bool true) hp (free_of rfl) trivial (sqi 11) (sqi 14) (fun ρ w hc h h' => ⟨_, by simp [execOp, go_sem, h, h'], rfl⟩)
  · exact q_move hp (free_of rfl) trivial (sqi 15)
  · exact q_move hp (free_of rfl) (gq_some rfl rfl (by simp) rfl (fun v w h => h)) (sq_out (s := 12) rfl rfl (fun _ _ => rfl))
  · exact q_move hp (free_of rfl) (gq_some rfl rfl (by simp) rfl (fun v w h => h)) (sq_out (s := 14) rfl rfl (fun _ _ => rfl))
  · exact q_two (F := fun v _ => v = .int .i64 r2) (G := fun v _ => v = .int .i64 r2) hp (free_of rfl) (gq_some rfl rfl (by simp) rfl (fun v w h => h)) (sqi 17) (sqi 18) (fun ρ w hc h h' => ⟨.bool true, by simp [execOp, go_sem, h, h'], rfl⟩)
  · exact q_two (F := fun v _ => v = .bool true) (G := fun v _ => v = .bool true) hp (free_of rfl) trivial (sqi 16) (sqi 19) (fun ρ w hc h h' => ⟨_, by simp [execOp, go_sem, h, h'], rfl⟩)
  · exact q_move hp (free_of rfl) trivial (sqi 20)
  · exact q_move hp (free_of rfl) (gq_some rfl rfl (by simp) rfl (fun v w h => h)) (sq_out (s := 15) rfl rfl (fun _ _ => rfl))
  · exact q_move hp (free_of rfl) (gq_some rfl rfl (by simp) rfl (fun v w h => h)) (sq_out (s := 17) rfl rfl (fun _ _ => rfl))
  · exact q_two (F := fun v _ => v = .int .i64 S3) (G := fun v _ => v = .int .i64 S3) hp (free_of rfl) (gq_some rfl rfl (by simp) rfl (fun v w h => h)) (sqi 22) (sqi 23) (fun ρ w hc h h' => ⟨.bool true, by simp [execOp, go_sem, h, h'], rfl⟩)
  · exact q_two (F := fun v _ => v = .bool true) (G := fun v _ => v = .bool true) hp (free_of rfl) trivial (sqi 21) (sqi 24) (fun ρ w hc h h' => ⟨_, by simp [execOp, go_sem, h, h'], rfl⟩)
  · exact q_move hp (free_of rfl) trivial (sqi 25)
  · exact q_move hp (free_of rfl) (gq_some rfl rfl (by simp) rfl (fun v w h => h)) (sq_out (s := 16) rfl rfl (fun _ _ => rfl))
  · exact q_move hp (free_of rfl) (gq_some rfl rfl (by simp) rfl (fun v w h => h)) (sq_out (s := 18) rfl rfl (fun _ _ => rfl))
  · exact q_two (F := fun v _ => v = .int .i64 r3) (G := fun v _ => v = .int .i64 r3) hp (free_of rfl) (gq_some rfl rfl (by simp) rfl (fun v w h => h)) (sqi 27) (sqi 28) (fun ρ w hc h h' => ⟨.bool true, by simp [execOp, go_sem, h, h'], rfl⟩)
  · exact q_two (F := fun v _ => v = .bool true) (G := fun v _ => v = .bool true) hp (free_of rfl) trivial (sqi 26) (sqi 29) (fun ρ w hc h h' => ⟨_, by simp [execOp, go_sem, h, h'], rfl⟩)
  · exact q_assign hp (free_of rfl) trivial (sqi 30)
  intro L vs w11 nb hL hC hn E11
  have e0 : vs 0 = .bool true := hC 0 (by simp)
  have e1 : vs 1 = .bool true := hC 1 (by simp)
  have e2 : vs 2 = .bool S1 := hC 2 (by simp)
  have e3 : vs 3 = .bool S1 := hC 3 (by simp)
  have e4 : vs 4 = .bool true := hC 4 (by simp)
  have e5 : vs 5 = .bool true := hC 5 (by simp)
  have e6 : vs 6 = .bool true := hC 6 (by simp)
  have e7 : vs 7 = .int .i64 r1 := hC 7 (by simp)
  have e8 : vs 8 = .int .i64 r1 := hC 8 (by simp)
  have e9 : vs 9 = .bool true := hC 9 (by simp)
  have e10 : vs 10 = .bool true := hC 10 (by simp)
  have e11 : vs 11 = .bool true := hC 11 (by simp)
  have e12 : vs 12 = .bool S2 := hC 12 (by simp)
  have e13 : vs 13 = .bool S2 := hC 13 (by simp)
  have e14 : vs 14 = .bool true := hC 14 (by simp)
  have e15 : vs 15 = .bool true := hC 15 (by simp)
  have e16 : vs 16 = .bool true := hC 16 (by simp)
  have e17 : vs 17 = .int .i64 r2 := hC 17 (by simp)
  have e18 : vs 18 = .int .i64 r2 := hC 18 (by simp)
  have e19 : vs 19 = .bool true := hC 19 (by simp)
  have e20 : vs 20 = .bool true := hC 20 (by simp)
  have e21 : vs 21 = .bool true := hC 21 (by simp)
  have e22 : vs 22 = .int .i64 S3 := hC 22 (by simp)
  have e23 : vs 23 = .int .i64 S3 := hC 23 (by simp)
  have e24 : vs 24 = .bool true := hC 24 (by simp)
  have e25 : vs 25 = .bool true := hC 25 (by simp)
  have e26 : vs 26 = .bool true := hC 26 (by simp)
  have e27 : vs 27 = .int .i64 r3 := hC 27 (by simp)
  have e28 : vs 28 = .int .i64 r3 := hC 28 (by simp)
  have e29 : vs 29 = .bool true := hC 29 (by simp)
  have e30 : vs 30 = .bool true := hC 30 (by simp)
  have e31 : vs 31 = .bool true := hC 31 (by simp)
  have E : Fr w [(b4_2, 2, Fq.num z), (b1, 2, Fq.raw n1 a1 k1 c1 xs1)] w11 := E11
  rw [lay_all hL]
  simp only [putAll, dstOf, List.length_cons, List.length_nil, Nat.zero_add, Nat.reduceAdd, List.getElem?_toArray, List.getElem?_cons_zero, List.getElem?_cons_succ, Option.bind_some, Act.put, List.setIfInBounds_toArray, List.set_cons_succ, List.set_cons_zero]
  rw [e0, e1, e2, e3, e4, e5, e6, e7, e8, e9, e10, e11, e12, e13, e14, e15, e16, e17, e18, e19, e20, e21, e22, e23, e24, e25, e26, e27, e28, e29, e30, e31]
  clear e0 e1 e2 e3 e4 e5 e6 e7 e8 e9 e10 e11 e12 e13 e14 e15 e16 e17 e18 e19 e20 e21 e22 e23 e24 e25 e26 e27 e28 e29 e30 e31 hC hn E11 hL vs L nb
  clear Hz K1 H1 H2 H3
  clear Bz hT
  go_wp2
  refine bodyPost_ret (v := .bool true) ?_ rfl ⟨rfl, E.below⟩
  simp [results, Tryd.results3, go_sem]

end Go.Proofs.YtnhapjifddhdiaaDoor
