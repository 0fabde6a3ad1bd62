/- Ur. -/
import Derived.Test.YtdhkhedhnolcjaaCf6
set_option linter.unusedSimpArgs false
set_option linter.unusedVariables false
namespace Go.Proofs.Ytdhkhedhnolcjaa
open Go Go.RowKit

theorem qv_10 (a b c : Int) : qv a b c 1 0 = a := by unfold qv; omega
theorem qv_01 (a b c : Int) : qv a b c 0 1 = c := by unfold qv; omega
theorem qv_00 (a b c : Int) : qv a b c 0 0 = 0 := by unfold qv; omega
set_option maxRecDepth 100000 in
set_option maxHeartbeats 4000000 in
theorem zLt (w : World) (D i0 i1 i2 i3 m0 m1 m2 m3 : Int) (hD : 0 ≤ D ∧ D ≤ 65535) (hi0 : 0 ≤ i0 ∧ i0 ≤ 65535) (hi1 : 0 ≤ i1 ∧ i1 ≤ 65535) (hi2 : 0 ≤ i2 ∧ i2 ≤ 65535) (hi3 : 0 ≤ i3 ∧ i3 ≤ 65535) (hm0 : 0 ≤ m0 ∧ m0 ≤ 255) (hm1 : 0 ≤ m1 ∧ m1 ≤ 255) (hm2 : 0 ≤ m2 ∧ m2 ≤ 255) (hm3 : 0 ≤ m3 ∧ m3 ≤ 255) (z y : Int) (hz : -32768 ≤ z ∧ z ≤ 32767) (hy : -32768 ≤ y ∧ y ≤ 32767) {v v' : Value} (h : (Fq.st [.v (.int .u16 D), .v (.int .u16 i0), .v (.int .u16 i1), .v (.int .u16 i2), .v (.int .u16 i3), .v (.int .u8 m0), .v (.int .u8 m1), .v (.int .u8 m2), .v (.int .u8 m3)]).P v w) (h' : (Fq.st [.v (.int .i16 z), .v (.int .i16 y)]).P v' w) :
  Calls Try.prog 5 #[v, v'] w fun e w' => ∃ v', e = .returned v' ∧ Below w.heap.size w w' ∧ v' = .bool true := by
 obtain ⟨n, en⟩ : ∃ x, x = zBp D := ⟨_, rfl⟩
 have hszn := zIx D
 rw [← en] at hszn
 have En := hidd en.symm
 have Zn := hidd hszn
 have HDn := hidd hD
 clear en hszn hD
 obtain ⟨P, eP⟩ : ∃ x, x = zE4 n i0 m0 := ⟨_, rfl⟩
 have hokP := madeF_ok (i := i0) (m := m0) Zn.out.1 Zn.out.2.1 Zn.out.2.2
 rw [← eP] at hokP
 have EP := hidd eP.symm
 have OKP := hidd hokP
 have BP := hidd hokP.2.2.1
 have IP := hidd hi0
 have MP := hidd hm0
 clear eP hokP hi0 hm0
 obtain ⟨S, eS⟩ : ∃ x, x = redT P.a P.b P.c := ⟨_, rfl⟩
 have BS := hidd (zIq (Int.lt_of_lt_of_le BP.out.1 (zAb (by omega))) (Int.lt_of_lt_of_le BP.out.2.1 (zAb (by omega))) (Int.lt_of_lt_of_le BP.out.2.2 (zAb (by omega))))
 have hinS := zIr (Int.lt_of_lt_of_le BP.out.1 (zAb (by omega))) (Int.lt_of_lt_of_le BP.out.2.1 (zAb (by omega))) (Int.lt_of_lt_of_le BP.out.2.2 (zAb (by omega))) OKP.out.1
 rw [← eS] at BS hinS
 have ES := hidd eS.symm
 have US := hidd hinS.1
 have RS := hidd hinS.2
 clear eS hinS
 have HZ := hidd hz
 have HY := hidd hy
 clear hz hy
 have T1 : Hid (¬ cmpI S.fa 0 < 1) := by have := cmpIqgt.2 RS.out.pos; show ¬ _ < _; omega
 have T2 : Hid (cmpI 0 0 = 0) := cmpIq0.2 rfl
 have IZ : Hid (IntKind.i64.wrap z = z) := IntWalk.i64_in _ (by have := HZ.out; omega)
 have IY : Hid (IntKind.i64.wrap y = y) := IntWalk.i64_in _ (by have := HY.out; omega)
 obtain ⟨_, rfl, hf0⟩ := h
 have hF0 := hf0
 obtain ⟨_, rfl, _, _, rfl, _, _, rfl, _, _, rfl, _, _, rfl, _, _, rfl, _, _, rfl, _, _, rfl, _, _, rfl, _, rfl⟩ := hf0
 obtain ⟨_, rfl, hf1⟩ := h'
 have hF1 := hf1
 obtain ⟨_, rfl, _, _, rfl, _, rfl⟩ := hf1
 obtain ⟨w1, b1, hw1, hb1, hs1, E⟩ := gS w 58 hF0
 obtain ⟨w2, b2, hw2, hb2, hs2, E⟩ := fS E hs1 60 hF1
 go_enter Try.func5, Try.ntmps5
 go_upto_region 1 with (fail)
 rw [← hw1]
 rw [← hw2]
 rw [← hb2]
 rw [← hb1]
 clear hw1 hw2 hb1 hb2 hs2 hs1
 refine rg [yT, yT] N2 [] E (fun hp => ⟨?_, ?_, tv⟩) ?_
 ·exact q_call0 hp fo tv (zL9) (fun w => zMk w)
 ·exact zAh hp fo tv (sqi 0)
 intro L vs w3 nb hL hC hn E3
 have e0 := wXi hC 0
 have e1 := wXi hC 1
 have E := E3; try simp only [LM, zAc] at E
 rw [zAe hL]
 simp only [SP, Nat.zero_add, Nat.reduceAdd]
 rw [e0, e1]
 clear e0 e1 hC hn E3 hL vs L nb
 go_upto_region 2 with (fail)
 refine rg [yT, yF] N2 [] E (fun hp => ⟨?_, ?_, tv⟩) ?_
 ·exact zAa hp fo tv (sqo 5)
 ·exact zAd (F := fun v _ => v = .bool true) hp fo tv (sqi 0) (fun ρ w _ h => ⟨.bool false, by simp [execOp, go_sem, h], rfl⟩)
 intro L vs w4 nb hL hC hn E4
 have e0 := wXi hC 0
 have e1 := wXi hC 1
 have E := E4; try simp only [LM, zAc] at E
 rw [zAe hL]
 simp only [SP, Nat.zero_add, Nat.reduceAdd]
 rw [e0, e1]
 clear e0 e1 hC hn E4 hL vs L nb
 go_upto_region 4 with (fail)
 refine rg [Fq.st [.v (.int .u16 D), .v (.int .u16 i0), .v (.int .u16 i1), .v (.int .u16 i2), .v (.int .u16 i3), .v (.int .u8 m0), .v (.int .u8 m1), .v (.int .u8 m2), .v (.int .u8 m3)], Fq.st [.n P.a, .n P.b, .n P.c], Fq.tup3 (Fq.st [.n S.fa, .n S.fb, .n S.fc]) (Fq.st [.n S.x1, .n S.x2, .n S.x3, .n S.x4]) (Fq.is (.int .i64 0)), Fq.tup3 (Fq.st [.n S.fa, .n S.fb, .n S.fc]) (Fq.st [.n S.x1, .n S.x2, .n S.x3, .n S.x4]) (Fq.is (.int .i64 0)), Fq.st [.n S.fa, .n S.fb, .n S.fc], Fq.st [.n S.x1, .n S.x2, .n S.x3, .n S.x4], Fq.is (.int .i64 0), Fq.any, Fq.any, Fq.any, Fq.any, Fq.is (.int .i64 0)] N2 [⟨7, 9, 6, Fq.st [.n 0, .n 0, .n 0], Fq.st [.n S.fa, .n S.fb, .n S.fc], none⟩, ⟨8, 10, 8, Fq.st [.n 0, .n 0, .n 0, .n 0], Fq.st [.n S.x1, .n S.x2, .n S.x3, .n S.x4], none⟩] E (fun hp => ⟨?_, ?_, ?_, ?_, ?_, ?_, ?_, ?_, ?_, ?_, ?_, ?_, tv⟩) ?_
 ·exact lS 0 9 hp (mq 1 rfl) zLd (sqo 2)
 ·exact zAx (F := (Fq.st [.v (.int .u16 D), .v (.int .u16 i0), .v (.int .u16 i1), .v (.int .u16 i2), .v (.int .u16 i3), .v (.int .u8 m0), .v (.int .u8 m1), .v (.int .u8 m2), .v (.int .u8 m3)]).P) (G := (Fq.is (.int .i64 0)).P) hp fo tv (zMd) (sqi 0) (zAj (fun _ => rfl)) (fun v v' w h h' => (by subst h'; exact exQMade0 h HDn.out IP.out MP.out En.out EP.out))
 ·exact wXa (Fq.st [.n P.a, .n P.b, .n P.c]) hp zGj (sqi 1) fun v w h => (by have hh := zGl h (Int.lt_of_lt_of_le BP.out.1 (zAb (by omega))) (Int.lt_of_lt_of_le BP.out.2.1 (zAb (by omega))) (Int.lt_of_lt_of_le BP.out.2.2 (zAb (by omega))); rw [ES.out, OKP.out.1] at hh; exact hh)
 ·exact zAa hp fo tv (sqi 2)
 ·exact zA4 hp fo tv (sqi 3) (fun v1 v2 v3 w h1 h2 h3 => ⟨_, rfl, h1⟩)
 ·exact zA4 hp fo tv (sqi 3) (fun v1 v2 v3 w h1 h2 h3 => ⟨_, rfl, h2⟩)
 ·exact zA4 hp fo tv (sqi 3) (fun v1 v2 v3 w h1 h2 h3 => ⟨_, rfl, h3⟩)
 ·exact aS hp (mq 0 rfl) zBf zDg
 ·exact aS hp (mq 1 rfl) zC0 zFt
 ·exact sS 4 hp (mq 0 rfl) zBd
 ·exact sS 5 hp (mq 1 rfl) zCs
 ·exact zAh hp fo tv (sqi 6)
 intro L vs w5 nb hL hC hn E5
 have e6 := wXi hC 6
 have e11 := wXi hC 11
 have e7 : vs 7 = .pointer (some ⟨nb 7, 0, none⟩) := hn _ (mq 0 rfl)
 have e8 : vs 8 = .pointer (some ⟨nb 8, 0, none⟩) := hn _ (mq 1 rfl)
 have E := E5; try simp only [LM, zAc] at E
 rw [zAe hL]
 simp only [SP, Nat.zero_add, Nat.reduceAdd]
 rw [e6, e11, e7, e8]
 generalize nb 7 = b5_7 at E ⊢
 generalize nb 8 = b5_8 at E ⊢
 generalize vs 0 = u5_0
 generalize vs 1 = u5_1
 generalize vs 2 = u5_2
 generalize vs 3 = u5_3
 generalize vs 4 = u5_4
 generalize vs 5 = u5_5
 clear e6 e11 e7 e8 hC hn E5 hL vs L nb
 go_upto_region 5 with (fail)
 refine rg [Fq.is (.int .i64 0), yF, yF, ip b5_7 0, Fq.num S.fa, Fq.is (.int .i64 (cmpI S.fa 0)), yF, yF] N4 [] E (fun hp => ⟨?_, ?_, ?_, ?_, ?_, ?_, ?_, ?_, tv⟩) ?_
 ·exact zAa hp fo tv (sqo 8)
 ·exact zAd (F := fun v _ => v = .int .i64 0) hp fo tv (sqi 0) (fun ρ w hc h => ⟨.bool false, by simp [execOp, go_sem, h, hc], rfl⟩)
 ·exact zAa hp fo tv (sqi 1)
 ·exact zAl (b := b5_7) (off := 0) (off' := 0) hp fo gqi (sqo 6) (fun ρ w h => by simp [execOp, go_sem, h]) (fun _ => rfl)
 ·exact lG 0 2 hp gqi (mq 0 rfl) zAf (sqi 3) fun v w h => zAk h
 ·exact zAm (F := (Fq.num S.fa).P) hp fo gqi (zBw) (sqi 4) (fun v w h => zBx h)
 ·exact zAd (F := fun v _ => v = .int .i64 (cmpI S.fa 0)) hp fo gqi (sqi 5) (fun ρ w hc h => ⟨.bool false, by simp [execOp, go_sem, h, hc, T1.out], rfl⟩)
 ·exact zAg (F := fun v _ => v = .bool false) (G := fun v _ => v = .bool false) hp fo tv (sqi 2) (sqi 6) (fun ρ w hc h h' => ⟨_, by simp [execOp, go_sem, h, h'], rfl⟩)
 intro L vs w6 nb hL hC hn E6
 have e0 := wXi hC 0
 have e1 := wXi hC 1
 have e2 := wXi hC 2
 have e3 := wXi hC 3
 have e5 := wXi hC 5
 have e6 := wXi hC 6
 have e7 := wXi hC 7
 have E := E6; try simp only [LM, zAc] at E
 rw [zAe hL]
 simp only [SP, Nat.zero_add, Nat.reduceAdd]
 rw [e0, e1, e2, e3, e5, e6, e7]
 generalize vs 4 = u6_4
 clear e0 e1 e2 e3 e5 e6 e7 hC hn E6 hL vs L nb
 go_upto_region 7 with (fail)
 have B7 : Hid (ab ((1)) < pw 3) := zA9 (by decide)
 have B8 : Hid (ab ((0)) < pw 3) := zA9 (by decide)
 refine rg [Fq.num (1), Fq.num (0), Fq.any, Fq.any, Fq.any, Fq.any] N4 [⟨2, 4, 2, Fq.num 0, Fq.num (1), none⟩, ⟨3, 5, 2, Fq.num 0, Fq.num (0), none⟩] E (fun hp => ⟨?_, ?_, ?_, ?_, ?_, ?_, tv⟩) ?_
 ·exact zAm (F := (Fq.is (.int .i64 1)).P) hp fo tv (zBv) (zAj (fun _ => rfl)) (fun v w h => (by subst h; exact rOfK w (1) (by omega) (by omega)))
 ·exact zAm (F := (Fq.is (.int .i64 0)).P) hp fo tv (zBv) (zAj (fun _ => rfl)) (fun v w h => (by subst h; exact rOfK w (0) (by omega) (by omega)))
 ·exact aN hp (mq 0 rfl)
 ·exact aN hp (mq 1 rfl)
 ·exact sN 0 hp (mq 0 rfl)
 ·exact sN 1 hp (mq 1 rfl)
 intro L vs w9 nb hL hC hn E9
 have e2 : vs 2 = .pointer (some ⟨nb 2, 0, none⟩) := hn _ (mq 0 rfl)
 have e3 : vs 3 = .pointer (some ⟨nb 3, 0, none⟩) := hn _ (mq 1 rfl)
 have E := E9; try simp only [LM, zAc] at E
 rw [zAe hL]
 simp only [SP, Nat.zero_add, Nat.reduceAdd]
 rw [e2, e3]
 generalize nb 2 = b9_2 at E ⊢
 generalize nb 3 = b9_3 at E ⊢
 generalize vs 0 = u9_0
 generalize vs 1 = u9_1
 clear e2 e3 hC hn E9 hL vs L nb
 go_upto_region 8 with (fail)
 refine rg [Fq.st [.n S.fa, .n S.fb, .n S.fc], Fq.num (1), Fq.num (0), Fq.num S.fa, ip b5_7 0, Fq.num S.fa, yT, yF, yF, Fq.st [.n S.fa, .n S.fb, .n S.fc], Fq.num (0), Fq.num (1), Fq.num S.fc, ip b5_7 4, Fq.num S.fc, yT, yF, yF, yF, Fq.st [.n S.fa, .n S.fb, .n S.fc], Fq.num (0), Fq.num (0), Fq.num 0, Fq.is (.int .i64 (cmpI 0 0)), yF, yF] N6 [] E (fun hp => ⟨?_, ?_, ?_, ?_, ?_, ?_, ?_, ?_, ?_, ?_, ?_, ?_, ?_, ?_, ?_, ?_, ?_, ?_, ?_, ?_, ?_, ?_, ?_, ?_, ?_, ?_, tv⟩) ?_
 ·exact lS 0 6 hp (mq 2 rfl) zAo (sqo 6)
 ·exact lI 0 hp (mq 0 rfl) (sqo 9) fun us w hl h => zAn hl h
 ·exact lI 0 hp (mq 1 rfl) (sqo 10) fun us w hl h => zAn hl h
 ·exact zB1 (F := (Fq.st [.n S.fa, .n S.fb, .n S.fc]).P) (G := (Fq.num (1)).P) (F3 := (Fq.num (0)).P) hp fo tv (zEu) (sqi 0) (sqi 1) (sqi 2) (fun v v' u w h h' g => (by have hh := zE0 h h' g (Int.lt_of_lt_of_le BS.out.1.1 (zAb (by omega))) (Int.lt_of_lt_of_le BS.out.1.2.1 (zAb (by omega))) (Int.lt_of_lt_of_le BS.out.1.2.2 (zAb (by omega))) (Int.lt_of_lt_of_le B7.out (zAb (by omega))) (Int.lt_of_lt_of_le B8.out (zAb (by omega))); rw [qv_10] at hh; exact hh))
 ·exact qa b5_7 0 0 hp (sqo 6)
 ·exact lN 0 2 hp (mq 2 rfl) zAf (sqi 4)
 ·exact wXb (Fq.num S.fa) (Fq.num S.fa) hp zCk (sqi 3) (sqi 5) fun v v' w h h' => zCl h h' (decide_eq_true rfl)
 ·exact zAd (F := fun v _ => v = .bool true) hp fo tv (sqi 6) (fun ρ w _ h => ⟨.bool false, by simp [execOp, go_sem, h], rfl⟩)
 ·exact zAa hp fo tv (sqi 7)
 ·exact lG 0 6 hp gqi (mq 2 rfl) zAo (sqo 6) fun v w h => h
 ·exact zBj (off := 0) hp fo gqi (mq 1 rfl) (.inl rfl) (Nat.le_of_ble_eq_true rfl) (sqo 10) (fun us w hl h => zAn hl h)
 ·exact zBj (off := 0) hp fo gqi (mq 0 rfl) (.inl rfl) (Nat.le_of_ble_eq_true rfl) (sqo 9) (fun us w hl h => zAn hl h)
 ·exact zB1 (F := (Fq.st [.n S.fa, .n S.fb, .n S.fc]).P) (G := (Fq.num (0)).P) (F3 := (Fq.num (1)).P) hp fo gqi (zEu) (sqi 9) (sqi 10) (sqi 11) (fun v v' u w h h' g => (by have hh := zE0 h h' g (Int.lt_of_lt_of_le BS.out.1.1 (zAb (by omega))) (Int.lt_of_lt_of_le BS.out.1.2.1 (zAb (by omega))) (Int.lt_of_lt_of_le BS.out.1.2.2 (zAb (by omega))) (Int.lt_of_lt_of_le B8.out (zAb (by omega))) (Int.lt_of_lt_of_le B7.out (zAb (by omega))); rw [qv_01] at hh; exact hh))
 ·exact zAl (b := b5_7) (off := 0) (off' := 4) hp fo gqi (sqo 6) (fun ρ w h => by simp [execOp, go_sem, h]) (fun _ => rfl)
 ·exact lG 4 2 hp gqi (mq 2 rfl) zAf (sqi 13) fun v w h => zAk h
 ·exact zAx (F := (Fq.num S.fc).P) (G := (Fq.num S.fc).P) hp fo gqi (zCk) (sqi 12) (sqi 14) (fun v v' w h h' => zCl h h' (decide_eq_true rfl))
 ·exact zAd (F := fun v _ => v = .bool true) hp fo gqi (sqi 15) (fun ρ w _ h => ⟨.bool false, by simp [execOp, go_sem, h], rfl⟩)
 ·exact zAg (F := fun v _ => v = .bool false) (G := fun v _ => v = .bool false) hp fo tv (sqi 8) (sqi 16) (fun ρ w hc h h' => ⟨_, by simp [execOp, go_sem, h, h'], rfl⟩)
 ·exact zAa hp fo tv (sqi 17)
 ·exact lG 0 6 hp gqi (mq 2 rfl) zAo (sqo 6) fun v w h => h
 ·exact zBj (off := 0) hp fo gqi (mq 1 rfl) (.inl rfl) (Nat.le_of_ble_eq_true rfl) (sqo 10) (fun us w hl h => zAn hl h)
 ·exact zBj (off := 0) hp fo gqi (mq 1 rfl) (.inl rfl) (Nat.le_of_ble_eq_true rfl) (sqo 10) (fun us w hl h => zAn hl h)
 ·exact zB1 (F := (Fq.st [.n S.fa, .n S.fb, .n S.fc]).P) (G := (Fq.num (0)).P) (F3 := (Fq.num (0)).P) hp fo gqi (zEu) (sqi 19) (sqi 20) (sqi 21) (fun v v' u w h h' g => (by have hh := zE0 h h' g (Int.lt_of_lt_of_le BS.out.1.1 (zAb (by omega))) (Int.lt_of_lt_of_le BS.out.1.2.1 (zAb (by omega))) (Int.lt_of_lt_of_le BS.out.1.2.2 (zAb (by omega))) (Int.lt_of_lt_of_le B8.out (zAb (by omega))) (Int.lt_of_lt_of_le B8.out (zAb (by omega))); rw [qv_00] at hh; exact hh))
 ·exact zAm (F := (Fq.num 0).P) hp fo gqi (zBw) (sqi 22) (fun v w h => zBx h)
 ·exact zAd (F := fun v _ => v = .int .i64 (cmpI 0 0)) hp fo gqi (sqi 23) (fun ρ w hc h => ⟨.bool false, by simp [execOp, go_sem, h, hc, T2.out], rfl⟩)
 ·exact zAg (F := fun v _ => v = .bool false) (G := fun v _ => v = .bool false) hp fo tv (sqi 18) (sqi 24) (fun ρ w hc h h' => ⟨_, by simp [execOp, go_sem, h, h'], rfl⟩)
 intro L vs w10 nb hL hC hn E10
 have e4 := wXi hC 4
 have e6 := wXi hC 6
 have e7 := wXi hC 7
 have e8 := wXi hC 8
 have e13 := wXi hC 13
 have e15 := wXi hC 15
 have e16 := wXi hC 16
 have e17 := wXi hC 17
 have e18 := wXi hC 18
 have e23 := wXi hC 23
 have e24 := wXi hC 24
 have e25 := wXi hC 25
 have E := E10; try simp only [LM, zAc] at E
 rw [zAe hL]
 simp only [SP, Nat.zero_add, Nat.reduceAdd]
 rw [e4, e6, e7, e8, e13, e15, e16, e17, e18, e23, e24, e25]
 generalize vs 0 = u10_0
 generalize vs 1 = u10_1
 generalize vs 2 = u10_2
 generalize vs 3 = u10_3
 generalize vs 5 = u10_5
 generalize vs 9 = u10_9
 generalize vs 10 = u10_10
 generalize vs 11 = u10_11
 generalize vs 12 = u10_12
 generalize vs 14 = u10_14
 generalize vs 19 = u10_19
 generalize vs 20 = u10_20
 generalize vs 21 = u10_21
 generalize vs 22 = u10_22
 clear e4 e6 e7 e8 e13 e15 e16 e17 e18 e23 e24 e25 hC hn E10 hL vs L nb
 clear EP OKP IP MP En Zn HDn ES US T1 T2 B7 B8
 have HE := hidd E
 clear E
 obtain ⟨W0, rfl⟩ : ∃ W0, W0 = w10 := ⟨_, rfl⟩
 go_wp2_with (fail)
 go_loopw [11] (fun vi W => ∃ i : Int, vi = .int .i64 i ∧ -2 ≤ i ∧ i ≤ 3 ∧ Fr w [(b9_2, 2, Fq.num (1)), (b9_3, 2, Fq.num (0)), (b5_7, 6, Fq.st [.n S.fa, .n S.fb, .n S.fc]), (b5_8, 8, Fq.st [.n S.x1, .n S.x2, .n S.x3, .n S.x4]), (b2, 2, Fq.st [.v (.int .i16 z), .v (.int .i16 y)]), (b1, 9, Fq.st [.v (.int .u16 D), .v (.int .u16 i0), .v (.int .u16 i1), .v (.int .u16 i2), .v (.int .u16 i3), .v (.int .u8 m0), .v (.int .u8 m1), .v (.int .u8 m2), .v (.int .u8 m3)])] W) (fun vi _ => (3 - intOf vi).toNat)
 case atStart => exact ⟨-2, rfl, by omega, by omega, HE.out⟩
 case round =>
  clear HE
  obtain ⟨V2, rfl⟩ : ∃ V2, V2 = wr := ⟨_, rfl⟩
  obtain ⟨i, rfl, hi0, hi1, E⟩ := hrel
  by_cases hi : i ≤ 2
  ·have TI := hidd hi
   have HI := hidd (And.intro hi0 hi1)
   clear hi hi0 hi1
   go_upto_region 11 with (fail)
   refine rg [Fq.is (.int .i64 i), yT] N6 [] E (fun hp => ⟨?_, ?_, tv⟩) ?_
   ·exact zAa hp fo tv (sqo 11)
   ·exact zAd (F := fun v _ => v = .int .i64 i) hp fo tv (sqi 0) (fun ρ w hc h => ⟨.bool true, by simp [execOp, go_sem, h, hc, TI.out], rfl⟩)
   intro L vs w11 nb hL hC hn E11
   have e0 := wXi hC 0
   have e1 := wXi hC 1
   have E := E11; try simp only [LM, zAc] at E
   rw [zAe hL]
   simp only [SP, Nat.zero_add, Nat.reduceAdd]
   rw [e0, e1]
   clear e0 e1 hC hn E11 hL vs L nb
   have HE := hidd E
   clear E
   obtain ⟨W1, rfl⟩ : ∃ W1, W1 = w11 := ⟨_, rfl⟩
   go_wp2_with (fail)
   go_loopw [12] (fun vk W => ∃ k : Int, vk = .int .i64 k ∧ -2 ≤ k ∧ k ≤ 3 ∧ Fr w [(b9_2, 2, Fq.num (1)), (b9_3, 2, Fq.num (0)), (b5_7, 6, Fq.st [.n S.fa, .n S.fb, .n S.fc]), (b5_8, 8, Fq.st [.n S.x1, .n S.x2, .n S.x3, .n S.x4]), (b2, 2, Fq.st [.v (.int .i16 z), .v (.int .i16 y)]), (b1, 9, Fq.st [.v (.int .u16 D), .v (.int .u16 i0), .v (.int .u16 i1), .v (.int .u16 i2), .v (.int .u16 i3), .v (.int .u8 m0), .v (.int .u8 m1), .v (.int .u8 m2), .v (.int .u8 m3)])] W) (fun vk _ => (3 - intOf vk).toNat)
   case atStart => exact ⟨-2, rfl, by omega, by omega, HE.out⟩
   case round =>
    clear HE
    obtain ⟨V3, rfl⟩ : ∃ V3, V3 = wr := ⟨_, rfl⟩
    obtain ⟨k, rfl, hk0, hk1, E⟩ := hrel
    by_cases hk : k ≤ 2
    ·have TK := hidd hk
     have HK := hidd (And.intro hk0 hk1)
     clear hk hk0 hk1
     have hI := HI.out
     have hK := HK.out
     have hZ := HZ.out
     have hY := HY.out
     obtain ⟨a, ea⟩ : ∃ a, a = i + z := ⟨_, rfl⟩
     obtain ⟨b, eb⟩ : ∃ b, b = k + y := ⟨_, rfl⟩
     obtain ⟨V, eV⟩ : ∃ V, V = qv S.fa S.fb S.fc a b := ⟨_, rfl⟩
     have WA : Hid (IntKind.i64.wrap (i + z) = a) := by show _ = _; rw [← ea]; exact IntWalk.i64_in _ (by omega)
     have WB : Hid (IntKind.i64.wrap (k + y) = b) := by show _ = _; rw [← eb]; exact IntWalk.i64_in _ (by omega)
     have RA : Hid (-9223372036854775808 ≤ a ∧ a ≤ 9223372036854775807) := by show _ ∧ _; omega
     have RB9 : Hid (-9223372036854775808 ≤ b ∧ b ≤ 9223372036854775807) := by show _ ∧ _; omega
     have Ba : Hid (ab a < pw 3) := zAs RA.out.1 RA.out.2
     have Bb : Hid (ab b < pw 3) := zAs RB9.out.1 RB9.out.2
     have BV : Hid (ab V < pw 60) := by show _ < _; rw [eV]; exact qv_abK (k := 15) (j := 3) (Int.lt_of_lt_of_le BS.out.1.1 (zAb (by omega))) (Int.lt_of_lt_of_le BS.out.1.2.1 (zAb (by omega))) BS.out.1.2.2 Ba.out Bb.out (by omega)
     have EV := hidd eV
     have HMC := hidd (fun h : b ≠ 0 => (by rw [eV]; exact zG3 (by have := RS.out.lo; omega) RS.out.hi RS.out.ac RS.out.pos h : S.fc ≤ V))
     have HMA := hidd (fun h : ¬ (a = 0 ∧ b = 0) => (by rw [eV]; exact zIm (by have := RS.out.lo; omega) RS.out.hi RS.out.ac RS.out.pos h : S.fa ≤ V))
     clear ea eb eV hI hK hZ hY
     go_upto_region 14 with (fail)
     refine rg [Fq.is (.int .i64 k), yT] N6 [] E (fun hp => ⟨?_, ?_, tv⟩) ?_
     ·exact zAa hp fo tv (sqo 12)
     ·exact zAd (F := fun v _ => v = .int .i64 k) hp fo tv (sqi 0) (fun ρ w hc h => ⟨.bool true, by simp [execOp, go_sem, h, hc, TK.out], rfl⟩)
     intro L vs w12 nb hL hC hn E12
     have e0 := wXi hC 0
     have e1 := wXi hC 1
     have E := E12; try simp only [LM, zAc] at E
     rw [zAe hL]
     simp only [SP, Nat.zero_add, Nat.reduceAdd]
     rw [e0, e1]
     clear e0 e1 hC hn E12 hL vs L nb
     go_upto_region 16 with (fail)
     refine rg [Fq.is (.int .i64 i), ip b2 0, Fq.is (.int .i16 z), Fq.is (.int .i64 z), Fq.is (.int .i64 a), Fq.is (.int .i64 k), ip b2 1, Fq.is (.int .i16 y), Fq.is (.int .i64 y), Fq.is (.int .i64 b), Fq.is (.int .i64 a), Fq.is (.int .i64 b)] N6 [] E (fun hp => ⟨?_, ?_, ?_, ?_, ?_, ?_, ?_, ?_, ?_, ?_, ?_, ?_, tv⟩) ?_
     ·exact zAa hp fo tv (sqo 11)
     ·exact zAd (F := fun v _ => v = .pointer (some ⟨b2, 0, none⟩)) hp fo tv (sqo 3) (fun ρ w hc h => ⟨.pointer (some ⟨b2, 0, none⟩), by simp [execOp, go_sem, h, hc], rfl⟩)
     ·exact wXc 0 hp (mq 4 rfl) (sqi 1)
     ·exact zAd (F := fun v _ => v = .int .i16 z) hp fo tv (sqi 2) (fun ρ w hc h => ⟨.int .i64 z, by simp [execOp, go_sem, h, IZ.out], rfl⟩)
     ·exact zAg (F := fun v _ => v = .int .i64 i) (G := fun v _ => v = .int .i64 z) hp fo tv (sqi 0) (sqi 3) (fun ρ w hc h h' => ⟨.int .i64 a, by simp [execOp, go_sem, h, h', WA.out], rfl⟩)
     ·exact zAa hp fo tv (sqo 12)
     ·exact zAd (F := fun v _ => v = .pointer (some ⟨b2, 0, none⟩)) hp fo tv (sqo 3) (fun ρ w hc h => ⟨.pointer (some ⟨b2, 1, none⟩), by simp [execOp, go_sem, h, hc], rfl⟩)
     ·exact wXc 1 hp (mq 4 rfl) (sqi 6)
     ·exact zAd (F := fun v _ => v = .int .i16 y) hp fo tv (sqi 7) (fun ρ w hc h => ⟨.int .i64 y, by simp [execOp, go_sem, h, IY.out], rfl⟩)
     ·exact zAg (F := fun v _ => v = .int .i64 k) (G := fun v _ => v = .int .i64 y) hp fo tv (sqi 5) (sqi 8) (fun ρ w hc h h' => ⟨.int .i64 b, by simp [execOp, go_sem, h, h', WB.out], rfl⟩)
     ·exact zAh hp fo tv (sqi 4)
     ·exact zAh hp fo tv (sqi 9)
     intro L vs w13 nb hL hC hn E13
     have e0 := wXi hC 0
     have e1 := wXi hC 1
     have e2 := wXi hC 2
     have e3 := wXi hC 3
     have e4 := wXi hC 4
     have e5 := wXi hC 5
     have e6 := wXi hC 6
     have e7 := wXi hC 7
     have e8 := wXi hC 8
     have e9 := wXi hC 9
     have e10 := wXi hC 10
     have e11 := wXi hC 11
     have E := E13; try simp only [LM, zAc] at E
     rw [zAe hL]
     simp only [SP, Nat.zero_add, Nat.reduceAdd]
     rw [e0, e1, e2, e3, e4, e5, e6, e7, e8, e9, e10, e11]
     clear e0 e1 e2 e3 e4 e5 e6 e7 e8 e9 e10 e11 hC hn E13 hL vs L nb
     go_upto_region 17 with (fail)
     refine rg [Fq.st [.n S.fa, .n S.fb, .n S.fc], Fq.is (.int .i64 a), Fq.num a, Fq.is (.int .i64 b), Fq.num b, Fq.num V, Fq.any, Fq.any] N6 [⟨6, 7, 2, Fq.num 0, Fq.num V, none⟩] E (fun hp => ⟨?_, ?_, ?_, ?_, ?_, ?_, ?_, ?_, tv⟩) ?_
     ·exact lS 0 6 hp (mq 2 rfl) zAo (sqo 6)
     ·exact zAa hp fo tv (sqo 13)
     ·exact wXa (Fq.is (.int .i64 a)) hp zBv (sqi 1) fun v w h => (by subst h; exact rOfK w a RA.out.1 RA.out.2)
     ·exact zAa hp fo tv (sqo 14)
     ·exact wXa (Fq.is (.int .i64 b)) hp zBv (sqi 3) fun v w h => (by subst h; exact rOfK w b RB9.out.1 RB9.out.2)
     ·exact zB1 (F := (Fq.st [.n S.fa, .n S.fb, .n S.fc]).P) (G := (Fq.num a).P) (F3 := (Fq.num b).P) hp fo tv (zEu) (sqi 0) (sqi 2) (sqi 4) (fun v v' u w h h' g => (by have hh := zE0 h h' g (Int.lt_of_lt_of_le BS.out.1.1 (zAb (by omega))) (Int.lt_of_lt_of_le BS.out.1.2.1 (zAb (by omega))) (Int.lt_of_lt_of_le BS.out.1.2.2 (zAb (by omega))) (Int.lt_of_lt_of_le Ba.out (zAb (by omega))) (Int.lt_of_lt_of_le Bb.out (zAb (by omega))); rw [← EV.out] at hh; exact hh))
     ·exact aN hp (mq 0 rfl)
     ·exact sN 5 hp (mq 0 rfl)
     intro L vs w14 nb hL hC hn E14
     have e1 := wXi hC 1
     have e3 := wXi hC 3
     have e6 : vs 6 = .pointer (some ⟨nb 6, 0, none⟩) := hn _ (mq 0 rfl)
     have E := E14; try simp only [LM, zAc] at E
     rw [zAe hL]
     simp only [SP, Nat.zero_add, Nat.reduceAdd]
     rw [e1, e3, e6]
     generalize nb 6 = b14_6 at E ⊢
     generalize vs 0 = u14_0
     generalize vs 2 = u14_2
     generalize vs 4 = u14_4
     generalize vs 5 = u14_5
     clear e1 e3 e6 hC hn E14 hL vs L nb
     clear WA WB RA RB9 EV
     go_upto_region 18 with (fail)
     by_cases ha0 : a = 0
     ·by_cases hb0 : b = 0
      ·have TA0 : Hid (a = 0) := ha0
       have TB0 : Hid (b = 0) := hb0
       clear ha0 hb0
       refine rg [Fq.is (.int .i64 a), yF, yF, Fq.is (.int .i64 b), yF, yF, yF, Fq.is (undef), Fq.is (undef), Fq.is (undef), Fq.is (undef), Fq.is (undef), yF, yF, Fq.is (.int .i64 b), yF, yF, Fq.is (undef), Fq.is (undef), Fq.is (undef), Fq.is (undef), Fq.is (undef), yF, yF] N7 [] E (fun hp => ⟨?_, ?_, ?_, ?_, ?_, ?_, ?_, ?_, ?_, ?_, ?_, ?_, ?_, ?_, ?_, ?_, ?_, ?_, ?_, ?_, ?_, ?_, ?_, ?_, tv⟩) ?_
       ·exact zAa hp fo tv (sqo 13)
       ·exact zAd (F := fun v _ => v = .int .i64 a) hp fo tv (sqi 0) (fun ρ w hc h => ⟨.bool false, by simp [execOp, go_sem, h, hc, TA0.out], rfl⟩)
       ·exact zAa hp fo tv (sqi 1)
       ·exact zAa hp fo gqi (sqo 14)
       ·exact zAd (F := fun v _ => v = .int .i64 b) hp fo gqi (sqi 3) (fun ρ w hc h => ⟨.bool false, by simp [execOp, go_sem, h, hc, TB0.out], rfl⟩)
       ·exact zAg (F := fun v _ => v = .bool false) (G := fun v _ => v = .bool false) hp fo tv (sqi 2) (sqi 4) (fun ρ w hc h h' => ⟨_, by simp [execOp, go_sem, h, h'], rfl⟩)
       ·exact zAa hp fo tv (sqi 5)
       ·exact zAi hp fo rfl gqi (fun _ => rfl)
       ·exact zAi hp fo rfl gqi (fun _ => rfl)
       ·exact zAi hp fo rfl gqi (fun _ => rfl)
       ·exact zAi hp fo rfl gqi (fun _ => rfl)
       ·exact zAi hp fo rfl gqi (fun _ => rfl)
       ·exact zAg (F := fun v _ => v = .bool false) (G := fun v _ => v = .bool false) hp fo tv (sqi 6) (zAj (fun _ => rfl)) (fun ρ w hc h h' => ⟨_, by simp [execOp, go_sem, h, h'], rfl⟩)
       ·exact zAa hp fo tv (sqi 12)
       ·exact zAa hp fo gqi (sqo 14)
       ·exact zAd (F := fun v _ => v = .int .i64 b) hp fo gqi (sqi 14) (fun ρ w hc h => ⟨.bool false, by simp [execOp, go_sem, h, hc, TB0.out], rfl⟩)
       ·exact zAa hp fo gqi (sqi 15)
       ·exact zAi hp fo rfl gqi (fun _ => rfl)
       ·exact zAi hp fo rfl gqi (fun _ => rfl)
       ·exact zAi hp fo rfl gqi (fun _ => rfl)
       ·exact zAi hp fo rfl gqi (fun _ => rfl)
       ·exact zAi hp fo rfl gqi (fun _ => rfl)
       ·exact zAg (F := fun v _ => v = .bool false) (G := fun v _ => v = .bool false) hp fo gqi (sqi 16) (zAj (fun _ => rfl)) (fun ρ w hc h h' => ⟨_, by simp [execOp, go_sem, h, h'], rfl⟩)
       ·exact zAg (F := fun v _ => v = .bool false) (G := fun v _ => v = .bool false) hp fo tv (sqi 13) (sqi 22) (fun ρ w hc h h' => ⟨_, by simp [execOp, go_sem, h, h'], rfl⟩)
       intro L vs w15 nb hL hC hn E15
       have e0 := wXi hC 0
       have e1 := wXi hC 1
       have e2 := wXi hC 2
       have e3 := wXi hC 3
       have e4 := wXi hC 4
       have e5 := wXi hC 5
       have e6 := wXi hC 6
       have e7 := wXi hC 7
       have e8 := wXi hC 8
       have e9 := wXi hC 9
       have e10 := wXi hC 10
       have e11 := wXi hC 11
       have e12 := wXi hC 12
       have e13 := wXi hC 13
       have e14 := wXi hC 14
       have e15 := wXi hC 15
       have e16 := wXi hC 16
       have e17 := wXi hC 17
       have e18 := wXi hC 18
       have e19 := wXi hC 19
       have e20 := wXi hC 20
       have e21 := wXi hC 21
       have e22 := wXi hC 22
       have e23 := wXi hC 23
       have E := E15; try simp only [LM, zAc] at E
       rw [zAe hL]
       simp only [SP, Nat.zero_add, Nat.reduceAdd]
       rw [e0, e1, e2, e3, e4, e5, e6, e7, e8, e9, e10, e11, e12, e13, e14, e15, e16, e17, e18, e19, e20, e21, e22, e23]
       clear e0 e1 e2 e3 e4 e5 e6 e7 e8 e9 e10 e11 e12 e13 e14 e15 e16 e17 e18 e19 e20 e21 e22 e23 hC hn E15 hL vs L nb
       clear BP BS Ba Bb BV RS IZ IY HZ HY HMA HMC TA0 TB0
       replace E := E.drop
       have g9 : IntKind.i64.wrap (k + 1) = k + 1 := IntWalk.i64_in _ (by have := HK.out; omega)
       have hw : wrap64 (k + 1) = k + 1 := by have := HK.out; simp only [wrap64]; omega
       go_wp2
       go_roundw
       case rel => exact ⟨k + 1, by first | go_num | (rw [hw]; go_num), by have := HK.out; omega, by have := TK.out; omega, E⟩
       case measure => have := HK.out; have := TK.out; first | (rw [hw]; simp [intOf]; omega) | (simp [intOf]; omega)
      ·have TA0 : Hid (a = 0) := ha0
       have TB0 : Hid (¬ b = 0) := hb0
       have TA : Hid (¬ cmpI V S.fa < 0) := fun e => by have h1 := cmpIqlt.1 e; have h2 := HMA.out (by omega); omega
       have TC : Hid (¬ cmpI V S.fc < 0) := fun e => by have h1 := cmpIqlt.1 e; have h2 := HMC.out hb0; omega
       clear ha0 hb0
       refine rg [Fq.is (.int .i64 a), yF, yF, Fq.is (.int .i64 b), yT, yT, yT, Fq.num V, ip b5_7 0, Fq.num S.fa, Fq.is (.int .i64 (cmpI V S.fa)), yF, yF, yF, Fq.is (.int .i64 b), yT, yT, Fq.num V, ip b5_7 4, Fq.num S.fc, Fq.is (.int .i64 (cmpI V S.fc)), yF, yF, yF] N7 [] E (fun hp => ⟨?_, ?_, ?_, ?_, ?_, ?_, ?_, ?_, ?_, ?_, ?_, ?_, ?_, ?_, ?_, ?_, ?_, ?_, ?_, ?_, ?_, ?_, ?_, ?_, tv⟩) ?_
       ·exact zAa hp fo tv (sqo 13)
       ·exact zAd (F := fun v _ => v = .int .i64 a) hp fo tv (sqi 0) (fun ρ w hc h => ⟨.bool false, by simp [execOp, go_sem, h, hc, TA0.out], rfl⟩)
       ·exact zAa hp fo tv (sqi 1)
       ·exact zAa hp fo gqi (sqo 14)
       ·exact zAd (F := fun v _ => v = .int .i64 b) hp fo gqi (sqi 3) (fun ρ w hc h => ⟨.bool true, by simp [execOp, go_sem, h, hc, TB0.out], rfl⟩)
       ·exact zAg (F := fun v _ => v = .bool false) (G := fun v _ => v = .bool true) hp fo tv (sqi 2) (sqi 4) (fun ρ w hc h h' => ⟨_, by simp [execOp, go_sem, h, h'], rfl⟩)
       ·exact zAa hp fo tv (sqi 5)
       ·exact zBj (off := 0) hp fo gqi (mq 0 rfl) (.inl rfl) (Nat.le_of_ble_eq_true rfl) (sqo 15) (fun us w hl h => zAn hl h)
       ·exact zAl (b := b5_7) (off := 0) (off' := 0) hp fo gqi (sqo 6) (fun ρ w h => by simp [execOp, go_sem, h]) (fun _ => rfl)
       ·exact lG 0 2 hp gqi (mq 3 rfl) zAf (sqi 8) fun v w h => zAk h
       ·exact zAx (F := (Fq.num V).P) (G := (Fq.num S.fa).P) hp fo gqi (zA0) (sqi 7) (sqi 9) (fun v v' w h h' => zA1 h h')
       ·exact zAd (F := fun v _ => v = .int .i64 (cmpI V S.fa)) hp fo gqi (sqi 10) (fun ρ w hc h => ⟨.bool false, by simp [execOp, go_sem, h, hc, TA.out], rfl⟩)
       ·exact zAg (F := fun v _ => v = .bool true) (G := fun v _ => v = .bool false) hp fo tv (sqi 6) (sqi 11) (fun ρ w hc h h' => ⟨_, by simp [execOp, go_sem, h, h'], rfl⟩)
       ·exact zAa hp fo tv (sqi 12)
       ·exact zAa hp fo gqi (sqo 14)
       ·exact zAd (F := fun v _ => v = .int .i64 b) hp fo gqi (sqi 14) (fun ρ w hc h => ⟨.bool true, by simp [execOp, go_sem, h, hc, TB0.out], rfl⟩)
       ·exact zAa hp fo gqi (sqi 15)
       ·exact zBj (off := 0) hp fo gqi (mq 0 rfl) (.inl rfl) (Nat.le_of_ble_eq_true rfl) (sqo 15) (fun us w hl h => zAn hl h)
       ·exact zAl (b := b5_7) (off := 0) (off' := 4) hp fo gqi (sqo 6) (fun ρ w h => by simp [execOp, go_sem, h]) (fun _ => rfl)
       ·exact lG 4 2 hp gqi (mq 3 rfl) zAf (sqi 18) fun v w h => zAk h
       ·exact zAx (F := (Fq.num V).P) (G := (Fq.num S.fc).P) hp fo gqi (zA0) (sqi 17) (sqi 19) (fun v v' w h h' => zA1 h h')
       ·exact zAd (F := fun v _ => v = .int .i64 (cmpI V S.fc)) hp fo gqi (sqi 20) (fun ρ w hc h => ⟨.bool false, by simp [execOp, go_sem, h, hc, TC.out], rfl⟩)
       ·exact zAg (F := fun v _ => v = .bool true) (G := fun v _ => v = .bool false) hp fo gqi (sqi 16) (sqi 21) (fun ρ w hc h h' => ⟨_, by simp [execOp, go_sem, h, h'], rfl⟩)
       ·exact zAg (F := fun v _ => v = .bool false) (G := fun v _ => v = .bool false) hp fo tv (sqi 13) (sqi 22) (fun ρ w hc h h' => ⟨_, by simp [execOp, go_sem, h, h'], rfl⟩)
       intro L vs w16 nb hL hC hn E16
       have e0 := wXi hC 0
       have e1 := wXi hC 1
       have e2 := wXi hC 2
       have e3 := wXi hC 3
       have e4 := wXi hC 4
       have e5 := wXi hC 5
       have e6 := wXi hC 6
       have e8 := wXi hC 8
       have e10 := wXi hC 10
       have e11 := wXi hC 11
       have e12 := wXi hC 12
       have e13 := wXi hC 13
       have e14 := wXi hC 14
       have e15 := wXi hC 15
       have e16 := wXi hC 16
       have e18 := wXi hC 18
       have e20 := wXi hC 20
       have e21 := wXi hC 21
       have e22 := wXi hC 22
       have e23 := wXi hC 23
       have E := E16; try simp only [LM, zAc] at E
       rw [zAe hL]
       simp only [SP, Nat.zero_add, Nat.reduceAdd]
       rw [e0, e1, e2, e3, e4, e5, e6, e8, e10, e11, e12, e13, e14, e15, e16, e18, e20, e21, e22, e23]
       generalize vs 7 = u16_7
       generalize vs 9 = u16_9
       generalize vs 17 = u16_17
       generalize vs 19 = u16_19
       clear e0 e1 e2 e3 e4 e5 e6 e8 e10 e11 e12 e13 e14 e15 e16 e18 e20 e21 e22 e23 hC hn E16 hL vs L nb
       clear BP BS Ba Bb BV RS IZ IY HZ HY HMA HMC TA0 TB0 TA TC
       replace E := E.drop
       have g9 : IntKind.i64.wrap (k + 1) = k + 1 := IntWalk.i64_in _ (by have := HK.out; omega)
       have hw : wrap64 (k + 1) = k + 1 := by have := HK.out; simp only [wrap64]; omega
       go_wp2
       go_roundw
       case rel => exact ⟨k + 1, by first | go_num | (rw [hw]; go_num), by have := HK.out; omega, by have := TK.out; omega, E⟩
       case measure => have := HK.out; have := TK.out; first | (rw [hw]; simp [intOf]; omega) | (simp [intOf]; omega)
     ·by_cases hb0 : b = 0
      ·have TA0 : Hid (¬ a = 0) := ha0
       have TB0 : Hid (b = 0) := hb0
       have TA : Hid (¬ cmpI V S.fa < 0) := fun e => by have h1 := cmpIqlt.1 e; have h2 := HMA.out (by omega); omega
       clear ha0 hb0
       refine rg [Fq.is (.int .i64 a), yT, yT, Fq.is (undef), Fq.is (undef), yT, yT, Fq.num V, ip b5_7 0, Fq.num S.fa, Fq.is (.int .i64 (cmpI V S.fa)), yF, yF, yF, Fq.is (.int .i64 b), yF, yF, Fq.is (undef), Fq.is (undef), Fq.is (undef), Fq.is (undef), Fq.is (undef), yF, yF] N7 [] E (fun hp => ⟨?_, ?_, ?_, ?_, ?_, ?_, ?_, ?_, ?_, ?_, ?_, ?_, ?_, ?_, ?_, ?_, ?_, ?_, ?_, ?_, ?_, ?_, ?_, ?_, tv⟩) ?_
       ·exact zAa hp fo tv (sqo 13)
       ·exact zAd (F := fun v _ => v = .int .i64 a) hp fo tv (sqi 0) (fun ρ w hc h => ⟨.bool true, by simp [execOp, go_sem, h, hc, TA0.out], rfl⟩)
       ·exact zAa hp fo tv (sqi 1)
       ·exact zAi hp fo rfl gqi (fun _ => rfl)
       ·exact zAi hp fo rfl gqi (fun _ => rfl)
       ·exact zAg (F := fun v _ => v = .bool true) (G := fun v _ => v = .bool true) hp fo tv (sqi 2) (zAj (fun _ => rfl)) (fun ρ w hc h h' => ⟨_, by simp [execOp, go_sem, h, h'], rfl⟩)
       ·exact zAa hp fo tv (sqi 5)
       ·exact zBj (off := 0) hp fo gqi (mq 0 rfl) (.inl rfl) (Nat.le_of_ble_eq_true rfl) (sqo 15) (fun us w hl h => zAn hl h)
       ·exact zAl (b := b5_7) (off := 0) (off' := 0) hp fo gqi (sqo 6) (fun ρ w h => by simp [execOp, go_sem, h]) (fun _ => rfl)
       ·exact lG 0 2 hp gqi (mq 3 rfl) zAf (sqi 8) fun v w h => zAk h
       ·exact zAx (F := (Fq.num V).P) (G := (Fq.num S.fa).P) hp fo gqi (zA0) (sqi 7) (sqi 9) (fun v v' w h h' => zA1 h h')
       ·exact zAd (F := fun v _ => v = .int .i64 (cmpI V S.fa)) hp fo gqi (sqi 10) (fun ρ w hc h => ⟨.bool false, by simp [execOp, go_sem, h, hc, TA.out], rfl⟩)
       ·exact zAg (F := fun v _ => v = .bool true) (G := fun v _ => v = .bool false) hp fo tv (sqi 6) (sqi 11) (fun ρ w hc h h' => ⟨_, by simp [execOp, go_sem, h, h'], rfl⟩)
       ·exact zAa hp fo tv (sqi 12)
       ·exact zAa hp fo gqi (sqo 14)
       ·exact zAd (F := fun v _ => v = .int .i64 b) hp fo gqi (sqi 14) (fun ρ w hc h => ⟨.bool false, by simp [execOp, go_sem, h, hc, TB0.out], rfl⟩)
       ·exact zAa hp fo gqi (sqi 15)
       ·exact zAi hp fo rfl gqi (fun _ => rfl)
       ·exact zAi hp fo rfl gqi (fun _ => rfl)
       ·exact zAi hp fo rfl gqi (fun _ => rfl)
       ·exact zAi hp fo rfl gqi (fun _ => rfl)
       ·exact zAi hp fo rfl gqi (fun _ => rfl)
       ·exact zAg (F := fun v _ => v = .bool false) (G := fun v _ => v = .bool false) hp fo gqi (sqi 16) (zAj (fun _ => rfl)) (fun ρ w hc h h' => ⟨_, by simp [execOp, go_sem, h, h'], rfl⟩)
       ·exact zAg (F := fun v _ => v = .bool false) (G := fun v _ => v = .bool false) hp fo tv (sqi 13) (sqi 22) (fun ρ w hc h h' => ⟨_, by simp [execOp, go_sem, h, h'], rfl⟩)
       intro L vs w17 nb hL hC hn E17
       have e0 := wXi hC 0
       have e1 := wXi hC 1
       have e2 := wXi hC 2
       have e3 := wXi hC 3
       have e4 := wXi hC 4
       have e5 := wXi hC 5
       have e6 := wXi hC 6
       have e8 := wXi hC 8
       have e10 := wXi hC 10
       have e11 := wXi hC 11
       have e12 := wXi hC 12
       have e13 := wXi hC 13
       have e14 := wXi hC 14
       have e15 := wXi hC 15
       have e16 := wXi hC 16
       have e17 := wXi hC 17
       have e18 := wXi hC 18
       have e19 := wXi hC 19
       have e20 := wXi hC 20
       have e21 := wXi hC 21
       have e22 := wXi hC 22
       have e23 := wXi hC 23
       have E := E17; try simp only [LM, zAc] at E
       rw [zAe hL]
       simp only [SP, Nat.zero_add, Nat.reduceAdd]
       rw [e0, e1, e2, e3, e4, e5, e6, e8, e10, e11, e12, e13, e14, e15, e16, e17, e18, e19, e20, e21, e22, e23]
       generalize vs 7 = u17_7
       generalize vs 9 = u17_9
       clear e0 e1 e2 e3 e4 e5 e6 e8 e10 e11 e12 e13 e14 e15 e16 e17 e18 e19 e20 e21 e22 e23 hC hn E17 hL vs L nb
       clear BP BS Ba Bb BV RS IZ IY HZ HY HMA HMC TA0 TB0 TA
       replace E := E.drop
       have g9 : IntKind.i64.wrap (k + 1) = k + 1 := IntWalk.i64_in _ (by have := HK.out; omega)
       have hw : wrap64 (k + 1) = k + 1 := by have := HK.out; simp only [wrap64]; omega
       go_wp2
       go_roundw
       case rel => exact ⟨k + 1, by first | go_num | (rw [hw]; go_num), by have := HK.out; omega, by have := TK.out; omega, E⟩
       case measure => have := HK.out; have := TK.out; first | (rw [hw]; simp [intOf]; omega) | (simp [intOf]; omega)
      ·have TA0 : Hid (¬ a = 0) := ha0
       have TB0 : Hid (¬ b = 0) := hb0
       have TA : Hid (¬ cmpI V S.fa < 0) := fun e => by have h1 := cmpIqlt.1 e; have h2 := HMA.out (by omega); omega
       have TC : Hid (¬ cmpI V S.fc < 0) := fun e => by have h1 := cmpIqlt.1 e; have h2 := HMC.out hb0; omega
       clear ha0 hb0
       refine rg [Fq.is (.int .i64 a), yT, yT, Fq.is (undef), Fq.is (undef), yT, yT, Fq.num V, ip b5_7 0, Fq.num S.fa, Fq.is (.int .i64 (cmpI V S.fa)), yF, yF, yF, Fq.is (.int .i64 b), yT, yT, Fq.num V, ip b5_7 4, Fq.num S.fc, Fq.is (.int .i64 (cmpI V S.fc)), yF, yF, yF] N7 [] E (fun hp => ⟨?_, ?_, ?_, ?_, ?_, ?_, ?_, ?_, ?_, ?_, ?_, ?_, ?_, ?_, ?_, ?_, ?_, ?_, ?_, ?_, ?_, ?_, ?_, ?_, tv⟩) ?_
       ·exact zAa hp fo tv (sqo 13)
       ·exact zAd (F := fun v _ => v = .int .i64 a) hp fo tv (sqi 0) (fun ρ w hc h => ⟨.bool true, by simp [execOp, go_sem, h, hc, TA0.out], rfl⟩)
       ·exact zAa hp fo tv (sqi 1)
       ·exact zAi hp fo rfl gqi (fun _ => rfl)
       ·exact zAi hp fo rfl gqi (fun _ => rfl)
       ·exact zAg (F := fun v _ => v = .bool true) (G := fun v _ => v = .bool true) hp fo tv (sqi 2) (zAj (fun _ => rfl)) (fun ρ w hc h h' => ⟨_, by simp [execOp, go_sem, h, h'], rfl⟩)
       ·exact zAa hp fo tv (sqi 5)
       ·exact zBj (off := 0) hp fo gqi (mq 0 rfl) (.inl rfl) (Nat.le_of_ble_eq_true rfl) (sqo 15) (fun us w hl h => zAn hl h)
       ·exact zAl (b := b5_7) (off := 0) (off' := 0) hp fo gqi (sqo 6) (fun ρ w h => by simp [execOp, go_sem, h]) (fun _ => rfl)
       ·exact lG 0 2 hp gqi (mq 3 rfl) zAf (sqi 8) fun v w h => zAk h
       ·exact zAx (F := (Fq.num V).P) (G := (Fq.num S.fa).P) hp fo gqi (zA0) (sqi 7) (sqi 9) (fun v v' w h h' => zA1 h h')
       ·exact zAd (F := fun v _ => v = .int .i64 (cmpI V S.fa)) hp fo gqi (sqi 10) (fun ρ w hc h => ⟨.bool false, by simp [execOp, go_sem, h, hc, TA.out], rfl⟩)
       ·exact zAg (F := fun v _ => v = .bool true) (G := fun v _ => v = .bool false) hp fo tv (sqi 6) (sqi 11) (fun ρ w hc h h' => ⟨_, by simp [execOp, go_sem, h, h'], rfl⟩)
       ·exact zAa hp fo tv (sqi 12)
       ·exact zAa hp fo gqi (sqo 14)
       ·exact zAd (F := fun v _ => v = .int .i64 b) hp fo gqi (sqi 14) (fun ρ w hc h => ⟨.bool true, by simp [execOp, go_sem, h, hc, TB0.out], rfl⟩)
       ·exact zAa hp fo gqi (sqi 15)
       ·exact zBj (off := 0) hp fo gqi (mq 0 rfl) (.inl rfl) (Nat.le_of_ble_eq_true rfl) (sqo 15) (fun us w hl h => zAn hl h)
       ·exact zAl (b := b5_7) (off := 0) (off' := 4) hp fo gqi (sqo 6) (fun ρ w h => by simp [execOp, go_sem, h]) (fun _ => rfl)
       ·exact lG 4 2 hp gqi (mq 3 rfl) zAf (sqi 18) fun v w h => zAk h
       ·exact zAx (F := (Fq.num V).P) (G := (Fq.num S.fc).P) hp fo gqi (zA0) (sqi 17) (sqi 19) (fun v v' w h h' => zA1 h h')
       ·exact zAd (F := fun v _ => v = .int .i64 (cmpI V S.fc)) hp fo gqi (sqi 20) (fun ρ w hc h => ⟨.bool false, by simp [execOp, go_sem, h, hc, TC.out], rfl⟩)
       ·exact zAg (F := fun v _ => v = .bool true) (G := fun v _ => v = .bool false) hp fo gqi (sqi 16) (sqi 21) (fun ρ w hc h h' => ⟨_, by simp [execOp, go_sem, h, h'], rfl⟩)
       ·exact zAg (F := fun v _ => v = .bool false) (G := fun v _ => v = .bool false) hp fo tv (sqi 13) (sqi 22) (fun ρ w hc h h' => ⟨_, by simp [execOp, go_sem, h, h'], rfl⟩)
       intro L vs w18 nb hL hC hn E18
       have e0 := wXi hC 0
       have e1 := wXi hC 1
       have e2 := wXi hC 2
       have e3 := wXi hC 3
       have e4 := wXi hC 4
       have e5 := wXi hC 5
       have e6 := wXi hC 6
       have e8 := wXi hC 8
       have e10 := wXi hC 10
       have e11 := wXi hC 11
       have e12 := wXi hC 12
       have e13 := wXi hC 13
       have e14 := wXi hC 14
       have e15 := wXi hC 15
       have e16 := wXi hC 16
       have e18 := wXi hC 18
       have e20 := wXi hC 20
       have e21 := wXi hC 21
       have e22 := wXi hC 22
       have e23 := wXi hC 23
       have E := E18; try simp only [LM, zAc] at E
       rw [zAe hL]
       simp only [SP, Nat.zero_add, Nat.reduceAdd]
       rw [e0, e1, e2, e3, e4, e5, e6, e8, e10, e11, e12, e13, e14, e15, e16, e18, e20, e21, e22, e23]
       generalize vs 7 = u18_7
       generalize vs 9 = u18_9
       generalize vs 17 = u18_17
       generalize vs 19 = u18_19
       clear e0 e1 e2 e3 e4 e5 e6 e8 e10 e11 e12 e13 e14 e15 e16 e18 e20 e21 e22 e23 hC hn E18 hL vs L nb
       clear BP BS Ba Bb BV RS IZ IY HZ HY HMA HMC TA0 TB0 TA TC
       replace E := E.drop
       have g9 : IntKind.i64.wrap (k + 1) = k + 1 := IntWalk.i64_in _ (by have := HK.out; omega)
       have hw : wrap64 (k + 1) = k + 1 := by have := HK.out; simp only [wrap64]; omega
       go_wp2
       go_roundw
       case rel => exact ⟨k + 1, by first | go_num | (rw [hw]; go_num), by have := HK.out; omega, by have := TK.out; omega, E⟩
       case measure => have := HK.out; have := TK.out; first | (rw [hw]; simp [intOf]; omega) | (simp [intOf]; omega)
    ·have t0 : decide (k ≤ 2) = false := by simp; omega
     have hli : ¬ k ≤ 2 := hk
     have hw : wrap64 (i + 1) = i + 1 := by have := HI.out; simp only [wrap64]; omega
     have g9 : IntKind.i64.wrap (i + 1) = i + 1 := IntWalk.i64_in _ (by have := HI.out; omega)
     clear hk hk0 hk1 BP BS RS IZ IY HZ HY
     go_wp2
     go_roundw
     case rel => exact ⟨i + 1, by first | go_num | (rw [hw]; go_num), by have := HI.out; omega, by have := TI.out; omega, E⟩
     case measure => have := HI.out; have := TI.out; first | (rw [hw]; simp [intOf]; omega) | (simp [intOf]; omega)
  ·have TI := hidd hi
   clear hi hi0 hi1
   go_upto_region 11 with (fail)
   refine rg [Fq.is (.int .i64 i), yF] N6 [] E (fun hp => ⟨?_, ?_, tv⟩) ?_
   ·exact zAa hp fo tv (sqo 11)
   ·exact zAd (F := fun v _ => v = .int .i64 i) hp fo tv (sqi 0) (fun ρ w hc h => ⟨.bool false, by simp [execOp, go_sem, h, hc, TI.out], rfl⟩)
   intro L vs w19 nb hL hC hn E19
   have e0 := wXi hC 0
   have e1 := wXi hC 1
   have E := E19; try simp only [LM, zAc] at E
   rw [zAe hL]
   simp only [SP, Nat.zero_add, Nat.reduceAdd]
   rw [e0, e1]
   clear e0 e1 hC hn E19 hL vs L nb
   go_upto_region 20 with (fail)
   refine rg [yT, yT] N6 [] E (fun hp => ⟨?_, ?_, tv⟩) ?_
   ·exact zAa hp fo tv (sqo 5)
   ·exact zAh hp fo tv (sqi 0)
   intro L vs w20 nb hL hC hn E20
   have e0 := wXi hC 0
   have e1 := wXi hC 1
   have E := E20; try simp only [LM, zAc] at E
   rw [zAe hL]
   simp only [SP, Nat.zero_add, Nat.reduceAdd]
   rw [e0, e1]
   clear e0 e1 hC hn E20 hL vs L nb
   clear RS IZ IY HZ HY TI
   clear BP BS
   go_wp2
   refine bodyPost_ret (v := .bool true) ?_ rfl ⟨_, rfl, E.below, rfl⟩
   simp [results, Try.results5, go_sem]

theorem zLu (w : World) (D i0 i1 i2 i3 m0 m1 m2 m3 : Int) (hD : 0 ≤ D ∧ D ≤ 65535) (hi0 : 0 ≤ i0 ∧ i0 ≤ 65535) (hi1 : 0 ≤ i1 ∧ i1 ≤ 65535) (hi2 : 0 ≤ i2 ∧ i2 ≤ 65535) (hi3 : 0 ≤ i3 ∧ i3 ≤ 65535) (hm0 : 0 ≤ m0 ∧ m0 ≤ 255) (hm1 : 0 ≤ m1 ∧ m1 ≤ 255) (hm2 : 0 ≤ m2 ∧ m2 ≤ 255) (hm3 : 0 ≤ m3 ∧ m3 ≤ 255) (z y : Int) (hz : -32768 ≤ z ∧ z ≤ 32767) (hy : -32768 ≤ y ∧ y ≤ 32767) : Calls Try.prog 5 #[.agg #[.int .u16 D, .int .u16 i0, .int .u16 i1, .int .u16 i2, .int .u16 i3, .int .u8 m0, .int .u8 m1, .int .u8 m2, .int .u8 m3], .agg #[.int .i16 z, .int .i16 y]] w fun e w' => e = .returned (.bool true) ∧ Below w.heap.size w w' := by
 refine (zLt w D i0 i1 i2 i3 m0 m1 m2 m3 hD hi0 hi1 hi2 hi3 hm0 hm1 hm2 hm3 z y hz hy ⟨[.int .u16 D, .int .u16 i0, .int .u16 i1, .int .u16 i2, .int .u16 i3, .int .u8 m0, .int .u8 m1, .int .u8 m2, .int .u8 m3], rfl, _, rfl, rfl, _, rfl, rfl, _, rfl, rfl, _, rfl, rfl, _, rfl, rfl, _, rfl, rfl, _, rfl, rfl, _, rfl, rfl, _, rfl, rfl, rfl⟩ ⟨[.int .i16 z, .int .i16 y], rfl, _, rfl, rfl, _, rfl, rfl, rfl⟩).mono ?_
 rintro e w' ⟨v', rfl, hb, rfl⟩
 exact ⟨rfl, hb⟩

end Go.Proofs.Ytdhkhedhnolcjaa
