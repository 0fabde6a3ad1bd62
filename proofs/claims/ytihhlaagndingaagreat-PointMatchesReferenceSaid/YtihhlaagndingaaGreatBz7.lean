/- Sh, Si. -/
import Derived.Test.YtihhlaagndingaaGreatBz6
namespace Go.Proofs.YtihhlaagndingaaGreat
open Go Go.RowKit

theorem Fr.openAt {w0 W : World} {bs : List (Nat × Nat × Fq)} (E : Fr w0 bs W) (k : Nat) {b : Nat} {z : Int} (hk : bs[k]? = some (b, 2, Fq.num z)) : ∃ n a k' c xs, (z = sgn n (val xs) ∧ Canon xs ∧ xs.length = k' ∧ (n = true → k' ≠ 0) ∧ Digs xs) ∧ (0 < k' → ∃ ab off, a = some ⟨ab, off, none⟩) ∧ Fr w0 (bs.set k (b, 2, Fq.nraw n a k' c xs z)) W := by
 obtain ⟨us, h1, h2, h3, h4, h5⟩ := (E.boxes _ (List.mem_of_getElem? hk)).2
 obtain ⟨neg, ao, k', c, xs, hv, hs, hn, hz, hc, hnn⟩ := id h5
 refine ⟨neg, ao, k', c, xs, ⟨hz, hc, hs.len, hnn, hs.digs⟩, zLl (v := .agg us.toArray) (w := W) (z := z) ⟨hv, hs, h5⟩, E.below, fun x hx => ?_, ?_⟩
 ·rcases List.mem_or_eq_of_mem_set hx with hx | rfl
  ·exact E.boxes x hx
  ·exact ⟨(E.boxes _ (List.mem_of_getElem? hk)).1, us, h1, h2, h3, h4, hv, hs, h5⟩
 ·have e : (bs.set k (b, 2, Fq.nraw neg ao k' c xs z)).map (·.1) = bs.map (·.1) := by
   apply List.ext_getElem?
   intro i
   rw [List.getElem?_map, List.getElem?_map, List.getElem?_set]
   split
   ·rename_i hik
    subst hik
    rw [hk]
    split
    ·rfl
    ·rename_i hl
     exact absurd (List.getElem?_eq_some_iff.1 hk).1 hl
   ·rfl
  rw [e]
  exact E.apart
def sumT (X : Pt × Int) : Pt × Int × Int := if X.2 = 0 then (X.1, 0, 0) else (⟨0, 0, false⟩, X.2, 6)
theorem zEj {P : Pt} {d : Int} (h : ¬ d = 0) : sumT (P, d) = (⟨0, 0, false⟩, d, 6) := if_neg h
theorem zEi {A M : Int} {P Q : Pt} {X : Pt × Int} (h : sumP A M P Q = X) : sumS A M P Q = sumT X := by rw [← h]; rfl
theorem nbits_neg (n : Int) : zAp (-n) = zAp n := by
 unfold zAp
 rw [Int.natAbs_neg]
 by_cases h : n = 0
 ·rw [if_pos h, if_pos (by omega)]
 ·rw [if_neg h, if_neg (by omega)]
set_option maxRecDepth 100000 in
set_option maxHeartbeats 4000000 in
theorem zN4 {w : World} {v v' u : Value} {A B M n : Int} {P0 P : Pt} {T : Pt × Int × Int} (h : (Fq.st [.n A, .n B, .n M]).P v w) (h' : Num w v' n) (g : (Fq.pt P0).P u w) (hM : ab M < pw 5) (hA : ab A < pw 5) (hB : ab B < pw 5) (hn : ab n < pw 20) (hPP : ab P0.x < pw 5 ∧ ab P0.y < pw 5) (hon : onB A B M P0.x P0.y P0.i = true) (hP : P.Ok M) (hnv : P = P0) (hs : ¬ n < 0) (ht : sumT (xjP A M P (n).natAbs (zAp (n)) 0) = T) :
  Calls Tryz.prog 16 #[v, v', u] w fun e w' => ∃ v', e = .returned v' ∧ Below w.heap.size w w' ∧ (Fq.sm T).P v' w' := by
 replace hM := hidd hM
 replace hA := hidd hA
 replace hB := hidd hB
 replace hn := hidd hn
 replace hPP := hidd hPP
 have HON := hidd hon
 have HSG : Hid (¬ cmpI n 0 < 0) := by exact fun e => hs (cmpIqlt.1 e)
 have HP := hidd hP
 have HT := hidd ht
 have HM0 : Hid (0 < M) := by have := hP.1; have := hP.2.1; show 0 < M; omega
 have HNV := hidd hnv
 obtain ⟨m, hm⟩ : ∃ m, m = n := ⟨_, rfl⟩
 have BM2 : Hid (ab m < pw 20) := by rw [hm]; exact hn.out
 have HMN := hidd hm
 rw [← hm] at HT
 clear hon hs hP ht hnv hm
 rw [← HMN.out] at h'
 rw [← HMN.out] at HSG
 obtain ⟨_, rfl, hf0⟩ := h
 have hF0 := hf0
 obtain ⟨y0_p0, y0_q0, _, rfl, _y0_n0, y0_p1, y0_q1, _, rfl, _y0_n1, y0_p2, y0_q2, _, rfl, _y0_n2, rfl⟩ := hf0
 obtain ⟨n1, ao1, k1, c1, rfl⟩ := h'.parts
 obtain ⟨_, rfl, hf2⟩ := g
 have hF2 := hf2
 obtain ⟨y2_p0, y2_q0, _, rfl, _y2_n0, y2_p1, y2_q1, _, rfl, _y2_n1, _, rfl, _, rfl⟩ := hf2
 obtain ⟨w1, b1, hw1, hb1, hs1, E⟩ := gS w 34 hF0
 obtain ⟨w2, b2, hw2, hb2, hs2, E⟩ := fN E hs1 32 h'
 obtain ⟨w3, b3, hw3, hb3, hs3, E⟩ := fS E hs2 36 hF2
 obtain ⟨w4, b4, hw4, hb4, hs4, E⟩ := fO E hs3 44 zBt
 go_enter Tryz.func16, Tryz.ntmps16
 go_upto_region 1 with (fail)
 rw [← hw1]
 rw [← hw2]
 rw [← hw3]
 rw [← hw4]
 rw [← hb4]
 rw [← hb3]
 rw [← hb2]
 rw [← hb1]
 clear hw1 hw2 hw3 hw4 hb1 hb2 hb3 hb4 hs4 hs1 hs2 hs3
 refine rg [Fq.st [.n A, .n B, .n M], Fq.st [.n P0.x, .n P0.y, .v (.bool P0.i)], yT, yF] N4 [] E (fun hp => ⟨?_, ?_, ?_, ?_, tv⟩) ?_
 ·exact lS 0 6 hp (mq 3 rfl) zAm (sqo 3)
 ·exact lS 0 5 hp (mq 1 rfl) zAk (sqo 5)
 ·exact wXb (Fq.st [.n A, .n B, .n M]) (Fq.st [.n P0.x, .n P0.y, .v (.bool P0.i)]) hp zC0 (sqi 0) (sqi 1) fun v v' w h h' => zC2 h h' hM.out hA.out hB.out hPP.out.1 hPP.out.2 HON.out
 ·exact zAf (F := fun v _ => v = .bool true) hp fo tv (sqi 2) (fun ρ w _ h => ⟨.bool false, by simp [execOp, go_sem, h], rfl⟩)
 intro L vs w5 nb hL hC hn E5
 have e2 := wXi hC 2
 have e3 := wXi hC 3
 have E := E5; simp only [LM, zAb] at E
 rw [zAa hL]
 simp only [SP, Nat.zero_add, Nat.reduceAdd]
 rw [e2, e3]
 generalize vs 0 = u5_0
 generalize vs 1 = u5_1
 clear e2 e3 hC hn E5 hL vs L nb
 go_upto_region 3 with (fail)
 refine rg [Fq.num m, Fq.is (.int .i64 (cmpI m 0)), yF] N4 [] E (fun hp => ⟨?_, ?_, ?_, tv⟩) ?_
 ·exact lI 0 hp (mq 2 rfl) (sqo 4) fun us w hl h => zAh hl h
 ·exact wXa (Fq.num m) hp zCd (sqi 0) fun v w h => zCa h
 ·exact zAf (F := fun v _ => v = .int .i64 (cmpI m 0)) hp fo tv (sqi 1) (fun ρ w hc h => ⟨.bool false, by simp [execOp, go_sem, h, hc, HSG.out], rfl⟩)
 intro L vs w6 nb hL hC hn E6
 have e1 := wXi hC 1
 have e2 := wXi hC 2
 have E := E6; simp only [LM, zAb] at E
 rw [zAa hL]
 simp only [SP, Nat.zero_add, Nat.reduceAdd]
 rw [e1, e2]
 generalize vs 0 = u6_0
 clear e1 e2 hC hn E6 hL vs L nb
 obtain rfl : P = P0 := HNV.out
 go_upto_region 6 with (fail)
 refine rg [Fq.st [.n 0, .n 0, .v (.bool true)], Fq.st [.n 0, .n 0, .v (.bool true), .n 0, .v (.int .i64 0)], Fq.any, Fq.any] N4 [⟨2, 3, 8, Fq.st [.n 0, .n 0, .v (.bool false), .n 0, .v (.int .i64 0)], Fq.st [.n 0, .n 0, .v (.bool true), .n 0, .v (.int .i64 0)], none⟩] E (fun hp => ⟨?_, ?_, ?_, ?_, tv⟩) ?_
 ·exact zFy (u2 := true) hp fo tv (zAl (fun _ => rfl)) (fun v w h => h)
 ·exact zEx (z0_0 := 0) (z0_1 := 0) (u0_2 := true) hp fo tv (sqi 0) (fun v w h => h)
 ·exact aS hp (mq 0 rfl) zBt zEz
 ·exact sS 1 hp (mq 0 rfl) zA9
 intro L vs w7 nb hL hC hn E7
 have e2 : vs 2 = .pointer (some ⟨nb 2, 0, none⟩) := hn _ (mq 0 rfl)
 have E := E7; simp only [LM, zAb] at E
 rw [zAa hL]
 simp only [SP, Nat.zero_add, Nat.reduceAdd]
 rw [e2]
 generalize nb 2 = b7_2 at E ⊢
 generalize vs 0 = u7_0
 generalize vs 1 = u7_1
 clear e2 hC hn E7 hL vs L nb
 have HNB : Hid (zAp m ≤ 640) := zH1 BM2.out
 have TW : Hid (IntKind.i64.wrap (((zAp m : Nat) : Int) - 1) = ((zAp m : Nat) : Int) - 1) := IntWalk.i64_in _ (by have := HNB.out; omega)
 go_upto_region 7 with (fail)
 refine rg [Fq.num m, Fq.is (.int .i64 ((zAp m : Nat) : Int)), Fq.is (.int .i64 (((zAp m : Nat) : Int) - 1)), Fq.is (.int .i64 (((zAp m : Nat) : Int) - 1))] N5 [] E (fun hp => ⟨?_, ?_, ?_, ?_, tv⟩) ?_
 ·exact lI 0 hp (mq 3 rfl) (sqo 4) fun us w hl h => zAh hl h
 ·exact wXa (Fq.num m) hp zIt (sqi 0) fun v w h => zK2 h
 ·exact zAf (F := fun v _ => v = .int .i64 ((zAp m : Nat) : Int)) hp fo tv (sqi 1) (fun ρ w hc h => ⟨.int .i64 (((zAp m : Nat) : Int) - 1), by simp [execOp, go_sem, h, hc, TW.out], rfl⟩)
 ·exact zAo hp fo tv (sqi 2)
 intro L vs w8 nb hL hC hn E8
 have e1 := wXi hC 1
 have e2 := wXi hC 2
 have e3 := wXi hC 3
 have E := E8; simp only [LM, zAb] at E
 rw [zAa hL]
 simp only [SP, Nat.zero_add, Nat.reduceAdd]
 rw [e1, e2, e3]
 generalize vs 0 = u8_0
 clear e1 e2 e3 hC hn E8 hL vs L nb
 clear TW HSG HMN HNV HON
 obtain ⟨m1, d1, j1, cc1, ys, hop, hadr, E⟩ := Fr.openAt E 3 rfl
 replace E : Fr w [(b7_2, 8, Fq.st [.n 0, .n 0, .v (.bool true), .n 0, .v (.int .i64 0)]), (b4, 8, Fq.st [.n 0, .n 0, .v (.bool false), .n 0, .v (.int .i64 0)]), (b3, 5, Fq.st [.n P.x, .n P.y, .v (.bool P.i)]), (b2, 2, Fq.nraw m1 d1 j1 cc1 ys m), (b1, 6, Fq.st [.n A, .n B, .n M])] w8 := E
 have HA2 := hidd hadr
 have HOP := hidd hop
 clear hop hadr
 have HS := hidd E
 go_upto_region 8 with (fail)
 go_loopw [8] (fun vi W => ∃ (j : Nat) (R : Pt), j ≤ zAp m ∧ vi = .int .i64 ((j : Int) - 1) ∧ xjP A M P m.natAbs (zAp m) j = (R, 0) ∧ Fr w [(b7_2, 8, Fq.st [.n R.x, .n R.y, .v (.bool R.i), .n 0, .v (.int .i64 0)]), (b4, 8, Fq.st [.n 0, .n 0, .v (.bool false), .n 0, .v (.int .i64 0)]), (b3, 5, Fq.st [.n P.x, .n P.y, .v (.bool P.i)]), (b2, 2, Fq.nraw m1 d1 j1 cc1 ys m), (b1, 6, Fq.st [.n A, .n B, .n M])] W) (fun vi _ => (intOf vi + 1).toNat)
 case atStart => exact ⟨zAp m, ⟨0, 0, true⟩, Nat.le_refl _, rfl, by unfold xjP; rw [Nat.sub_self]; rfl, HS.out⟩
 case round =>
  obtain ⟨j, R, hj, rfl, hR, E⟩ := hrel
  clear HS
  by_cases h0 : j = 0
  ·subst h0
   have HR := hidd hR
   clear hj hR
   go_upto_region 8 with (fail)
   refine rg [Fq.is (.int .i64 (((0 : Nat) : Int) - 1)), yF] N5 [] E (fun hp => ⟨?_, ?_, tv⟩) ?_
   ·exact zAe hp fo tv (sqo 8)
   ·exact zAf (F := fun v _ => v = .int .i64 (((0 : Nat) : Int) - 1)) hp fo tv (sqi 0) (fun ρ w hc h => ⟨.bool false, by simp [execOp, go_sem, h, hc], rfl⟩)
   intro L vs w9 nb hL hC hn E9
   have e0 := wXi hC 0
   have e1 := wXi hC 1
   have E := E9; simp only [LM, zAb] at E
   rw [zAa hL]
   simp only [SP, Nat.zero_add, Nat.reduceAdd]
   rw [e0, e1]
   clear e0 e1 hC hn E9 hL vs L nb
   go_upto_region 15 with (fail)
   refine rg [Fq.st [.n R.x, .n R.y, .v (.bool R.i), .n 0, .v (.int .i64 0)], Fq.any] [none, some (1, Fq.st [.n R.x, .n R.y, .v (.bool R.i), .n 0, .v (.int .i64 0)]), none, none, none] [] E (fun hp => ⟨?_, ?_, tv⟩) ?_
   ·exact lS 0 8 hp (mq 0 rfl) zF2 (sqo 7)
   ·exact sO 0 0 hp (mq 1 rfl) zA9 (sqo 6)
   intro L vs w10 nb hL hC hn E10
   have E := E10; simp only [LM, zAb] at E
   rw [zAa hL]
   simp only [SP, Nat.zero_add, Nat.reduceAdd]
   generalize vs 0 = u10_0
   clear  hC hn E10 hL vs L nb
   obtain rfl : (R, 0, 0) = T := by rw [← HT.out, HR.out]; rfl
   clear HR HP HT HNB HA2 HOP HM0
   obtain ⟨_, _, hc0, hf0⟩ := zAu (E.box 1 rfl)
   have hP0 := hf0
   obtain ⟨r0_p0, r0_q0, _, rfl, _r0_n0, r0_p1, r0_q1, _, rfl, _r0_n1, _, rfl, _, r0_p3, r0_q3, _, rfl, _r0_n3, _, rfl, _, rfl⟩ := hf0
   have c0_0 := hc0 0 (by simp)
   have c0_1 := hc0 1 (by simp)
   have c0_2 := hc0 2 (by simp)
   have c0_3 := hc0 3 (by simp)
   have c0_4 := hc0 4 (by simp)
   have c0_5 := hc0 5 (by simp)
   have c0_6 := hc0 6 (by simp)
   have c0_7 := hc0 7 (by simp)
   simp only [List.getD_cons_zero, List.getD_cons_succ] at c0_0 c0_1 c0_2 c0_3 c0_4 c0_5 c0_6 c0_7
   clear hc0
   clear hM hA hB hn hPP BM2
   go_wp2
   refine bodyPost_ret (v := .agg #[r0_p0, r0_q0, r0_p1, r0_q1, .bool R.i, r0_p3, r0_q3, .int .i64 0]) ?_ rfl ⟨_, rfl, E.below, ⟨_, rfl, hP0⟩⟩
   simp [results, Tryz.results16, go_sem, c0_0, c0_1, c0_2, c0_3, c0_4, c0_5, c0_6, c0_7]
  ·obtain ⟨i, rfl⟩ : ∃ i, j = i + 1 := ⟨j - 1, by omega⟩
   have ei : (((i + 1 : Nat) : Int) - 1) = (i : Int) := by omega
   rw [ei]
   have HJ := hidd hj
   have HST := hidd (zIc (A := A) (M := M) (P := P) (N := m.natAbs) (L := zAp m) (j := i) (by omega))
   have HR := hidd hR
   have HRO : Hid (R.Ok M) := by have := xj_ok (A := A) (N := m.natAbs) (L := zAp m) HP.out (i + 1); rw [hR] at this; exact this
   have TL : Hid (0 ≤ (i : Int)) := by show 0 ≤ _; omega
   have hw : wrap64 ((i : Int) - 1) = (i : Int) - 1 := by have := HJ.out; have := HNB.out; simp only [wrap64]; omega
   obtain ⟨S, hS⟩ : ∃ S, S = sumP A M R R := ⟨_, rfl⟩
   obtain ⟨S, er1⟩ := S
   have HSO : Hid (S.Ok M) := by have := zDr (A := A) HRO.out HRO.out; rw [← hS] at this; exact this
   have HS := hidd hS.symm
   obtain ⟨hqk, x0, y, hx0, hy, hband⟩ := zJt HOP.out (i := i) (by omega)
   obtain ⟨ad, off, rfl⟩ := HA2.out (by omega)
   obtain ⟨q, hq⟩ : ∃ q, q = i / 32 := ⟨_, rfl⟩
   obtain ⟨r, hr⟩ : ∃ r, r = i % 32 := ⟨_, rfl⟩
   rw [← hq] at hqk hx0
   rw [← hr] at hy
   have HX0 := hidd hx0
   have HQK := hidd hqk
   have HQI : Hid ((q : Int) < j1) := by show (q : Int) < j1; omega
   have HBA := hidd hband
   have HR32 : Hid (r < 32) := by show r < 32; omega
   have WQ : Hid (Int.tdiv (i : Int) 32 = (q : Int)) := by show _ = _; rw [Int.tdiv_eq_ediv_of_nonneg (by omega)]; omega
   have WQ3 : Hid (IntKind.i64.wrap (q : Int) = q) := IntWalk.i64_in _ (by have := HJ.out; have := HNB.out; omega)
   have WR : Hid (Int.tmod (i : Int) 32 = (r : Int)) := by show _ = _; rw [Int.tmod_eq_emod_of_nonneg (by omega)]; omega
   have WR3 : Hid (IntKind.i64.wrap (r : Int) = r) := IntWalk.i64_in _ (by omega)
   have WC : Hid (IntKind.u64.wrap (r : Int) = r) := by show _ = _; simp [IntKind.wrap, IntKind.bits, IntKind.signed]; omega
   have WS : Hid (x0 / 2 ^ r = y) := hy
   have WM : Hid (min r 32 = r) := by show _ = _; omega
   have WG : Hid ((0 : Int) ≤ r) := by show (0 : Int) ≤ _; omega
   clear ei hR hS h0 hj hq hr hqk hx0 hy hband
   go_upto_region 8 with (fail)
   refine rg [Fq.is (.int .i64 (i : Int)), yT] N5 [] E (fun hp => ⟨?_, ?_, tv⟩) ?_
   ·exact zAe hp fo tv (sqo 8)
   ·exact zAf (F := fun v _ => v = .int .i64 (i : Int)) hp fo tv (sqi 0) (fun ρ w hc h => ⟨.bool true, by simp [execOp, go_sem, h, hc, TL.out], rfl⟩)
   intro L vs w11 nb hL hC hn E11
   have e0 := wXi hC 0
   have e1 := wXi hC 1
   have E := E11; simp only [LM, zAb] at E
   rw [zAa hL]
   simp only [SP, Nat.zero_add, Nat.reduceAdd]
   rw [e0, e1]
   clear e0 e1 hC hn E11 hL vs L nb
   clear TL
   by_cases he : ¬ er1 = 0
   ·have HD := hidd he
    have HX : Hid (xjP A M P m.natAbs (zAp m) 0 = (S, er1)) := by
     have h9 : xjP A M P m.natAbs (zAp m) i = (S, er1) := by rw [HST.out, HR.out, zCn, if_pos rfl, HS.out, if_neg he]
     show _ = _
     rw [zE4 (j := i) (by have := HJ.out; omega) (by rw [h9]; exact he), h9]
    clear he
    go_upto_region 10 with (fail)
    refine rg [Fq.st [.n A, .n B, .n M], ip b7_2 0, Fq.st [.n R.x, .n R.y, .v (.bool R.i)], ip b7_2 0, Fq.st [.n R.x, .n R.y, .v (.bool R.i)], Fq.st [.n 0, .n 0, .v (.bool false), .n er1, .v (.int .i64 6)], Fq.any] [some (6, Fq.st [.n 0, .n 0, .v (.bool false), .n er1, .v (.int .i64 6)]), none, none, none, none] [] E (fun hp => ⟨?_, ?_, ?_, ?_, ?_, ?_, ?_, tv⟩) ?_
    ·exact lS 0 6 hp (mq 4 rfl) zAm (sqo 3)
    ·exact qa b7_2 0 0 hp (sqo 7)
    ·exact zBe (off := 0) (l := 5) hp fo tv (mq 0 rfl) (.inr rfl) rfl zAk rfl (sqi 1) (fun v w h => h)
    ·exact qa b7_2 0 0 hp (sqo 7)
    ·exact zBe (off := 0) (l := 5) hp fo tv (mq 0 rfl) (.inr rfl) rfl zAk rfl (sqi 3) (fun v w h => h)
    ·exact zBa (F := (Fq.st [.n A, .n B, .n M]).P) (G := (Fq.st [.n R.x, .n R.y, .v (.bool R.i)]).P) (F3 := (Fq.st [.n R.x, .n R.y, .v (.bool R.i)]).P) hp fo tv (zDy) (sqi 0) (sqi 2) (sqi 4) (fun v v' u w h h' g => zDz (P := R) (Q := R) h h' g hM.out hA.out (HRO.out.ab hM.out) (HRO.out.ab hM.out) HM0.out ((zEi HS.out).trans (zEj HD.out)))
    ·exact sO 0 5 hp (mq 0 rfl) zA9 (sqo 7)
    intro L vs w12 nb hL hC hn E12
    have e1 := wXi hC 1
    have e3 := wXi hC 3
    have E := E12; simp only [LM, zAb] at E
    rw [zAa hL]
    simp only [SP, Nat.zero_add, Nat.reduceAdd]
    rw [e1, e3]
    generalize vs 0 = u12_0
    generalize vs 2 = u12_2
    generalize vs 4 = u12_4
    generalize vs 5 = u12_5
    clear e1 e3 hC hn E12 hL vs L nb
    go_upto_region 11 with (fail)
    refine rg [ip b7_2 7, Fq.is (.int .i64 6), yF, yF, Fq.is (undef), Fq.is (undef), Fq.is (undef), Fq.is (undef), Fq.is (undef), Fq.is (undef), Fq.is (undef), Fq.is (undef), Fq.is (undef), Fq.is (undef), Fq.is (undef), Fq.is (undef), yF] N5 [] E (fun hp => ⟨?_, ?_, ?_, ?_, ?_, ?_, ?_, ?_, ?_, ?_, ?_, ?_, ?_, ?_, ?_, ?_, ?_, tv⟩) ?_
    ·exact qa b7_2 0 7 hp (sqo 7)
    ·exact wXc 7 hp (mq 0 rfl) (sqi 0)
    ·exact zAf (F := fun v _ => v = .int .i64 6) hp fo tv (sqi 1) (fun ρ w hc h => ⟨.bool false, by simp [execOp, go_sem, h, hc], rfl⟩)
    ·exact zAe hp fo tv (sqi 2)
    ·exact zAj hp fo rfl gqi (fun _ => rfl)
    ·exact zAj hp fo rfl gqi (fun _ => rfl)
    ·exact zAj hp fo rfl gqi (fun _ => rfl)
    ·exact zAj hp fo rfl gqi (fun _ => rfl)
    ·exact zAj hp fo rfl gqi (fun _ => rfl)
    ·exact zAj hp fo rfl gqi (fun _ => rfl)
    ·exact zAj hp fo rfl gqi (fun _ => rfl)
    ·exact zAj hp fo rfl gqi (fun _ => rfl)
    ·exact zAj hp fo rfl gqi (fun _ => rfl)
    ·exact zAj hp fo rfl gqi (fun _ => rfl)
    ·exact zAj hp fo rfl gqi (fun _ => rfl)
    ·exact zAj hp fo rfl gqi (fun _ => rfl)
    ·exact zAi (F := fun v _ => v = .bool false) (G := fun v _ => v = .bool false) hp fo tv (sqi 3) (zAl (fun _ => rfl)) (fun ρ w hc h h' => ⟨_, by simp [execOp, go_sem, h, h'], rfl⟩)
    intro L vs w13 nb hL hC hn E13
    have e0 := wXi hC 0
    have e1 := wXi hC 1
    have e2 := wXi hC 2
    have e3 := wXi hC 3
    have e4 := wXi hC 4
    have e5 := wXi hC 5
    have e6 := wXi hC 6
    have e7 := wXi hC 7
    have e8 := wXi hC 8
    have e9 := wXi hC 9
    have e10 := wXi hC 10
    have e11 := wXi hC 11
    have e12 := wXi hC 12
    have e13 := wXi hC 13
    have e14 := wXi hC 14
    have e15 := wXi hC 15
    have e16 := wXi hC 16
    have E := E13; simp only [LM, zAb] at E
    rw [zAa hL]
    simp only [SP, Nat.zero_add, Nat.reduceAdd]
    rw [e0, e1, e2, e3, e4, e5, e6, e7, e8, e9, e10, e11, e12, e13, e14, e15, e16]
    clear e0 e1 e2 e3 e4 e5 e6 e7 e8 e9 e10 e11 e12 e13 e14 e15 e16 hC hn E13 hL vs L nb
    go_upto_region 13 with (fail)
    refine rg [ip b7_2 7, Fq.is (.int .i64 6), yT] N5 [] E (fun hp => ⟨?_, ?_, ?_, tv⟩) ?_
    ·exact qa b7_2 0 7 hp (sqo 7)
    ·exact wXc 7 hp (mq 0 rfl) (sqi 0)
    ·exact zAf (F := fun v _ => v = .int .i64 6) hp fo tv (sqi 1) (fun ρ w hc h => ⟨.bool true, by simp [execOp, go_sem, h, hc], rfl⟩)
    intro L vs w14 nb hL hC hn E14
    have e0 := wXi hC 0
    have e1 := wXi hC 1
    have e2 := wXi hC 2
    have E := E14; simp only [LM, zAb] at E
    rw [zAa hL]
    simp only [SP, Nat.zero_add, Nat.reduceAdd]
    rw [e0, e1, e2]
    clear e0 e1 e2 hC hn E14 hL vs L nb
    go_upto_region 14 with (fail)
    refine rg [Fq.st [.n 0, .n 0, .v (.bool false), .n er1, .v (.int .i64 6)], Fq.any] [none, some (1, Fq.st [.n 0, .n 0, .v (.bool false), .n er1, .v (.int .i64 6)]), none, none, none] [] E (fun hp => ⟨?_, ?_, tv⟩) ?_
    ·exact lS 0 8 hp (mq 0 rfl) zF2 (sqo 7)
    ·exact sO 0 0 hp (mq 1 rfl) zA9 (sqo 6)
    intro L vs w15 nb hL hC hn E15
    have E := E15; simp only [LM, zAb] at E
    rw [zAa hL]
    simp only [SP, Nat.zero_add, Nat.reduceAdd]
    generalize vs 0 = u15_0
    clear  hC hn E15 hL vs L nb
    obtain rfl : (⟨0, 0, false⟩, er1, 6) = T := by rw [← HT.out, HX.out, zEj HD.out]
    clear HX HD HRO HSO HJ HST HR HS hw HX0 HQK HQI HBA HR32 WQ WQ3 WR WR3 WC WS WM WG HP HT HNB HA2 HOP HM0
    obtain ⟨_, _, hc0, hf0⟩ := zAu (E.box 1 rfl)
    have hP0 := hf0
    obtain ⟨r0_p0, r0_q0, _, rfl, _r0_n0, r0_p1, r0_q1, _, rfl, _r0_n1, _, rfl, _, r0_p3, r0_q3, _, rfl, _r0_n3, _, rfl, _, rfl⟩ := hf0
    have c0_0 := hc0 0 (by simp)
    have c0_1 := hc0 1 (by simp)
    have c0_2 := hc0 2 (by simp)
    have c0_3 := hc0 3 (by simp)
    have c0_4 := hc0 4 (by simp)
    have c0_5 := hc0 5 (by simp)
    have c0_6 := hc0 6 (by simp)
    have c0_7 := hc0 7 (by simp)
    simp only [List.getD_cons_zero, List.getD_cons_succ] at c0_0 c0_1 c0_2 c0_3 c0_4 c0_5 c0_6 c0_7
    clear hc0
    clear hM hA hB hn hPP BM2
    go_wp2
    refine bodyPost_ret (v := .agg #[r0_p0, r0_q0, r0_p1, r0_q1, .bool false, r0_p3, r0_q3, .int .i64 6]) ?_ rfl ⟨_, rfl, E.below, ⟨_, rfl, hP0⟩⟩
    simp [results, Tryz.results16, go_sem, c0_0, c0_1, c0_2, c0_3, c0_4, c0_5, c0_6, c0_7]
   ·replace he : er1 = 0 := by omega
    subst he
    go_upto_region 10 with (fail)
    refine rg [Fq.st [.n A, .n B, .n M], ip b7_2 0, Fq.st [.n R.x, .n R.y, .v (.bool R.i)], ip b7_2 0, Fq.st [.n R.x, .n R.y, .v (.bool R.i)], Fq.st [.n S.x, .n S.y, .v (.bool S.i), .n 0, .v (.int .i64 0)], Fq.any] [some (6, Fq.st [.n S.x, .n S.y, .v (.bool S.i), .n 0, .v (.int .i64 0)]), none, none, none, none] [] E (fun hp => ⟨?_, ?_, ?_, ?_, ?_, ?_, ?_, tv⟩) ?_
    ·exact lS 0 6 hp (mq 4 rfl) zAm (sqo 3)
    ·exact qa b7_2 0 0 hp (sqo 7)
    ·exact zBe (off := 0) (l := 5) hp fo tv (mq 0 rfl) (.inr rfl) rfl zAk rfl (sqi 1) (fun v w h => h)
    ·exact qa b7_2 0 0 hp (sqo 7)
    ·exact zBe (off := 0) (l := 5) hp fo tv (mq 0 rfl) (.inr rfl) rfl zAk rfl (sqi 3) (fun v w h => h)
    ·exact zBa (F := (Fq.st [.n A, .n B, .n M]).P) (G := (Fq.st [.n R.x, .n R.y, .v (.bool R.i)]).P) (F3 := (Fq.st [.n R.x, .n R.y, .v (.bool R.i)]).P) hp fo tv (zDy) (sqi 0) (sqi 2) (sqi 4) (fun v v' u w h h' g => zDz (P := R) (Q := R) h h' g hM.out hA.out (HRO.out.ab hM.out) (HRO.out.ab hM.out) HM0.out (zEi HS.out))
    ·exact sO 0 5 hp (mq 0 rfl) zA9 (sqo 7)
    intro L vs w16 nb hL hC hn E16
    have e1 := wXi hC 1
    have e3 := wXi hC 3
    have E := E16; simp only [LM, zAb] at E
    rw [zAa hL]
    simp only [SP, Nat.zero_add, Nat.reduceAdd]
    rw [e1, e3]
    generalize vs 0 = u16_0
    generalize vs 2 = u16_2
    generalize vs 4 = u16_4
    generalize vs 5 = u16_5
    clear e1 e3 hC hn E16 hL vs L nb
    by_cases hb : m.natAbs / 2 ^ i % 2 = 1
    ·have TB : Hid (bits .and .u32 y 1 = 1) := by show _ = _; rw [HBA.out, hb]; rfl
     obtain ⟨U, hU⟩ : ∃ U, U = sumP A M S P := ⟨_, rfl⟩
     obtain ⟨U, er2⟩ := U
     have HUO : Hid (U.Ok M) := by have := zDr (A := A) HSO.out HP.out; rw [← hU] at this; exact this
     have HU := hidd hU.symm
     have HXI : Hid (xjP A M P m.natAbs (zAp m) i = (U, er2)) := by show _ = _; rw [HST.out, HR.out, zCn, if_pos rfl, HS.out, if_pos rfl, decide_eq_true hb, if_pos rfl, HU.out]
     clear hU hb
     go_upto_region 11 with (fail)
     refine rg [ip b7_2 7, Fq.is (.int .i64 0), yT, yT, ip b2 1, Fq.is (.slice (some ⟨ad, off, none⟩) j1 cc1), Fq.is (.int .i64 (i : Int)), Fq.is (.int .i64 (q : Int)), Fq.is (.pointer (some ⟨ad, off + q, none⟩)), Fq.is (.int .u32 x0), Fq.is (.int .i64 (i : Int)), Fq.is (.int .i64 (r : Int)), Fq.is (.int .u64 (r : Int)), Fq.is (.int .u32 y), Fq.is (.int .u32 1), yT, yT] N5 [] E (fun hp => ⟨?_, ?_, ?_, ?_, ?_, ?_, ?_, ?_, ?_, ?_, ?_, ?_, ?_, ?_, ?_, ?_, ?_, tv⟩) ?_
     ·exact qa b7_2 0 7 hp (sqo 7)
     ·exact wXc 7 hp (mq 0 rfl) (sqi 0)
     ·exact zAf (F := fun v _ => v = .int .i64 0) hp fo tv (sqi 1) (fun ρ w hc h => ⟨.bool true, by simp [execOp, go_sem, h, hc], rfl⟩)
     ·exact zAe hp fo tv (sqi 2)
     ·exact zAv (b := b2) (off := 0) (off' := 1) hp fo gqi (sqo 4) (fun ρ w h => by simp [execOp, go_sem, h]) (fun _ => rfl)
     ·exact zFz (off := 1) (v := .slice (some ⟨ad, off, none⟩) j1 cc1) hp fo gqi (mq 3 rfl) (.inl rfl) (Nat.le_of_ble_eq_true rfl) (sqi 4) (fun us w hl h => ⟨zFr hl h, rfl⟩)
     ·exact zAe hp fo gqi (sqo 8)
     ·exact zAf (F := fun v _ => v = .int .i64 (i : Int)) hp fo gqi (sqi 6) (fun ρ w hc h => ⟨.int .i64 (q : Int), by simp [execOp, go_sem, h, hc, WQ.out, WQ3.out], rfl⟩)
     ·exact zAi (F := fun v _ => v = .slice (some ⟨ad, off, none⟩) j1 cc1) (G := fun v _ => v = .int .i64 (q : Int)) hp fo gqi (sqi 5) (sqi 7) (fun ρ w hc h h' => ⟨.pointer (some ⟨ad, off + q, none⟩), by simp [execOp, go_sem, h, h', hc, HQI.out], rfl⟩)
     ·exact zF1 (bx := b2) (x0 := x0) hp fo gqi (mq 3 rfl) (.inl rfl) (sqi 8) (fun us w hl h => zFs HQK.out HX0.out h) (fun _ => rfl)
     ·exact zAe hp fo gqi (sqo 8)
     ·exact zAf (F := fun v _ => v = .int .i64 (i : Int)) hp fo gqi (sqi 10) (fun ρ w hc h => ⟨.int .i64 (r : Int), by simp [execOp, go_sem, h, hc, WR.out], rfl⟩)
     ·exact zAf (F := fun v _ => v = .int .i64 (r : Int)) hp fo gqi (sqi 11) (fun ρ w hc h => ⟨.int .u64 (r : Int), by simp [execOp, go_sem, h, WC.out], rfl⟩)
     ·exact zAi (F := fun v _ => v = .int .u32 x0) (G := fun v _ => v = .int .u64 (r : Int)) hp fo gqi (sqi 9) (sqi 12) (fun ρ w hc h h' => ⟨.int .u32 y, by simp [execOp, go_sem, h, h', WG.out, WS.out, WM.out], rfl⟩)
     ·exact zAf (F := fun v _ => v = .int .u32 y) hp fo gqi (sqi 13) (fun ρ w hc h => ⟨.int .u32 1, by simp [execOp, go_sem, h, hc, TB.out], rfl⟩)
     ·exact zAf (F := fun v _ => v = .int .u32 1) hp fo gqi (sqi 14) (fun ρ w hc h => ⟨.bool true, by simp [execOp, go_sem, h, hc], rfl⟩)
     ·exact zAi (F := fun v _ => v = .bool true) (G := fun v _ => v = .bool true) hp fo tv (sqi 3) (sqi 15) (fun ρ w hc h h' => ⟨_, by simp [execOp, go_sem, h, h'], rfl⟩)
     intro L vs w17 nb hL hC hn E17
     have e0 := wXi hC 0
     have e1 := wXi hC 1
     have e2 := wXi hC 2
     have e3 := wXi hC 3
     have e4 := wXi hC 4
     have e5 := wXi hC 5
     have e6 := wXi hC 6
     have e7 := wXi hC 7
     have e8 := wXi hC 8
     have e9 := wXi hC 9
     have e10 := wXi hC 10
     have e11 := wXi hC 11
     have e12 := wXi hC 12
     have e13 := wXi hC 13
     have e14 := wXi hC 14
     have e15 := wXi hC 15
     have e16 := wXi hC 16
     have E := E17; simp only [LM, zAb] at E
     rw [zAa hL]
     simp only [SP, Nat.zero_add, Nat.reduceAdd]
     rw [e0, e1, e2, e3, e4, e5, e6, e7, e8, e9, e10, e11, e12, e13, e14, e15, e16]
     clear e0 e1 e2 e3 e4 e5 e6 e7 e8 e9 e10 e11 e12 e13 e14 e15 e16 hC hn E17 hL vs L nb
     clear TB HX0 HQK HQI HBA HR32 WQ WQ3 WR WR3 WC WS WM WG
     by_cases he : ¬ er2 = 0
     ·have HD := hidd he
      have HX : Hid (xjP A M P m.natAbs (zAp m) 0 = (U, er2)) := by
       show _ = _
       rw [zE4 (j := i) (by have := HJ.out; omega) (by rw [HXI.out]; exact he), HXI.out]
      clear he
      go_upto_region 12 with (fail)
      refine rg [Fq.st [.n A, .n B, .n M], ip b7_2 0, Fq.st [.n S.x, .n S.y, .v (.bool S.i)], Fq.st [.n P.x, .n P.y, .v (.bool P.i)], Fq.st [.n 0, .n 0, .v (.bool false), .n er2, .v (.int .i64 6)], Fq.any] [some (5, Fq.st [.n 0, .n 0, .v (.bool false), .n er2, .v (.int .i64 6)]), none, none, none, none] [] E (fun hp => ⟨?_, ?_, ?_, ?_, ?_, ?_, tv⟩) ?_
      ·exact lS 0 6 hp (mq 4 rfl) zAm (sqo 3)
      ·exact qa b7_2 0 0 hp (sqo 7)
      ·exact zBe (off := 0) (l := 5) hp fo tv (mq 0 rfl) (.inr rfl) rfl zAk rfl (sqi 1) (fun v w h => h)
      ·exact lS 0 5 hp (mq 2 rfl) zAk (sqo 5)
      ·exact zBa (F := (Fq.st [.n A, .n B, .n M]).P) (G := (Fq.st [.n S.x, .n S.y, .v (.bool S.i)]).P) (F3 := (Fq.st [.n P.x, .n P.y, .v (.bool P.i)]).P) hp fo tv (zDy) (sqi 0) (sqi 2) (sqi 3) (fun v v' u w h h' g => zDz (P := S) (Q := P) h h' g hM.out hA.out (HSO.out.ab hM.out) (HP.out.ab hM.out) HM0.out ((zEi HU.out).trans (zEj HD.out)))
      ·exact sO 0 4 hp (mq 0 rfl) zA9 (sqo 7)
      intro L vs w18 nb hL hC hn E18
      have e1 := wXi hC 1
      have E := E18; simp only [LM, zAb] at E
      rw [zAa hL]
      simp only [SP, Nat.zero_add, Nat.reduceAdd]
      rw [e1]
      generalize vs 0 = u18_0
      generalize vs 2 = u18_2
      generalize vs 3 = u18_3
      generalize vs 4 = u18_4
      clear e1 hC hn E18 hL vs L nb
      go_upto_region 13 with (fail)
      refine rg [ip b7_2 7, Fq.is (.int .i64 6), yT] N5 [] E (fun hp => ⟨?_, ?_, ?_, tv⟩) ?_
      ·exact qa b7_2 0 7 hp (sqo 7)
      ·exact wXc 7 hp (mq 0 rfl) (sqi 0)
      ·exact zAf (F := fun v _ => v = .int .i64 6) hp fo tv (sqi 1) (fun ρ w hc h => ⟨.bool true, by simp [execOp, go_sem, h, hc], rfl⟩)
      intro L vs w19 nb hL hC hn E19
      have e0 := wXi hC 0
      have e1 := wXi hC 1
      have e2 := wXi hC 2
      have E := E19; simp only [LM, zAb] at E
      rw [zAa hL]
      simp only [SP, Nat.zero_add, Nat.reduceAdd]
      rw [e0, e1, e2]
      clear e0 e1 e2 hC hn E19 hL vs L nb
      go_upto_region 14 with (fail)
      refine rg [Fq.st [.n 0, .n 0, .v (.bool false), .n er2, .v (.int .i64 6)], Fq.any] [none, some (1, Fq.st [.n 0, .n 0, .v (.bool false), .n er2, .v (.int .i64 6)]), none, none, none] [] E (fun hp => ⟨?_, ?_, tv⟩) ?_
      ·exact lS 0 8 hp (mq 0 rfl) zF2 (sqo 7)
      ·exact sO 0 0 hp (mq 1 rfl) zA9 (sqo 6)
      intro L vs w20 nb hL hC hn E20
      have E := E20; simp only [LM, zAb] at E
      rw [zAa hL]
      simp only [SP, Nat.zero_add, Nat.reduceAdd]
      generalize vs 0 = u20_0
      clear  hC hn E20 hL vs L nb
      obtain rfl : (⟨0, 0, false⟩, er2, 6) = T := by rw [← HT.out, HX.out, zEj HD.out]
      clear HX HXI HD HU HUO HRO HSO HJ HST HR HS hw HP HT HNB HA2 HOP HM0
      obtain ⟨_, _, hc0, hf0⟩ := zAu (E.box 1 rfl)
      have hP0 := hf0
      obtain ⟨r0_p0, r0_q0, _, rfl, _r0_n0, r0_p1, r0_q1, _, rfl, _r0_n1, _, rfl, _, r0_p3, r0_q3, _, rfl, _r0_n3, _, rfl, _, rfl⟩ := hf0
      have c0_0 := hc0 0 (by simp)
      have c0_1 := hc0 1 (by simp)
      have c0_2 := hc0 2 (by simp)
      have c0_3 := hc0 3 (by simp)
      have c0_4 := hc0 4 (by simp)
      have c0_5 := hc0 5 (by simp)
      have c0_6 := hc0 6 (by simp)
      have c0_7 := hc0 7 (by simp)
      simp only [List.getD_cons_zero, List.getD_cons_succ] at c0_0 c0_1 c0_2 c0_3 c0_4 c0_5 c0_6 c0_7
      clear hc0
      clear hM hA hB hn hPP BM2
      go_wp2
      refine bodyPost_ret (v := .agg #[r0_p0, r0_q0, r0_p1, r0_q1, .bool false, r0_p3, r0_q3, .int .i64 6]) ?_ rfl ⟨_, rfl, E.below, ⟨_, rfl, hP0⟩⟩
      simp [results, Tryz.results16, go_sem, c0_0, c0_1, c0_2, c0_3, c0_4, c0_5, c0_6, c0_7]
     ·replace he : er2 = 0 := by omega
      subst he
      go_upto_region 12 with (fail)
      refine rg [Fq.st [.n A, .n B, .n M], ip b7_2 0, Fq.st [.n S.x, .n S.y, .v (.bool S.i)], Fq.st [.n P.x, .n P.y, .v (.bool P.i)], Fq.st [.n U.x, .n U.y, .v (.bool U.i), .n 0, .v (.int .i64 0)], Fq.any] [some (5, Fq.st [.n U.x, .n U.y, .v (.bool U.i), .n 0, .v (.int .i64 0)]), none, none, none, none] [] E (fun hp => ⟨?_, ?_, ?_, ?_, ?_, ?_, tv⟩) ?_
      ·exact lS 0 6 hp (mq 4 rfl) zAm (sqo 3)
      ·exact qa b7_2 0 0 hp (sqo 7)
      ·exact zBe (off := 0) (l := 5) hp fo tv (mq 0 rfl) (.inr rfl) rfl zAk rfl (sqi 1) (fun v w h => h)
      ·exact lS 0 5 hp (mq 2 rfl) zAk (sqo 5)
      ·exact zBa (F := (Fq.st [.n A, .n B, .n M]).P) (G := (Fq.st [.n S.x, .n S.y, .v (.bool S.i)]).P) (F3 := (Fq.st [.n P.x, .n P.y, .v (.bool P.i)]).P) hp fo tv (zDy) (sqi 0) (sqi 2) (sqi 3) (fun v v' u w h h' g => zDz (P := S) (Q := P) h h' g hM.out hA.out (HSO.out.ab hM.out) (HP.out.ab hM.out) HM0.out (zEi HU.out))
      ·exact sO 0 4 hp (mq 0 rfl) zA9 (sqo 7)
      intro L vs w21 nb hL hC hn E21
      have e1 := wXi hC 1
      have E := E21; simp only [LM, zAb] at E
      rw [zAa hL]
      simp only [SP, Nat.zero_add, Nat.reduceAdd]
      rw [e1]
      generalize vs 0 = u21_0
      generalize vs 2 = u21_2
      generalize vs 3 = u21_3
      generalize vs 4 = u21_4
      clear e1 hC hn E21 hL vs L nb
      go_upto_region 13 with (fail)
      refine rg [ip b7_2 7, Fq.is (.int .i64 0), yF] N5 [] E (fun hp => ⟨?_, ?_, ?_, tv⟩) ?_
      ·exact qa b7_2 0 7 hp (sqo 7)
      ·exact wXc 7 hp (mq 0 rfl) (sqi 0)
      ·exact zAf (F := fun v _ => v = .int .i64 0) hp fo tv (sqi 1) (fun ρ w hc h => ⟨.bool false, by simp [execOp, go_sem, h, hc], rfl⟩)
      intro L vs w22 nb hL hC hn E22
      have e0 := wXi hC 0
      have e1 := wXi hC 1
      have e2 := wXi hC 2
      have E := E22; simp only [LM, zAb] at E
      rw [zAa hL]
      simp only [SP, Nat.zero_add, Nat.reduceAdd]
      rw [e0, e1, e2]
      clear e0 e1 e2 hC hn E22 hL vs L nb
      go_wp2
      go_roundw
      case rel => exact ⟨i, U, by have := HJ.out; omega, by first | go_num | (rw [hw]; go_num), HXI.out, E⟩
      case measure => first | exact zC5 | (rw [hw]; exact zC5)
    ·have TB : Hid (bits .and .u32 y 1 = 0) := by show _ = _; rw [HBA.out, show m.natAbs / 2 ^ i % 2 = 0 by omega]; rfl
     have HXI : Hid (xjP A M P m.natAbs (zAp m) i = (S, 0)) := by show _ = _; rw [HST.out, HR.out, zCn, if_pos rfl, HS.out, if_pos rfl, decide_eq_false hb]; rfl
     clear hb
     go_upto_region 11 with (fail)
     refine rg [ip b7_2 7, Fq.is (.int .i64 0), yT, yT, ip b2 1, Fq.is (.slice (some ⟨ad, off, none⟩) j1 cc1), Fq.is (.int .i64 (i : Int)), Fq.is (.int .i64 (q : Int)), Fq.is (.pointer (some ⟨ad, off + q, none⟩)), Fq.is (.int .u32 x0), Fq.is (.int .i64 (i : Int)), Fq.is (.int .i64 (r : Int)), Fq.is (.int .u64 (r : Int)), Fq.is (.int .u32 y), Fq.is (.int .u32 0), yF, yF] N5 [] E (fun hp => ⟨?_, ?_, ?_, ?_, ?_, ?_, ?_, ?_, ?_, ?_, ?_, ?_, ?_, ?_, ?_, ?_, ?_, tv⟩) ?_
     ·exact qa b7_2 0 7 hp (sqo 7)
     ·exact wXc 7 hp (mq 0 rfl) (sqi 0)
     ·exact zAf (F := fun v _ => v = .int .i64 0) hp fo tv (sqi 1) (fun ρ w hc h => ⟨.bool true, by simp [execOp, go_sem, h, hc], rfl⟩)
     ·exact zAe hp fo tv (sqi 2)
     ·exact zAv (b := b2) (off := 0) (off' := 1) hp fo gqi (sqo 4) (fun ρ w h => by simp [execOp, go_sem, h]) (fun _ => rfl)
     ·exact zFz (off := 1) (v := .slice (some ⟨ad, off, none⟩) j1 cc1) hp fo gqi (mq 3 rfl) (.inl rfl) (Nat.le_of_ble_eq_true rfl) (sqi 4) (fun us w hl h => ⟨zFr hl h, rfl⟩)
     ·exact zAe hp fo gqi (sqo 8)
     ·exact zAf (F := fun v _ => v = .int .i64 (i : Int)) hp fo gqi (sqi 6) (fun ρ w hc h => ⟨.int .i64 (q : Int), by simp [execOp, go_sem, h, hc, WQ.out, WQ3.out], rfl⟩)
     ·exact zAi (F := fun v _ => v = .slice (some ⟨ad, off, none⟩) j1 cc1) (G := fun v _ => v = .int .i64 (q : Int)) hp fo gqi (sqi 5) (sqi 7) (fun ρ w hc h h' => ⟨.pointer (some ⟨ad, off + q, none⟩), by simp [execOp, go_sem, h, h', hc, HQI.out], rfl⟩)
     ·exact zF1 (bx := b2) (x0 := x0) hp fo gqi (mq 3 rfl) (.inl rfl) (sqi 8) (fun us w hl h => zFs HQK.out HX0.out h) (fun _ => rfl)
     ·exact zAe hp fo gqi (sqo 8)
     ·exact zAf (F := fun v _ => v = .int .i64 (i : Int)) hp fo gqi (sqi 10) (fun ρ w hc h => ⟨.int .i64 (r : Int), by simp [execOp, go_sem, h, hc, WR.out], rfl⟩)
     ·exact zAf (F := fun v _ => v = .int .i64 (r : Int)) hp fo gqi (sqi 11) (fun ρ w hc h => ⟨.int .u64 (r : Int), by simp [execOp, go_sem, h, WC.out], rfl⟩)
     ·exact zAi (F := fun v _ => v = .int .u32 x0) (G := fun v _ => v = .int .u64 (r : Int)) hp fo gqi (sqi 9) (sqi 12) (fun ρ w hc h h' => ⟨.int .u32 y, by simp [execOp, go_sem, h, h', WG.out, WS.out, WM.out], rfl⟩)
     ·exact zAf (F := fun v _ => v = .int .u32 y) hp fo gqi (sqi 13) (fun ρ w hc h => ⟨.int .u32 0, by simp [execOp, go_sem, h, hc, TB.out], rfl⟩)
     ·exact zAf (F := fun v _ => v = .int .u32 0) hp fo gqi (sqi 14) (fun ρ w hc h => ⟨.bool false, by simp [execOp, go_sem, h, hc], rfl⟩)
     ·exact zAi (F := fun v _ => v = .bool true) (G := fun v _ => v = .bool false) hp fo tv (sqi 3) (sqi 15) (fun ρ w hc h h' => ⟨_, by simp [execOp, go_sem, h, h'], rfl⟩)
     intro L vs w23 nb hL hC hn E23
     have e0 := wXi hC 0
     have e1 := wXi hC 1
     have e2 := wXi hC 2
     have e3 := wXi hC 3
     have e4 := wXi hC 4
     have e5 := wXi hC 5
     have e6 := wXi hC 6
     have e7 := wXi hC 7
     have e8 := wXi hC 8
     have e9 := wXi hC 9
     have e10 := wXi hC 10
     have e11 := wXi hC 11
     have e12 := wXi hC 12
     have e13 := wXi hC 13
     have e14 := wXi hC 14
     have e15 := wXi hC 15
     have e16 := wXi hC 16
     have E := E23; simp only [LM, zAb] at E
     rw [zAa hL]
     simp only [SP, Nat.zero_add, Nat.reduceAdd]
     rw [e0, e1, e2, e3, e4, e5, e6, e7, e8, e9, e10, e11, e12, e13, e14, e15, e16]
     clear e0 e1 e2 e3 e4 e5 e6 e7 e8 e9 e10 e11 e12 e13 e14 e15 e16 hC hn E23 hL vs L nb
     clear TB HX0 HQK HQI HBA HR32 WQ WQ3 WR WR3 WC WS WM WG
     go_upto_region 13 with (fail)
     refine rg [ip b7_2 7, Fq.is (.int .i64 0), yF] N5 [] E (fun hp => ⟨?_, ?_, ?_, tv⟩) ?_
     ·exact qa b7_2 0 7 hp (sqo 7)
     ·exact wXc 7 hp (mq 0 rfl) (sqi 0)
     ·exact zAf (F := fun v _ => v = .int .i64 0) hp fo tv (sqi 1) (fun ρ w hc h => ⟨.bool false, by simp [execOp, go_sem, h, hc], rfl⟩)
     intro L vs w24 nb hL hC hn E24
     have e0 := wXi hC 0
     have e1 := wXi hC 1
     have e2 := wXi hC 2
     have E := E24; simp only [LM, zAb] at E
     rw [zAa hL]
     simp only [SP, Nat.zero_add, Nat.reduceAdd]
     rw [e0, e1, e2]
     clear e0 e1 e2 hC hn E24 hL vs L nb
     go_wp2
     go_roundw
     case rel => exact ⟨i, S, by have := HJ.out; omega, by first | go_num | (rw [hw]; go_num), HXI.out, E⟩
     case measure => first | exact zC5 | (rw [hw]; exact zC5)

set_option maxRecDepth 100000 in
set_option maxHeartbeats 4000000 in
theorem zN2 {w : World} {v v' u : Value} {A B M n : Int} {P0 P : Pt} {T : Pt × Int × Int} (h : (Fq.st [.n A, .n B, .n M]).P v w) (h' : Num w v' n) (g : (Fq.pt P0).P u w) (hM : ab M < pw 5) (hA : ab A < pw 5) (hB : ab B < pw 5) (hn : ab n < pw 20) (hPP : ab P0.x < pw 5 ∧ ab P0.y < pw 5) (hon : onB A B M P0.x P0.y P0.i = true) (hP : P.Ok M) (hnv : ∀ v v' w, (Fq.st [.n A, .n B, .n M]).P v w → (Fq.pt P0).P v' w → Calls Tryz.prog 34 #[v, v'] w fun e w' => ∃ v', e = .returned v' ∧ Below w.heap.size w w' ∧ (Fq.pt P).P v' w') (hs : n < 0) (ht : sumT (xjP A M P ((-n)).natAbs (zAp ((-n))) 0) = T) :
  Calls Tryz.prog 16 #[v, v', u] w fun e w' => ∃ v', e = .returned v' ∧ Below w.heap.size w w' ∧ (Fq.sm T).P v' w' := by
 replace hM := hidd hM
 replace hA := hidd hA
 replace hB := hidd hB
 replace hn := hidd hn
 replace hPP := hidd hPP
 have HON := hidd hon
 have HSG : Hid (cmpI n 0 < 0) := by exact cmpIqlt.2 hs
 have HP := hidd hP
 have HT := hidd ht
 have HM0 : Hid (0 < M) := by have := hP.1; have := hP.2.1; show 0 < M; omega
 have HNV := hidd hnv
 obtain ⟨m, hm⟩ : ∃ m, m = (-n) := ⟨_, rfl⟩
 have BM2 : Hid (ab m < pw 20) := by rw [hm]; exact zE8 hn.out
 have HMN := hidd hm
 rw [← hm] at HT
 clear hon hs hP ht hnv hm
 obtain ⟨_, rfl, hf0⟩ := h
 have hF0 := hf0
 obtain ⟨y0_p0, y0_q0, _, rfl, _y0_n0, y0_p1, y0_q1, _, rfl, _y0_n1, y0_p2, y0_q2, _, rfl, _y0_n2, rfl⟩ := hf0
 obtain ⟨n1, ao1, k1, c1, rfl⟩ := h'.parts
 obtain ⟨_, rfl, hf2⟩ := g
 have hF2 := hf2
 obtain ⟨y2_p0, y2_q0, _, rfl, _y2_n0, y2_p1, y2_q1, _, rfl, _y2_n1, _, rfl, _, rfl⟩ := hf2
 obtain ⟨w1, b1, hw1, hb1, hs1, E⟩ := gS w 34 hF0
 obtain ⟨w2, b2, hw2, hb2, hs2, E⟩ := fN E hs1 32 h'
 obtain ⟨w3, b3, hw3, hb3, hs3, E⟩ := fS E hs2 36 hF2
 obtain ⟨w4, b4, hw4, hb4, hs4, E⟩ := fO E hs3 44 zBt
 go_enter Tryz.func16, Tryz.ntmps16
 go_upto_region 1 with (fail)
 rw [← hw1]
 rw [← hw2]
 rw [← hw3]
 rw [← hw4]
 rw [← hb4]
 rw [← hb3]
 rw [← hb2]
 rw [← hb1]
 clear hw1 hw2 hw3 hw4 hb1 hb2 hb3 hb4 hs4 hs1 hs2 hs3
 refine rg [Fq.st [.n A, .n B, .n M], Fq.st [.n P0.x, .n P0.y, .v (.bool P0.i)], yT, yF] N4 [] E (fun hp => ⟨?_, ?_, ?_, ?_, tv⟩) ?_
 ·exact lS 0 6 hp (mq 3 rfl) zAm (sqo 3)
 ·exact lS 0 5 hp (mq 1 rfl) zAk (sqo 5)
 ·exact wXb (Fq.st [.n A, .n B, .n M]) (Fq.st [.n P0.x, .n P0.y, .v (.bool P0.i)]) hp zC0 (sqi 0) (sqi 1) fun v v' w h h' => zC2 h h' hM.out hA.out hB.out hPP.out.1 hPP.out.2 HON.out
 ·exact zAf (F := fun v _ => v = .bool true) hp fo tv (sqi 2) (fun ρ w _ h => ⟨.bool false, by simp [execOp, go_sem, h], rfl⟩)
 intro L vs w5 nb hL hC hn E5
 have e2 := wXi hC 2
 have e3 := wXi hC 3
 have E := E5; simp only [LM, zAb] at E
 rw [zAa hL]
 simp only [SP, Nat.zero_add, Nat.reduceAdd]
 rw [e2, e3]
 generalize vs 0 = u5_0
 generalize vs 1 = u5_1
 clear e2 e3 hC hn E5 hL vs L nb
 go_upto_region 3 with (fail)
 refine rg [Fq.num n, Fq.is (.int .i64 (cmpI n 0)), yT] N4 [] E (fun hp => ⟨?_, ?_, ?_, tv⟩) ?_
 ·exact lI 0 hp (mq 2 rfl) (sqo 4) fun us w hl h => zAh hl h
 ·exact wXa (Fq.num n) hp zCd (sqi 0) fun v w h => zCa h
 ·exact zAf (F := fun v _ => v = .int .i64 (cmpI n 0)) hp fo tv (sqi 1) (fun ρ w hc h => ⟨.bool true, by simp [execOp, go_sem, h, hc, HSG.out], rfl⟩)
 intro L vs w6 nb hL hC hn E6
 have e1 := wXi hC 1
 have e2 := wXi hC 2
 have E := E6; simp only [LM, zAb] at E
 rw [zAa hL]
 simp only [SP, Nat.zero_add, Nat.reduceAdd]
 rw [e1, e2]
 generalize vs 0 = u6_0
 clear e1 e2 hC hn E6 hL vs L nb
 go_upto_region 4 with (fail)
 refine rg [Fq.st [.n A, .n B, .n M], Fq.st [.n P0.x, .n P0.y, .v (.bool P0.i)], Fq.st [.n P.x, .n P.y, .v (.bool P.i)], Fq.any] [none, some (3, Fq.st [.n P.x, .n P.y, .v (.bool P.i)]), none, none] [] E (fun hp => ⟨?_, ?_, ?_, ?_, tv⟩) ?_
 ·exact lS 0 6 hp (mq 3 rfl) zAm (sqo 3)
 ·exact zBe (off := 0) (l := 5) hp fo tv (mq 1 rfl) (.inr rfl) rfl zAk rfl (sqo 5) (fun v w h => h)
 ·exact wXb (Fq.st [.n A, .n B, .n M]) (Fq.st [.n P0.x, .n P0.y, .v (.bool P0.i)]) hp zKj (sqi 0) (sqi 1) fun v v' w h h' => HNV.out _ _ _ h h'
 ·exact sO 0 2 hp (mq 1 rfl) zAy (sqo 5)
 intro L vs w7 nb hL hC hn E7
 have E := E7; simp only [LM, zAb] at E
 rw [zAa hL]
 simp only [SP, Nat.zero_add, Nat.reduceAdd]
 generalize vs 0 = u7_0
 generalize vs 1 = u7_1
 generalize vs 2 = u7_2
 clear  hC hn E7 hL vs L nb
 go_upto_region 5 with (fail)
 refine rg [Fq.num n, Fq.num m, Fq.any] [none, none, some (2, Fq.num m), none] [] E (fun hp => ⟨?_, ?_, ?_, tv⟩) ?_
 ·exact zAz (off := 0) hp fo tv (mq 2 rfl) (.inr rfl) (Nat.le_of_ble_eq_true rfl) (sqo 4) (fun us w hl h => zAh hl h)
 ·exact wXa (Fq.num n) hp zKf (sqi 0) fun v w h => (by rw [HMN.out]; exact exK (RNegV h) (zE8 hn.out) (by omega))
 ·exact sP 1 hp (mq 2 rfl) (sqo 4)
 intro L vs w8 nb hL hC hn E8
 have E := E8; simp only [LM, zAb] at E
 rw [zAa hL]
 simp only [SP, Nat.zero_add, Nat.reduceAdd]
 generalize vs 0 = u8_0
 generalize vs 1 = u8_1
 clear  hC hn E8 hL vs L nb
 go_upto_region 6 with (fail)
 refine rg [Fq.st [.n 0, .n 0, .v (.bool true)], Fq.st [.n 0, .n 0, .v (.bool true), .n 0, .v (.int .i64 0)], Fq.any, Fq.any] N4 [⟨2, 3, 8, Fq.st [.n 0, .n 0, .v (.bool false), .n 0, .v (.int .i64 0)], Fq.st [.n 0, .n 0, .v (.bool true), .n 0, .v (.int .i64 0)], none⟩] E (fun hp => ⟨?_, ?_, ?_, ?_, tv⟩) ?_
 ·exact zFy (u2 := true) hp fo tv (zAl (fun _ => rfl)) (fun v w h => h)
 ·exact zEx (z0_0 := 0) (z0_1 := 0) (u0_2 := true) hp fo tv (sqi 0) (fun v w h => h)
 ·exact aS hp (mq 0 rfl) zBt zEz
 ·exact sS 1 hp (mq 0 rfl) zA9
 intro L vs w9 nb hL hC hn E9
 have e2 : vs 2 = .pointer (some ⟨nb 2, 0, none⟩) := hn _ (mq 0 rfl)
 have E := E9; simp only [LM, zAb] at E
 rw [zAa hL]
 simp only [SP, Nat.zero_add, Nat.reduceAdd]
 rw [e2]
 generalize nb 2 = b9_2 at E ⊢
 generalize vs 0 = u9_0
 generalize vs 1 = u9_1
 clear e2 hC hn E9 hL vs L nb
 have HNB : Hid (zAp m ≤ 640) := zH1 BM2.out
 have TW : Hid (IntKind.i64.wrap (((zAp m : Nat) : Int) - 1) = ((zAp m : Nat) : Int) - 1) := IntWalk.i64_in _ (by have := HNB.out; omega)
 go_upto_region 7 with (fail)
 refine rg [Fq.num m, Fq.is (.int .i64 ((zAp m : Nat) : Int)), Fq.is (.int .i64 (((zAp m : Nat) : Int) - 1)), Fq.is (.int .i64 (((zAp m : Nat) : Int) - 1))] N5 [] E (fun hp => ⟨?_, ?_, ?_, ?_, tv⟩) ?_
 ·exact lI 0 hp (mq 3 rfl) (sqo 4) fun us w hl h => zAh hl h
 ·exact wXa (Fq.num m) hp zIt (sqi 0) fun v w h => zK2 h
 ·exact zAf (F := fun v _ => v = .int .i64 ((zAp m : Nat) : Int)) hp fo tv (sqi 1) (fun ρ w hc h => ⟨.int .i64 (((zAp m : Nat) : Int) - 1), by simp [execOp, go_sem, h, hc, TW.out], rfl⟩)
 ·exact zAo hp fo tv (sqi 2)
 intro L vs w10 nb hL hC hn E10
 have e1 := wXi hC 1
 have e2 := wXi hC 2
 have e3 := wXi hC 3
 have E := E10; simp only [LM, zAb] at E
 rw [zAa hL]
 simp only [SP, Nat.zero_add, Nat.reduceAdd]
 rw [e1, e2, e3]
 generalize vs 0 = u10_0
 clear e1 e2 e3 hC hn E10 hL vs L nb
 clear TW HSG HMN HNV HON
 obtain ⟨m1, d1, j1, cc1, ys, hop, hadr, E⟩ := Fr.openAt E 3 rfl
 replace E : Fr w [(b9_2, 8, Fq.st [.n 0, .n 0, .v (.bool true), .n 0, .v (.int .i64 0)]), (b4, 8, Fq.st [.n 0, .n 0, .v (.bool false), .n 0, .v (.int .i64 0)]), (b3, 5, Fq.st [.n P.x, .n P.y, .v (.bool P.i)]), (b2, 2, Fq.nraw m1 d1 j1 cc1 ys m), (b1, 6, Fq.st [.n A, .n B, .n M])] w10 := E
 have HA2 := hidd hadr
 have HOP := hidd hop
 clear hop hadr
 have HS := hidd E
 go_upto_region 8 with (fail)
 go_loopw [8] (fun vi W => ∃ (j : Nat) (R : Pt), j ≤ zAp m ∧ vi = .int .i64 ((j : Int) - 1) ∧ xjP A M P m.natAbs (zAp m) j = (R, 0) ∧ Fr w [(b9_2, 8, Fq.st [.n R.x, .n R.y, .v (.bool R.i), .n 0, .v (.int .i64 0)]), (b4, 8, Fq.st [.n 0, .n 0, .v (.bool false), .n 0, .v (.int .i64 0)]), (b3, 5, Fq.st [.n P.x, .n P.y, .v (.bool P.i)]), (b2, 2, Fq.nraw m1 d1 j1 cc1 ys m), (b1, 6, Fq.st [.n A, .n B, .n M])] W) (fun vi _ => (intOf vi + 1).toNat)
 case atStart => exact ⟨zAp m, ⟨0, 0, true⟩, Nat.le_refl _, rfl, by unfold xjP; rw [Nat.sub_self]; rfl, HS.out⟩
 case round =>
  obtain ⟨j, R, hj, rfl, hR, E⟩ := hrel
  clear HS
  by_cases h0 : j = 0
  ·subst h0
   have HR := hidd hR
   clear hj hR
   go_upto_region 8 with (fail)
   refine rg [Fq.is (.int .i64 (((0 : Nat) : Int) - 1)), yF] N5 [] E (fun hp => ⟨?_, ?_, tv⟩) ?_
   ·exact zAe hp fo tv (sqo 8)
   ·exact zAf (F := fun v _ => v = .int .i64 (((0 : Nat) : Int) - 1)) hp fo tv (sqi 0) (fun ρ w hc h => ⟨.bool false, by simp [execOp, go_sem, h, hc], rfl⟩)
   intro L vs w11 nb hL hC hn E11
   have e0 := wXi hC 0
   have e1 := wXi hC 1
   have E := E11; simp only [LM, zAb] at E
   rw [zAa hL]
   simp only [SP, Nat.zero_add, Nat.reduceAdd]
   rw [e0, e1]
   clear e0 e1 hC hn E11 hL vs L nb
   go_upto_region 15 with (fail)
   refine rg [Fq.st [.n R.x, .n R.y, .v (.bool R.i), .n 0, .v (.int .i64 0)], Fq.any] [none, some (1, Fq.st [.n R.x, .n R.y, .v (.bool R.i), .n 0, .v (.int .i64 0)]), none, none, none] [] E (fun hp => ⟨?_, ?_, tv⟩) ?_
   ·exact lS 0 8 hp (mq 0 rfl) zF2 (sqo 7)
   ·exact sO 0 0 hp (mq 1 rfl) zA9 (sqo 6)
   intro L vs w12 nb hL hC hn E12
   have E := E12; simp only [LM, zAb] at E
   rw [zAa hL]
   simp only [SP, Nat.zero_add, Nat.reduceAdd]
   generalize vs 0 = u12_0
   clear  hC hn E12 hL vs L nb
   obtain rfl : (R, 0, 0) = T := by rw [← HT.out, HR.out]; rfl
   clear HR HP HT HNB HA2 HOP HM0
   obtain ⟨_, _, hc0, hf0⟩ := zAu (E.box 1 rfl)
   have hP0 := hf0
   obtain ⟨r0_p0, r0_q0, _, rfl, _r0_n0, r0_p1, r0_q1, _, rfl, _r0_n1, _, rfl, _, r0_p3, r0_q3, _, rfl, _r0_n3, _, rfl, _, rfl⟩ := hf0
   have c0_0 := hc0 0 (by simp)
   have c0_1 := hc0 1 (by simp)
   have c0_2 := hc0 2 (by simp)
   have c0_3 := hc0 3 (by simp)
   have c0_4 := hc0 4 (by simp)
   have c0_5 := hc0 5 (by simp)
   have c0_6 := hc0 6 (by simp)
   have c0_7 := hc0 7 (by simp)
   simp only [List.getD_cons_zero, List.getD_cons_succ] at c0_0 c0_1 c0_2 c0_3 c0_4 c0_5 c0_6 c0_7
   clear hc0
   clear hM hA hB hn hPP BM2
   go_wp2
   refine bodyPost_ret (v := .agg #[r0_p0, r0_q0, r0_p1, r0_q1, .bool R.i, r0_p3, r0_q3, .int .i64 0]) ?_ rfl ⟨_, rfl, E.below, ⟨_, rfl, hP0⟩⟩
   simp [results, Tryz.results16, go_sem, c0_0, c0_1, c0_2, c0_3, c0_4, c0_5, c0_6, c0_7]
  ·obtain ⟨i, rfl⟩ : ∃ i, j = i + 1 := ⟨j - 1, by omega⟩
   have ei : (((i + 1 : Nat) : Int) - 1) = (i : Int) := by omega
   rw [ei]
   have HJ := hidd hj
   have HST := hidd (zIc (A := A) (M := M) (P := P) (N := m.natAbs) (L := zAp m) (j := i) (by omega))
   have HR := hidd hR
   have HRO : Hid (R.Ok M) := by have := xj_ok (A := A) (N := m.natAbs) (L := zAp m) HP.out (i + 1); rw [hR] at this; exact this
   have TL : Hid (0 ≤ (i : Int)) := by show 0 ≤ _; omega
   have hw : wrap64 ((i : Int) - 1) = (i : Int) - 1 := by have := HJ.out; have := HNB.out; simp only [wrap64]; omega
   obtain ⟨S, hS⟩ : ∃ S, S = sumP A M R R := ⟨_, rfl⟩
   obtain ⟨S, er1⟩ := S
   have HSO : Hid (S.Ok M) := by have := zDr (A := A) HRO.out HRO.out; rw [← hS] at this; exact this
   have HS := hidd hS.symm
   obtain ⟨hqk, x0, y, hx0, hy, hband⟩ := zJt HOP.out (i := i) (by omega)
   obtain ⟨ad, off, rfl⟩ := HA2.out (by omega)
   obtain ⟨q, hq⟩ : ∃ q, q = i / 32 := ⟨_, rfl⟩
   obtain ⟨r, hr⟩ : ∃ r, r = i % 32 := ⟨_, rfl⟩
   rw [← hq] at hqk hx0
   rw [← hr] at hy
   have HX0 := hidd hx0
   have HQK := hidd hqk
   have HQI : Hid ((q : Int) < j1) := by show (q : Int) < j1; omega
   have HBA := hidd hband
   have HR32 : Hid (r < 32) := by show r < 32; omega
   have WQ : Hid (Int.tdiv (i : Int) 32 = (q : Int)) := by show _ = _; rw [Int.tdiv_eq_ediv_of_nonneg (by omega)]; omega
   have WQ3 : Hid (IntKind.i64.wrap (q : Int) = q) := IntWalk.i64_in _ (by have := HJ.out; have := HNB.out; omega)
   have WR : Hid (Int.tmod (i : Int) 32 = (r : Int)) := by show _ = _; rw [Int.tmod_eq_emod_of_nonneg (by omega)]; omega
   have WR3 : Hid (IntKind.i64.wrap (r : Int) = r) := IntWalk.i64_in _ (by omega)
   have WC : Hid (IntKind.u64.wrap (r : Int) = r) := by show _ = _; simp [IntKind.wrap, IntKind.bits, IntKind.signed]; omega
   have WS : Hid (x0 / 2 ^ r = y) := hy
   have WM : Hid (min r 32 = r) := by show _ = _; omega
   have WG : Hid ((0 : Int) ≤ r) := by show (0 : Int) ≤ _; omega
   clear ei hR hS h0 hj hq hr hqk hx0 hy hband
   go_upto_region 8 with (fail)
   refine rg [Fq.is (.int .i64 (i : Int)), yT] N5 [] E (fun hp => ⟨?_, ?_, tv⟩) ?_
   ·exact zAe hp fo tv (sqo 8)
   ·exact zAf (F := fun v _ => v = .int .i64 (i : Int)) hp fo tv (sqi 0) (fun ρ w hc h => ⟨.bool true, by simp [execOp, go_sem, h, hc, TL.out], rfl⟩)
   intro L vs w13 nb hL hC hn E13
   have e0 := wXi hC 0
   have e1 := wXi hC 1
   have E := E13; simp only [LM, zAb] at E
   rw [zAa hL]
   simp only [SP, Nat.zero_add, Nat.reduceAdd]
   rw [e0, e1]
   clear e0 e1 hC hn E13 hL vs L nb
   clear TL
   by_cases he : ¬ er1 = 0
   ·have HD := hidd he
    have HX : Hid (xjP A M P m.natAbs (zAp m) 0 = (S, er1)) := by
     have h9 : xjP A M P m.natAbs (zAp m) i = (S, er1) := by rw [HST.out, HR.out, zCn, if_pos rfl, HS.out, if_neg he]
     show _ = _
     rw [zE4 (j := i) (by have := HJ.out; omega) (by rw [h9]; exact he), h9]
    clear he
    go_upto_region 10 with (fail)
    refine rg [Fq.st [.n A, .n B, .n M], ip b9_2 0, Fq.st [.n R.x, .n R.y, .v (.bool R.i)], ip b9_2 0, Fq.st [.n R.x, .n R.y, .v (.bool R.i)], Fq.st [.n 0, .n 0, .v (.bool false), .n er1, .v (.int .i64 6)], Fq.any] [some (6, Fq.st [.n 0, .n 0, .v (.bool false), .n er1, .v (.int .i64 6)]), none, none, none, none] [] E (fun hp => ⟨?_, ?_, ?_, ?_, ?_, ?_, ?_, tv⟩) ?_
    ·exact lS 0 6 hp (mq 4 rfl) zAm (sqo 3)
    ·exact qa b9_2 0 0 hp (sqo 7)
    ·exact zBe (off := 0) (l := 5) hp fo tv (mq 0 rfl) (.inr rfl) rfl zAk rfl (sqi 1) (fun v w h => h)
    ·exact qa b9_2 0 0 hp (sqo 7)
    ·exact zBe (off := 0) (l := 5) hp fo tv (mq 0 rfl) (.inr rfl) rfl zAk rfl (sqi 3) (fun v w h => h)
    ·exact zBa (F := (Fq.st [.n A, .n B, .n M]).P) (G := (Fq.st [.n R.x, .n R.y, .v (.bool R.i)]).P) (F3 := (Fq.st [.n R.x, .n R.y, .v (.bool R.i)]).P) hp fo tv (zDy) (sqi 0) (sqi 2) (sqi 4) (fun v v' u w h h' g => zDz (P := R) (Q := R) h h' g hM.out hA.out (HRO.out.ab hM.out) (HRO.out.ab hM.out) HM0.out ((zEi HS.out).trans (zEj HD.out)))
    ·exact sO 0 5 hp (mq 0 rfl) zA9 (sqo 7)
    intro L vs w14 nb hL hC hn E14
    have e1 := wXi hC 1
    have e3 := wXi hC 3
    have E := E14; simp only [LM, zAb] at E
    rw [zAa hL]
    simp only [SP, Nat.zero_add, Nat.reduceAdd]
    rw [e1, e3]
    generalize vs 0 = u14_0
    generalize vs 2 = u14_2
    generalize vs 4 = u14_4
    generalize vs 5 = u14_5
    clear e1 e3 hC hn E14 hL vs L nb
    go_upto_region 11 with (fail)
    refine rg [ip b9_2 7, Fq.is (.int .i64 6), yF, yF, Fq.is (undef), Fq.is (undef), Fq.is (undef), Fq.is (undef), Fq.is (undef), Fq.is (undef), Fq.is (undef), Fq.is (undef), Fq.is (undef), Fq.is (undef), Fq.is (undef), Fq.is (undef), yF] N5 [] E (fun hp => ⟨?_, ?_, ?_, ?_, ?_, ?_, ?_, ?_, ?_, ?_, ?_, ?_, ?_, ?_, ?_, ?_, ?_, tv⟩) ?_
    ·exact qa b9_2 0 7 hp (sqo 7)
    ·exact wXc 7 hp (mq 0 rfl) (sqi 0)
    ·exact zAf (F := fun v _ => v = .int .i64 6) hp fo tv (sqi 1) (fun ρ w hc h => ⟨.bool false, by simp [execOp, go_sem, h, hc], rfl⟩)
    ·exact zAe hp fo tv (sqi 2)
    ·exact zAj hp fo rfl gqi (fun _ => rfl)
    ·exact zAj hp fo rfl gqi (fun _ => rfl)
    ·exact zAj hp fo rfl gqi (fun _ => rfl)
    ·exact zAj hp fo rfl gqi (fun _ => rfl)
    ·exact zAj hp fo rfl gqi (fun _ => rfl)
    ·exact zAj hp fo rfl gqi (fun _ => rfl)
    ·exact zAj hp fo rfl gqi (fun _ => rfl)
    ·exact zAj hp fo rfl gqi (fun _ => rfl)
    ·exact zAj hp fo rfl gqi (fun _ => rfl)
    ·exact zAj hp fo rfl gqi (fun _ => rfl)
    ·exact zAj hp fo rfl gqi (fun _ => rfl)
    ·exact zAj hp fo rfl gqi (fun _ => rfl)
    ·exact zAi (F := fun v _ => v = .bool false) (G := fun v _ => v = .bool false) hp fo tv (sqi 3) (zAl (fun _ => rfl)) (fun ρ w hc h h' => ⟨_, by simp [execOp, go_sem, h, h'], rfl⟩)
    intro L vs w15 nb hL hC hn E15
    have e0 := wXi hC 0
    have e1 := wXi hC 1
    have e2 := wXi hC 2
    have e3 := wXi hC 3
    have e4 := wXi hC 4
    have e5 := wXi hC 5
    have e6 := wXi hC 6
    have e7 := wXi hC 7
    have e8 := wXi hC 8
    have e9 := wXi hC 9
    have e10 := wXi hC 10
    have e11 := wXi hC 11
    have e12 := wXi hC 12
    have e13 := wXi hC 13
    have e14 := wXi hC 14
    have e15 := wXi hC 15
    have e16 := wXi hC 16
    have E := E15; simp only [LM, zAb] at E
    rw [zAa hL]
    simp only [SP, Nat.zero_add, Nat.reduceAdd]
    rw [e0, e1, e2, e3, e4, e5, e6, e7, e8, e9, e10, e11, e12, e13, e14, e15, e16]
    clear e0 e1 e2 e3 e4 e5 e6 e7 e8 e9 e10 e11 e12 e13 e14 e15 e16 hC hn E15 hL vs L nb
    go_upto_region 13 with (fail)
    refine rg [ip b9_2 7, Fq.is (.int .i64 6), yT] N5 [] E (fun hp => ⟨?_, ?_, ?_, tv⟩) ?_
    ·exact qa b9_2 0 7 hp (sqo 7)
    ·exact wXc 7 hp (mq 0 rfl) (sqi 0)
    ·exact zAf (F := fun v _ => v = .int .i64 6) hp fo tv (sqi 1) (fun ρ w hc h => ⟨.bool true, by simp [execOp, go_sem, h, hc], rfl⟩)
    intro L vs w16 nb hL hC hn E16
    have e0 := wXi hC 0
    have e1 := wXi hC 1
    have e2 := wXi hC 2
    have E := E16; simp only [LM, zAb] at E
    rw [zAa hL]
    simp only [SP, Nat.zero_add, Nat.reduceAdd]
    rw [e0, e1, e2]
    clear e0 e1 e2 hC hn E16 hL vs L nb
    go_upto_region 14 with (fail)
    refine rg [Fq.st [.n 0, .n 0, .v (.bool false), .n er1, .v (.int .i64 6)], Fq.any] [none, some (1, Fq.st [.n 0, .n 0, .v (.bool false), .n er1, .v (.int .i64 6)]), none, none, none] [] E (fun hp => ⟨?_, ?_, tv⟩) ?_
    ·exact lS 0 8 hp (mq 0 rfl) zF2 (sqo 7)
    ·exact sO 0 0 hp (mq 1 rfl) zA9 (sqo 6)
    intro L vs w17 nb hL hC hn E17
    have E := E17; simp only [LM, zAb] at E
    rw [zAa hL]
    simp only [SP, Nat.zero_add, Nat.reduceAdd]
    generalize vs 0 = u17_0
    clear  hC hn E17 hL vs L nb
    obtain rfl : (⟨0, 0, false⟩, er1, 6) = T := by rw [← HT.out, HX.out, zEj HD.out]
    clear HX HD HRO HSO HJ HST HR HS hw HX0 HQK HQI HBA HR32 WQ WQ3 WR WR3 WC WS WM WG HP HT HNB HA2 HOP HM0
    obtain ⟨_, _, hc0, hf0⟩ := zAu (E.box 1 rfl)
    have hP0 := hf0
    obtain ⟨r0_p0, r0_q0, _, rfl, _r0_n0, r0_p1, r0_q1, _, rfl, _r0_n1, _, rfl, _, r0_p3, r0_q3, _, rfl, _r0_n3, _, rfl, _, rfl⟩ := hf0
    have c0_0 := hc0 0 (by simp)
    have c0_1 := hc0 1 (by simp)
    have c0_2 := hc0 2 (by simp)
    have c0_3 := hc0 3 (by simp)
    have c0_4 := hc0 4 (by simp)
    have c0_5 := hc0 5 (by simp)
    have c0_6 := hc0 6 (by simp)
    have c0_7 := hc0 7 (by simp)
    simp only [List.getD_cons_zero, List.getD_cons_succ] at c0_0 c0_1 c0_2 c0_3 c0_4 c0_5 c0_6 c0_7
    clear hc0
    clear hM hA hB hn hPP BM2
    go_wp2
    refine bodyPost_ret (v := .agg #[r0_p0, r0_q0, r0_p1, r0_q1, .bool false, r0_p3, r0_q3, .int .i64 6]) ?_ rfl ⟨_, rfl, E.below, ⟨_, rfl, hP0⟩⟩
    simp [results, Tryz.results16, go_sem, c0_0, c0_1, c0_2, c0_3, c0_4, c0_5, c0_6, c0_7]
   ·replace he : er1 = 0 := by omega
    subst he
    go_upto_region 10 with (fail)
    refine rg [Fq.st [.n A, .n B, .n M], ip b9_2 0, Fq.st [.n R.x, .n R.y, .v (.bool R.i)], ip b9_2 0, Fq.st [.n R.x, .n R.y, .v (.bool R.i)], Fq.st [.n S.x, .n S.y, .v (.bool S.i), .n 0, .v (.int .i64 0)], Fq.any] [some (6, Fq.st [.n S.x, .n S.y, .v (.bool S.i), .n 0, .v (.int .i64 0)]), none, none, none, none] [] E (fun hp => ⟨?_, ?_, ?_, ?_, ?_, ?_, ?_, tv⟩) ?_
    ·exact lS 0 6 hp (mq 4 rfl) zAm (sqo 3)
    ·exact qa b9_2 0 0 hp (sqo 7)
    ·exact zBe (off := 0) (l := 5) hp fo tv (mq 0 rfl) (.inr rfl) rfl zAk rfl (sqi 1) (fun v w h => h)
    ·exact qa b9_2 0 0 hp (sqo 7)
    ·exact zBe (off := 0) (l := 5) hp fo tv (mq 0 rfl) (.inr rfl) rfl zAk rfl (sqi 3) (fun v w h => h)
    ·exact zBa (F := (Fq.st [.n A, .n B, .n M]).P) (G := (Fq.st [.n R.x, .n R.y, .v (.bool R.i)]).P) (F3 := (Fq.st [.n R.x, .n R.y, .v (.bool R.i)]).P) hp fo tv (zDy) (sqi 0) (sqi 2) (sqi 4) (fun v v' u w h h' g => zDz (P := R) (Q := R) h h' g hM.out hA.out (HRO.out.ab hM.out) (HRO.out.ab hM.out) HM0.out (zEi HS.out))
    ·exact sO 0 5 hp (mq 0 rfl) zA9 (sqo 7)
    intro L vs w18 nb hL hC hn E18
    have e1 := wXi hC 1
    have e3 := wXi hC 3
    have E := E18; simp only [LM, zAb] at E
    rw [zAa hL]
    simp only [SP, Nat.zero_add, Nat.reduceAdd]
    rw [e1, e3]
    generalize vs 0 = u18_0
    generalize vs 2 = u18_2
    generalize vs 4 = u18_4
    generalize vs 5 = u18_5
    clear e1 e3 hC hn E18 hL vs L nb
    by_cases hb : m.natAbs / 2 ^ i % 2 = 1
    ·have TB : Hid (bits .and .u32 y 1 = 1) := by show _ = _; rw [HBA.out, hb]; rfl
     obtain ⟨U, hU⟩ : ∃ U, U = sumP A M S P := ⟨_, rfl⟩
     obtain ⟨U, er2⟩ := U
     have HUO : Hid (U.Ok M) := by have := zDr (A := A) HSO.out HP.out; rw [← hU] at this; exact this
     have HU := hidd hU.symm
     have HXI : Hid (xjP A M P m.natAbs (zAp m) i = (U, er2)) := by show _ = _; rw [HST.out, HR.out, zCn, if_pos rfl, HS.out, if_pos rfl, decide_eq_true hb, if_pos rfl, HU.out]
     clear hU hb
     go_upto_region 11 with (fail)
     refine rg [ip b9_2 7, Fq.is (.int .i64 0), yT, yT, ip b2 1, Fq.is (.slice (some ⟨ad, off, none⟩) j1 cc1), Fq.is (.int .i64 (i : Int)), Fq.is (.int .i64 (q : Int)), Fq.is (.pointer (some ⟨ad, off + q, none⟩)), Fq.is (.int .u32 x0), Fq.is (.int .i64 (i : Int)), Fq.is (.int .i64 (r : Int)), Fq.is (.int .u64 (r : Int)), Fq.is (.int .u32 y), Fq.is (.int .u32 1), yT, yT] N5 [] E (fun hp => ⟨?_, ?_, ?_, ?_, ?_, ?_, ?_, ?_, ?_, ?_, ?_, ?_, ?_, ?_, ?_, ?_, ?_, tv⟩) ?_
     ·exact qa b9_2 0 7 hp (sqo 7)
     ·exact wXc 7 hp (mq 0 rfl) (sqi 0)
     ·exact zAf (F := fun v _ => v = .int .i64 0) hp fo tv (sqi 1) (fun ρ w hc h => ⟨.bool true, by simp [execOp, go_sem, h, hc], rfl⟩)
     ·exact zAe hp fo tv (sqi 2)
     ·exact zAv (b := b2) (off := 0) (off' := 1) hp fo gqi (sqo 4) (fun ρ w h => by simp [execOp, go_sem, h]) (fun _ => rfl)
     ·exact zFz (off := 1) (v := .slice (some ⟨ad, off, none⟩) j1 cc1) hp fo gqi (mq 3 rfl) (.inl rfl) (Nat.le_of_ble_eq_true rfl) (sqi 4) (fun us w hl h => ⟨zFr hl h, rfl⟩)
     ·exact zAe hp fo gqi (sqo 8)
     ·exact zAf (F := fun v _ => v = .int .i64 (i : Int)) hp fo gqi (sqi 6) (fun ρ w hc h => ⟨.int .i64 (q : Int), by simp [execOp, go_sem, h, hc, WQ.out, WQ3.out], rfl⟩)
     ·exact zAi (F := fun v _ => v = .slice (some ⟨ad, off, none⟩) j1 cc1) (G := fun v _ => v = .int .i64 (q : Int)) hp fo gqi (sqi 5) (sqi 7) (fun ρ w hc h h' => ⟨.pointer (some ⟨ad, off + q, none⟩), by simp [execOp, go_sem, h, h', hc, HQI.out], rfl⟩)
     ·exact zF1 (bx := b2) (x0 := x0) hp fo gqi (mq 3 rfl) (.inl rfl) (sqi 8) (fun us w hl h => zFs HQK.out HX0.out h) (fun _ => rfl)
     ·exact zAe hp fo gqi (sqo 8)
     ·exact zAf (F := fun v _ => v = .int .i64 (i : Int)) hp fo gqi (sqi 10) (fun ρ w hc h => ⟨.int .i64 (r : Int), by simp [execOp, go_sem, h, hc, WR.out], rfl⟩)
     ·exact zAf (F := fun v _ => v = .int .i64 (r : Int)) hp fo gqi (sqi 11) (fun ρ w hc h => ⟨.int .u64 (r : Int), by simp [execOp, go_sem, h, WC.out], rfl⟩)
     ·exact zAi (F := fun v _ => v = .int .u32 x0) (G := fun v _ => v = .int .u64 (r : Int)) hp fo gqi (sqi 9) (sqi 12) (fun ρ w hc h h' => ⟨.int .u32 y, by simp [execOp, go_sem, h, h', WG.out, WS.out, WM.out], rfl⟩)
     ·exact zAf (F := fun v _ => v = .int .u32 y) hp fo gqi (sqi 13) (fun ρ w hc h => ⟨.int .u32 1, by simp [execOp, go_sem, h, hc, TB.out], rfl⟩)
     ·exact zAf (F := fun v _ => v = .int .u32 1) hp fo gqi (sqi 14) (fun ρ w hc h => ⟨.bool true, by simp [execOp, go_sem, h, hc], rfl⟩)
     ·exact zAi (F := fun v _ => v = .bool true) (G := fun v _ => v = .bool true) hp fo tv (sqi 3) (sqi 15) (fun ρ w hc h h' => ⟨_, by simp [execOp, go_sem, h, h'], rfl⟩)
     intro L vs w19 nb hL hC hn E19
     have e0 := wXi hC 0
     have e1 := wXi hC 1
     have e2 := wXi hC 2
     have e3 := wXi hC 3
     have e4 := wXi hC 4
     have e5 := wXi hC 5
     have e6 := wXi hC 6
     have e7 := wXi hC 7
     have e8 := wXi hC 8
     have e9 := wXi hC 9
     have e10 := wXi hC 10
     have e11 := wXi hC 11
     have e12 := wXi hC 12
     have e13 := wXi hC 13
     have e14 := wXi hC 14
     have e15 := wXi hC 15
     have e16 := wXi hC 16
     have E := E19; simp only [LM, zAb] at E
     rw [zAa hL]
     simp only [SP, Nat.zero_add, Nat.reduceAdd]
     rw [e0, e1, e2, e3, e4, e5, e6, e7, e8, e9, e10, e11, e12, e13, e14, e15, e16]
     clear e0 e1 e2 e3 e4 e5 e6 e7 e8 e9 e10 e11 e12 e13 e14 e15 e16 hC hn E19 hL vs L nb
     clear TB HX0 HQK HQI HBA HR32 WQ WQ3 WR WR3 WC WS WM WG
     by_cases he : ¬ er2 = 0
     ·have HD := hidd he
      have HX : Hid (xjP A M P m.natAbs (zAp m) 0 = (U, er2)) := by
       show _ = _
       rw [zE4 (j := i) (by have := HJ.out; omega) (by rw [HXI.out]; exact he), HXI.out]
      clear he
      go_upto_region 12 with (fail)
      refine rg [Fq.st [.n A, .n B, .n M], ip b9_2 0, Fq.st [.n S.x, .n S.y, .v (.bool S.i)], Fq.st [.n P.x, .n P.y, .v (.bool P.i)], Fq.st [.n 0, .n 0, .v (.bool false), .n er2, .v (.int .i64 6)], Fq.any] [some (5, Fq.st [.n 0, .n 0, .v (.bool false), .n er2, .v (.int .i64 6)]), none, none, none, none] [] E (fun hp => ⟨?_, ?_, ?_, ?_, ?_, ?_, tv⟩) ?_
      ·exact lS 0 6 hp (mq 4 rfl) zAm (sqo 3)
      ·exact qa b9_2 0 0 hp (sqo 7)
      ·exact zBe (off := 0) (l := 5) hp fo tv (mq 0 rfl) (.inr rfl) rfl zAk rfl (sqi 1) (fun v w h => h)
      ·exact lS 0 5 hp (mq 2 rfl) zAk (sqo 5)
      ·exact zBa (F := (Fq.st [.n A, .n B, .n M]).P) (G := (Fq.st [.n S.x, .n S.y, .v (.bool S.i)]).P) (F3 := (Fq.st [.n P.x, .n P.y, .v (.bool P.i)]).P) hp fo tv (zDy) (sqi 0) (sqi 2) (sqi 3) (fun v v' u w h h' g => zDz (P := S) (Q := P) h h' g hM.out hA.out (HSO.out.ab hM.out) (HP.out.ab hM.out) HM0.out ((zEi HU.out).trans (zEj HD.out)))
      ·exact sO 0 4 hp (mq 0 rfl) zA9 (sqo 7)
      intro L vs w20 nb hL hC hn E20
      have e1 := wXi hC 1
      have E := E20; simp only [LM, zAb] at E
      rw [zAa hL]
      simp only [SP, Nat.zero_add, Nat.reduceAdd]
      rw [e1]
      generalize vs 0 = u20_0
      generalize vs 2 = u20_2
      generalize vs 3 = u20_3
      generalize vs 4 = u20_4
      clear e1 hC hn E20 hL vs L nb
      go_upto_region 13 with (fail)
      refine rg [ip b9_2 7, Fq.is (.int .i64 6), yT] N5 [] E (fun hp => ⟨?_, ?_, ?_, tv⟩) ?_
      ·exact qa b9_2 0 7 hp (sqo 7)
      ·exact wXc 7 hp (mq 0 rfl) (sqi 0)
      ·exact zAf (F := fun v _ => v = .int .i64 6) hp fo tv (sqi 1) (fun ρ w hc h => ⟨.bool true, by simp [execOp, go_sem, h, hc], rfl⟩)
      intro L vs w21 nb hL hC hn E21
      have e0 := wXi hC 0
      have e1 := wXi hC 1
      have e2 := wXi hC 2
      have E := E21; simp only [LM, zAb] at E
      rw [zAa hL]
      simp only [SP, Nat.zero_add, Nat.reduceAdd]
      rw [e0, e1, e2]
      clear e0 e1 e2 hC hn E21 hL vs L nb
      go_upto_region 14 with (fail)
      refine rg [Fq.st [.n 0, .n 0, .v (.bool false), .n er2, .v (.int .i64 6)], Fq.any] [none, some (1, Fq.st [.n 0, .n 0, .v (.bool false), .n er2, .v (.int .i64 6)]), none, none, none] [] E (fun hp => ⟨?_, ?_, tv⟩) ?_
      ·exact lS 0 8 hp (mq 0 rfl) zF2 (sqo 7)
      ·exact sO 0 0 hp (mq 1 rfl) zA9 (sqo 6)
      intro L vs w22 nb hL hC hn E22
      have E := E22; simp only [LM, zAb] at E
      rw [zAa hL]
      simp only [SP, Nat.zero_add, Nat.reduceAdd]
      generalize vs 0 = u22_0
      clear  hC hn E22 hL vs L nb
      obtain rfl : (⟨0, 0, false⟩, er2, 6) = T := by rw [← HT.out, HX.out, zEj HD.out]
      clear HX HXI HD HU HUO HRO HSO HJ HST HR HS hw HP HT HNB HA2 HOP HM0
      obtain ⟨_, _, hc0, hf0⟩ := zAu (E.box 1 rfl)
      have hP0 := hf0
      obtain ⟨r0_p0, r0_q0, _, rfl, _r0_n0, r0_p1, r0_q1, _, rfl, _r0_n1, _, rfl, _, r0_p3, r0_q3, _, rfl, _r0_n3, _, rfl, _, rfl⟩ := hf0
      have c0_0 := hc0 0 (by simp)
      have c0_1 := hc0 1 (by simp)
      have c0_2 := hc0 2 (by simp)
      have c0_3 := hc0 3 (by simp)
      have c0_4 := hc0 4 (by simp)
      have c0_5 := hc0 5 (by simp)
      have c0_6 := hc0 6 (by simp)
      have c0_7 := hc0 7 (by simp)
      simp only [List.getD_cons_zero, List.getD_cons_succ] at c0_0 c0_1 c0_2 c0_3 c0_4 c0_5 c0_6 c0_7
      clear hc0
      clear hM hA hB hn hPP BM2
      go_wp2
      refine bodyPost_ret (v := .agg #[r0_p0, r0_q0, r0_p1, r0_q1, .bool false, r0_p3, r0_q3, .int .i64 6]) ?_ rfl ⟨_, rfl, E.below, ⟨_, rfl, hP0⟩⟩
      simp [results, Tryz.results16, go_sem, c0_0, c0_1, c0_2, c0_3, c0_4, c0_5, c0_6, c0_7]
     ·replace he : er2 = 0 := by omega
      subst he
      go_upto_region 12 with (fail)
      refine rg [Fq.st [.n A, .n B, .n M], ip b9_2 0, Fq.st [.n S.x, .n S.y, .v (.bool S.i)], Fq.st [.n P.x, .n P.y, .v (.bool P.i)], Fq.st [.n U.x, .n U.y, .v (.bool U.i), .n 0, .v (.int .i64 0)], Fq.any] [some (5, Fq.st [.n U.x, .n U.y, .v (.bool U.i), .n 0, .v (.int .i64 0)]), none, none, none, none] [] E (fun hp => ⟨?_, ?_, ?_, ?_, ?_, ?_, tv⟩) ?_
      ·exact lS 0 6 hp (mq 4 rfl) zAm (sqo 3)
      ·exact qa b9_2 0 0 hp (sqo 7)
      ·exact zBe (off := 0) (l := 5) hp fo tv (mq 0 rfl) (.inr rfl) rfl zAk rfl (sqi 1) (fun v w h => h)
      ·exact lS 0 5 hp (mq 2 rfl) zAk (sqo 5)
      ·exact zBa (F := (Fq.st [.n A, .n B, .n M]).P) (G := (Fq.st [.n S.x, .n S.y, .v (.bool S.i)]).P) (F3 := (Fq.st [.n P.x, .n P.y, .v (.bool P.i)]).P) hp fo tv (zDy) (sqi 0) (sqi 2) (sqi 3) (fun v v' u w h h' g => zDz (P := S) (Q := P) h h' g hM.out hA.out (HSO.out.ab hM.out) (HP.out.ab hM.out) HM0.out (zEi HU.out))
      ·exact sO 0 4 hp (mq 0 rfl) zA9 (sqo 7)
      intro L vs w23 nb hL hC hn E23
      have e1 := wXi hC 1
      have E := E23; simp only [LM, zAb] at E
      rw [zAa hL]
      simp only [SP, Nat.zero_add, Nat.reduceAdd]
      rw [e1]
      generalize vs 0 = u23_0
      generalize vs 2 = u23_2
      generalize vs 3 = u23_3
      generalize vs 4 = u23_4
      clear e1 hC hn E23 hL vs L nb
      go_upto_region 13 with (fail)
      refine rg [ip b9_2 7, Fq.is (.int .i64 0), yF] N5 [] E (fun hp => ⟨?_, ?_, ?_, tv⟩) ?_
      ·exact qa b9_2 0 7 hp (sqo 7)
      ·exact wXc 7 hp (mq 0 rfl) (sqi 0)
      ·exact zAf (F := fun v _ => v = .int .i64 0) hp fo tv (sqi 1) (fun ρ w hc h => ⟨.bool false, by simp [execOp, go_sem, h, hc], rfl⟩)
      intro L vs w24 nb hL hC hn E24
      have e0 := wXi hC 0
      have e1 := wXi hC 1
      have e2 := wXi hC 2
      have E := E24; simp only [LM, zAb] at E
      rw [zAa hL]
      simp only [SP, Nat.zero_add, Nat.reduceAdd]
      rw [e0, e1, e2]
      clear e0 e1 e2 hC hn E24 hL vs L nb
      go_wp2
      go_roundw
      case rel => exact ⟨i, U, by have := HJ.out; omega, by first | go_num | (rw [hw]; go_num), HXI.out, E⟩
      case measure => first | exact zC5 | (rw [hw]; exact zC5)
    ·have TB : Hid (bits .and .u32 y 1 = 0) := by show _ = _; rw [HBA.out, show m.natAbs / 2 ^ i % 2 = 0 by omega]; rfl
     have HXI : Hid (xjP A M P m.natAbs (zAp m) i = (S, 0)) := by show _ = _; rw [HST.out, HR.out, zCn, if_pos rfl, HS.out, if_pos rfl, decide_eq_false hb]; rfl
     clear hb
     go_upto_region 11 with (fail)
     refine rg [ip b9_2 7, Fq.is (.int .i64 0), yT, yT, ip b2 1, Fq.is (.slice (some ⟨ad, off, none⟩) j1 cc1), Fq.is (.int .i64 (i : Int)), Fq.is (.int .i64 (q : Int)), Fq.is (.pointer (some ⟨ad, off + q, none⟩)), Fq.is (.int .u32 x0), Fq.is (.int .i64 (i : Int)), Fq.is (.int .i64 (r : Int)), Fq.is (.int .u64 (r : Int)), Fq.is (.int .u32 y), Fq.is (.int .u32 0), yF, yF] N5 [] E (fun hp => ⟨?_, ?_, ?_, ?_, ?_, ?_, ?_, ?_, ?_, ?_, ?_, ?_, ?_, ?_, ?_, ?_, ?_, tv⟩) ?_
     ·exact qa b9_2 0 7 hp (sqo 7)
     ·exact wXc 7 hp (mq 0 rfl) (sqi 0)
     ·exact zAf (F := fun v _ => v = .int .i64 0) hp fo tv (sqi 1) (fun ρ w hc h => ⟨.bool true, by simp [execOp, go_sem, h, hc], rfl⟩)
     ·exact zAe hp fo tv (sqi 2)
     ·exact zAv (b := b2) (off := 0) (off' := 1) hp fo gqi (sqo 4) (fun ρ w h => by simp [execOp, go_sem, h]) (fun _ => rfl)
     ·exact zFz (off := 1) (v := .slice (some ⟨ad, off, none⟩) j1 cc1) hp fo gqi (mq 3 rfl) (.inl rfl) (Nat.le_of_ble_eq_true rfl) (sqi 4) (fun us w hl h => ⟨zFr hl h, rfl⟩)
     ·exact zAe hp fo gqi (sqo 8)
     ·exact zAf (F := fun v _ => v = .int .i64 (i : Int)) hp fo gqi (sqi 6) (fun ρ w hc h => ⟨.int .i64 (q : Int), by simp [execOp, go_sem, h, hc, WQ.out, WQ3.out], rfl⟩)
     ·exact zAi (F := fun v _ => v = .slice (some ⟨ad, off, none⟩) j1 cc1) (G := fun v _ => v = .int .i64 (q : Int)) hp fo gqi (sqi 5) (sqi 7) (fun ρ w hc h h' => ⟨.pointer (some ⟨ad, off + q, none⟩), by simp [execOp, go_sem, h, h', hc, HQI.out], rfl⟩)
     ·exact zF1 (bx := b2) (x0 := x0) hp fo gqi (mq 3 rfl) (.inl rfl) (sqi 8) (fun us w hl h => zFs HQK.out HX0.out h) (fun _ => rfl)
     ·exact zAe hp fo gqi (sqo 8)
     ·exact zAf (F := fun v _ => v = .int .i64 (i : Int)) hp fo gqi (sqi 10) (fun ρ w hc h => ⟨.int .i64 (r : Int), by simp [execOp, go_sem, h, hc, WR.out], rfl⟩)
     ·exact zAf (F := fun v _ => v = .int .i64 (r : Int)) hp fo gqi (sqi 11) (fun ρ w hc h => ⟨.int .u64 (r : Int), by simp [execOp, go_sem, h, WC.out], rfl⟩)
     ·exact zAi (F := fun v _ => v = .int .u32 x0) (G := fun v _ => v = .int .u64 (r : Int)) hp fo gqi (sqi 9) (sqi 12) (fun ρ w hc h h' => ⟨.int .u32 y, by simp [execOp, go_sem, h, h', WG.out, WS.out, WM.out], rfl⟩)
     ·exact zAf (F := fun v _ => v = .int .u32 y) hp fo gqi (sqi 13) (fun ρ w hc h => ⟨.int .u32 0, by simp [execOp, go_sem, h, hc, TB.out], rfl⟩)
     ·exact zAf (F := fun v _ => v = .int .u32 0) hp fo gqi (sqi 14) (fun ρ w hc h => ⟨.bool false, by simp [execOp, go_sem, h, hc], rfl⟩)
     ·exact zAi (F := fun v _ => v = .bool true) (G := fun v _ => v = .bool false) hp fo tv (sqi 3) (sqi 15) (fun ρ w hc h h' => ⟨_, by simp [execOp, go_sem, h, h'], rfl⟩)
     intro L vs w25 nb hL hC hn E25
     have e0 := wXi hC 0
     have e1 := wXi hC 1
     have e2 := wXi hC 2
     have e3 := wXi hC 3
     have e4 := wXi hC 4
     have e5 := wXi hC 5
     have e6 := wXi hC 6
     have e7 := wXi hC 7
     have e8 := wXi hC 8
     have e9 := wXi hC 9
     have e10 := wXi hC 10
     have e11 := wXi hC 11
     have e12 := wXi hC 12
     have e13 := wXi hC 13
     have e14 := wXi hC 14
     have e15 := wXi hC 15
     have e16 := wXi hC 16
     have E := E25; simp only [LM, zAb] at E
     rw [zAa hL]
     simp only [SP, Nat.zero_add, Nat.reduceAdd]
     rw [e0, e1, e2, e3, e4, e5, e6, e7, e8, e9, e10, e11, e12, e13, e14, e15, e16]
     clear e0 e1 e2 e3 e4 e5 e6 e7 e8 e9 e10 e11 e12 e13 e14 e15 e16 hC hn E25 hL vs L nb
     clear TB HX0 HQK HQI HBA HR32 WQ WQ3 WR WR3 WC WS WM WG
     go_upto_region 13 with (fail)
     refine rg [ip b9_2 7, Fq.is (.int .i64 0), yF] N5 [] E (fun hp => ⟨?_, ?_, ?_, tv⟩) ?_
     ·exact qa b9_2 0 7 hp (sqo 7)
     ·exact wXc 7 hp (mq 0 rfl) (sqi 0)
     ·exact zAf (F := fun v _ => v = .int .i64 0) hp fo tv (sqi 1) (fun ρ w hc h => ⟨.bool false, by simp [execOp, go_sem, h, hc], rfl⟩)
     intro L vs w26 nb hL hC hn E26
     have e0 := wXi hC 0
     have e1 := wXi hC 1
     have e2 := wXi hC 2
     have E := E26; simp only [LM, zAb] at E
     rw [zAa hL]
     simp only [SP, Nat.zero_add, Nat.reduceAdd]
     rw [e0, e1, e2]
     clear e0 e1 e2 hC hn E26 hL vs L nb
     go_wp2
     go_roundw
     case rel => exact ⟨i, S, by have := HJ.out; omega, by first | go_num | (rw [hw]; go_num), HXI.out, E⟩
     case measure => first | exact zC5 | (rw [hw]; exact zC5)

set_option maxRecDepth 100000 in
set_option maxHeartbeats 4000000 in
theorem zN3 {w : World} {v v' u : Value} {A B M n : Int} {P0 : Pt} (h : (Fq.st [.n A, .n B, .n M]).P v w) (h' : Num w v' n) (g : (Fq.pt P0).P u w) (hM : ab M < pw 5) (hA : ab A < pw 5) (hB : ab B < pw 5) (hPP : ab P0.x < pw 5 ∧ ab P0.y < pw 5) (hon : onB A B M P0.x P0.y P0.i = false) :
  Calls Tryz.prog 16 #[v, v', u] w fun e w' => ∃ v', e = .returned v' ∧ Below w.heap.size w w' ∧ (Fq.sm (⟨0, 0, false⟩, 0, 1)).P v' w' := by
 replace hM := hidd hM
 replace hA := hidd hA
 replace hB := hidd hB
 replace hPP := hidd hPP
 have HON := hidd hon
 clear hon
 obtain ⟨_, rfl, hf0⟩ := h
 have hF0 := hf0
 obtain ⟨y0_p0, y0_q0, _, rfl, _y0_n0, y0_p1, y0_q1, _, rfl, _y0_n1, y0_p2, y0_q2, _, rfl, _y0_n2, rfl⟩ := hf0
 obtain ⟨n1, ao1, k1, c1, rfl⟩ := h'.parts
 obtain ⟨_, rfl, hf2⟩ := g
 have hF2 := hf2
 obtain ⟨y2_p0, y2_q0, _, rfl, _y2_n0, y2_p1, y2_q1, _, rfl, _y2_n1, _, rfl, _, rfl⟩ := hf2
 obtain ⟨w1, b1, hw1, hb1, hs1, E⟩ := gS w 34 hF0
 obtain ⟨w2, b2, hw2, hb2, hs2, E⟩ := fN E hs1 32 h'
 obtain ⟨w3, b3, hw3, hb3, hs3, E⟩ := fS E hs2 36 hF2
 obtain ⟨w4, b4, hw4, hb4, hs4, E⟩ := fO E hs3 44 zBt
 go_enter Tryz.func16, Tryz.ntmps16
 go_upto_region 1 with (fail)
 rw [← hw1]
 rw [← hw2]
 rw [← hw3]
 rw [← hw4]
 rw [← hb4]
 rw [← hb3]
 rw [← hb2]
 rw [← hb1]
 clear hw1 hw2 hw3 hw4 hb1 hb2 hb3 hb4 hs4 hs1 hs2 hs3
 refine rg [Fq.st [.n A, .n B, .n M], Fq.st [.n P0.x, .n P0.y, .v (.bool P0.i)], yF, yT] N4 [] E (fun hp => ⟨?_, ?_, ?_, ?_, tv⟩) ?_
 ·exact lS 0 6 hp (mq 3 rfl) zAm (sqo 3)
 ·exact lS 0 5 hp (mq 1 rfl) zAk (sqo 5)
 ·exact wXb (Fq.st [.n A, .n B, .n M]) (Fq.st [.n P0.x, .n P0.y, .v (.bool P0.i)]) hp zC0 (sqi 0) (sqi 1) fun v v' w h h' => zC2 h h' hM.out hA.out hB.out hPP.out.1 hPP.out.2 HON.out
 ·exact zAf (F := fun v _ => v = .bool false) hp fo tv (sqi 2) (fun ρ w _ h => ⟨.bool true, by simp [execOp, go_sem, h], rfl⟩)
 intro L vs w5 nb hL hC hn E5
 have e2 := wXi hC 2
 have e3 := wXi hC 3
 have E := E5; simp only [LM, zAb] at E
 rw [zAa hL]
 simp only [SP, Nat.zero_add, Nat.reduceAdd]
 rw [e2, e3]
 generalize vs 0 = u5_0
 generalize vs 1 = u5_1
 clear e2 e3 hC hn E5 hL vs L nb
 go_upto_region 2 with (fail)
 refine rg [Fq.st [.n 0, .n 0, .v (.bool false), .n 0, .v (.int .i64 1)], Fq.any] [some (1, Fq.st [.n 0, .n 0, .v (.bool false), .n 0, .v (.int .i64 1)]), none, none, none] [] E (fun hp => ⟨?_, ?_, tv⟩) ?_
 ·exact zJj (u2 := 1) hp fo tv (zAl (fun _ => rfl)) (fun v w h => h)
 ·exact sO 0 0 hp (mq 0 rfl) zA9 (sqo 6)
 intro L vs w6 nb hL hC hn E6
 have E := E6; simp only [LM, zAb] at E
 rw [zAa hL]
 simp only [SP, Nat.zero_add, Nat.reduceAdd]
 generalize vs 0 = u6_0
 clear  hC hn E6 hL vs L nb
 clear HON
 obtain ⟨_, _, hc0, hf0⟩ := zAu (E.box 0 rfl)
 have hP0 := hf0
 obtain ⟨r0_p0, r0_q0, _, rfl, _r0_n0, r0_p1, r0_q1, _, rfl, _r0_n1, _, rfl, _, r0_p3, r0_q3, _, rfl, _r0_n3, _, rfl, _, rfl⟩ := hf0
 have c0_0 := hc0 0 (by simp)
 have c0_1 := hc0 1 (by simp)
 have c0_2 := hc0 2 (by simp)
 have c0_3 := hc0 3 (by simp)
 have c0_4 := hc0 4 (by simp)
 have c0_5 := hc0 5 (by simp)
 have c0_6 := hc0 6 (by simp)
 have c0_7 := hc0 7 (by simp)
 simp only [List.getD_cons_zero, List.getD_cons_succ] at c0_0 c0_1 c0_2 c0_3 c0_4 c0_5 c0_6 c0_7
 clear hc0
 clear hM hA hB hPP
 go_wp2
 refine bodyPost_ret (v := .agg #[r0_p0, r0_q0, r0_p1, r0_q1, .bool false, r0_p3, r0_q3, .int .i64 1]) ?_ rfl ⟨_, rfl, E.below, ⟨_, rfl, hP0⟩⟩
 simp [results, Tryz.results16, go_sem, c0_0, c0_1, c0_2, c0_3, c0_4, c0_5, c0_6, c0_7]

theorem zK3 {w : World} {v v' u : Value} {A B M n : Int} {P : Pt} (h : (Fq.st [.n A, .n B, .n M]).P v w) (h' : Num w v' n) (g : (Fq.pt P).P u w) (hM : ab M < pw 5) (hA : ab A < pw 5) (hB : ab B < pw 5) (hn : ab n < pw 20) (hP : ab P.x < pw 5 ∧ ab P.y < pw 5) {R : Pt × Int × Int} (hR : zDb A B M n P = R) :
  Calls Tryz.prog 16 #[v, v', u] w fun e w' => ∃ v', e = .returned v' ∧ Below w.heap.size w w' ∧ (Fq.sm R).P v' w' := by
 subst hR
 by_cases hon : onB A B M P.x P.y P.i = true
 ·have hok := (zCt hon).1
  rw [show zDb A B M n P = sumT (zCj A M P n) from if_pos hon]
  unfold zCj
  by_cases hs : n < 0
  ·rw [if_pos hs]
   refine zN2 h h' g hM hA hB hn hP hon (zJb hok) ?_ hs (by rw [Int.natAbs_neg, nbits_neg])
   intro v v' w h h'
   obtain ⟨x, y, i⟩ := P
   cases i with
   | true =>
    have h0 : x = 0 ∧ y = 0 := by
     simp only [onB, ptB, Bool.and_eq_true, decide_eq_true_eq, if_true] at hon
     exact hon.2
    obtain ⟨rfl, rfl⟩ := h0
    exact exRNegI h h' hM hP.1 hP.2
   | false => exact exRNegF h h' hM hP.1 hP.2 (by have := (zCt hon).2; omega)
  ·rw [if_neg hs]
   exact zN4 h h' g hM hA hB hn hP hon hok rfl hs rfl
 ·rw [show zDb A B M n P = (⟨0, 0, false⟩, 0, 1) from if_neg hon]
  exact zN3 h h' g hM hA hB hP (zCr hon)

def Fq.odd5 (n1 : Bool) (a1 : Option Addr) (k1 c1 : Nat) (xs1 : List Int) (n2 : Bool) (a2 : Option Addr) (k2 c2 : Nat) (xs2 : List Int) (n3 : Bool) (a3 : Option Addr) (k3 c3 : Nat) (xs3 : List Int) (n4 : Bool) (a4 : Option Addr) (k4 c4 : Nat) (xs4 : List Int) (n5 : Bool) (a5 : Option Addr) (k5 c5 : Nat) (xs5 : List Int) (i5 : Bool) : Fq :=
 ⟨fun v w => v = .agg #[.bool n1, .slice a1 k1 c1, .bool n2, .slice a2 k2 c2, .bool n3, .slice a3 k3 c3, .bool n4, .slice a4 k4 c4, .bool n5, .slice a5 k5 c5, .bool i5] ∧ Sl w a1 k1 c1 xs1 ∧ Sl w a2 k2 c2 xs2 ∧ Sl w a3 k3 c3 xs3 ∧ Sl w a4 k4 c4 xs4 ∧ Sl w a5 k5 c5 xs5,
  fun h hb => ⟨h.1, h.2.1.mono hb, h.2.2.1.mono hb, h.2.2.2.1.mono hb, h.2.2.2.2.1.mono hb, h.2.2.2.2.2.mono hb⟩, fun h ha ht hl => ⟨h.1, h.2.1.putAt ha ht hl, h.2.2.1.putAt ha ht hl, h.2.2.2.1.putAt ha ht hl, h.2.2.2.2.1.putAt ha ht hl, h.2.2.2.2.2.putAt ha ht hl⟩⟩
theorem tame_odd5 (n1 : Bool) (a1 : Option Addr) (k1 c1 : Nat) (n2 : Bool) (a2 : Option Addr) (k2 c2 : Nat) (n3 : Bool) (a3 : Option Addr) (k3 c3 : Nat) (n4 : Bool) (a4 : Option Addr) (k4 c4 : Nat) (n5 : Bool) (a5 : Option Addr) (k5 c5 : Nat) (i5 : Bool) : Tame [.bool n1, .slice a1 k1 c1, .bool n2, .slice a2 k2 c2, .bool n3, .slice a3 k3 c3, .bool n4, .slice a4 k4 c4, .bool n5, .slice a5 k5 c5, .bool i5] := by
 intro u hu q e
 simp at hu
 rcases hu with rfl | rfl | rfl | rfl | rfl | rfl | rfl | rfl | rfl | rfl | rfl <;> cases e
section
variable {n1 n2 n3 n4 n5 : Bool} {a1 a2 a3 a4 a5 : Option Addr} {k1 c1 k2 c2 k3 c3 k4 c4 k5 c5 : Nat} {xs1 xs2 xs3 xs4 xs5 : List Int} {i5 : Bool}
theorem zFt {us : List Value} {w : World} (hl : us.length = 11) (h : (Fq.odd5 n1 a1 k1 c1 xs1 n2 a2 k2 c2 xs2 n3 a3 k3 c3 xs3 n4 a4 k4 c4 xs4 n5 a5 k5 c5 xs5 i5).P (.agg us.toArray) w) : us = [.bool n1, .slice a1 k1 c1, .bool n2, .slice a2 k2 c2, .bool n3, .slice a3 k3 c3, .bool n4, .slice a4 k4 c4, .bool n5, .slice a5 k5 c5, .bool i5] ∧ Sl w a1 k1 c1 xs1 ∧ Sl w a2 k2 c2 xs2 ∧ Sl w a3 k3 c3 xs3 ∧ Sl w a4 k4 c4 xs4 ∧ Sl w a5 k5 c5 xs5 := by
 obtain ⟨e, h1⟩ := h
 injection e with e
 exact ⟨by simpa using congrArg Array.toList e, h1⟩
theorem ld_odd0 {us : List Value} {w : World} (hl : us.length = 11) (h : (Fq.odd5 n1 a1 k1 c1 xs1 n2 a2 k2 c2 xs2 n3 a3 k3 c3 xs3 n4 a4 k4 c4 xs4 n5 a5 k5 c5 xs5 i5).P (.agg us.toArray) w) : (Fq.raw n1 a1 k1 c1 xs1).P (.agg #[us.getD 0 undef, us.getD (0 + 1) undef]) w := by
 obtain ⟨rfl, h1, h2, h3, h4, h5⟩ := zFt hl h
 exact ⟨rfl, h1⟩
theorem ld_odd1 {us : List Value} {w : World} (hl : us.length = 11) (h : (Fq.odd5 n1 a1 k1 c1 xs1 n2 a2 k2 c2 xs2 n3 a3 k3 c3 xs3 n4 a4 k4 c4 xs4 n5 a5 k5 c5 xs5 i5).P (.agg us.toArray) w) : (Fq.raw n2 a2 k2 c2 xs2).P (.agg #[us.getD 2 undef, us.getD (2 + 1) undef]) w := by
 obtain ⟨rfl, h1, h2, h3, h4, h5⟩ := zFt hl h
 exact ⟨rfl, h2⟩
theorem ld_odd2 {us : List Value} {w : World} (hl : us.length = 11) (h : (Fq.odd5 n1 a1 k1 c1 xs1 n2 a2 k2 c2 xs2 n3 a3 k3 c3 xs3 n4 a4 k4 c4 xs4 n5 a5 k5 c5 xs5 i5).P (.agg us.toArray) w) : (Fq.raw n3 a3 k3 c3 xs3).P (.agg #[us.getD 4 undef, us.getD (4 + 1) undef]) w := by
 obtain ⟨rfl, h1, h2, h3, h4, h5⟩ := zFt hl h
 exact ⟨rfl, h3⟩
theorem ld_odd3 {us : List Value} {w : World} (hl : us.length = 11) (h : (Fq.odd5 n1 a1 k1 c1 xs1 n2 a2 k2 c2 xs2 n3 a3 k3 c3 xs3 n4 a4 k4 c4 xs4 n5 a5 k5 c5 xs5 i5).P (.agg us.toArray) w) : (Fq.raw n4 a4 k4 c4 xs4).P (.agg #[us.getD 6 undef, us.getD (6 + 1) undef]) w := by
 obtain ⟨rfl, h1, h2, h3, h4, h5⟩ := zFt hl h
 exact ⟨rfl, h4⟩
theorem ld_odd4 {us : List Value} {w : World} (hl : us.length = 11) (h : (Fq.odd5 n1 a1 k1 c1 xs1 n2 a2 k2 c2 xs2 n3 a3 k3 c3 xs3 n4 a4 k4 c4 xs4 n5 a5 k5 c5 xs5 i5).P (.agg us.toArray) w) : (Fq.raw n5 a5 k5 c5 xs5).P (.agg #[us.getD 8 undef, us.getD (8 + 1) undef]) w := by
 obtain ⟨rfl, h1, h2, h3, h4, h5⟩ := zFt hl h
 exact ⟨rfl, h5⟩
theorem ld_odd5 {us : List Value} {w : World} (hl : us.length = 11) (h : (Fq.odd5 n1 a1 k1 c1 xs1 n2 a2 k2 c2 xs2 n3 a3 k3 c3 xs3 n4 a4 k4 c4 xs4 n5 a5 k5 c5 xs5 i5).P (.agg us.toArray) w) : us.getD 10 undef = .bool i5 := by
 obtain ⟨rfl, _⟩ := zFt hl h
 rfl
end
section
variable {os : List Oper} {Q : Exit → Act → World → Prop} {a : Act} {p : Pq} {B B0 : Nat} {w0 : World}
variable {i s : Nat} {d : Option Tmp} {ty : TypeId} {ps : String} {af : Array Edge} {gd : Option (Nat × Bool)}
theorem zOp {o : Ob} {off : Nat} {x : Operand} {v : Value} (hp : p.Ok B B0) (hF : p.Free i) (hg : GdQ os a p B B0 w0 af gd) (ho : o ∈ p.old) (hk : o.F1 = o.F0 ∨ zBo os 9 o.k i = true) (hoff : off + 1 ≤ o.m)
  (hx : SrcQ os a p B B0 w0 af x fun u _ => u = .pointer (some ⟨o.b, off, none⟩)) (hC : ∀ (us : List Value) (w : World), us.length = o.m → o.F0.P (.agg us.toArray) w → us.getD off undef = v ∧ (p.c i).P v w) :
  zAr os Q a p B B0 w0 i { dst := d, op := .load 4 x, type := ty, pos := ps, after := af, guard := gd } := by
 refine zBk hp hF hg fun L vs w hG hL hc hd => ?_
 obtain ⟨us, hl, h0, hat, ht, hP⟩ := zDm ho hk hG hL hc
 have e := hx L vs w hG hd
 have c0 := (hat off (by omega)).1
 obtain ⟨e2, hP2⟩ := hC us w hl hP
 refine ⟨_, ?_, hP2⟩
 rw [e2] at c0
 generalize (lay os.toArray L vs os.toArray.size a).eval = ρ at e
 simp [execOp, go_sem, e, c0]
end
theorem zOw : rowB 24 5 = true := by kernel_rfl
def negS (A B M : Int) (P : Pt) : Pt × Int := if onB A B M P.x P.y P.i = true then (oppP M P, 0) else (⟨0, 0, false⟩, 1)
theorem exNegS {w : World} {v v' : Value} {A B M : Int} {P : Pt} (h : (Fq.st [.n A, .n B, .n M]).P v w) (h' : (Fq.pt P).P v' w) (hM : ab M < pw 5) (hA : ab A < pw 5) (hB : ab B < pw 5) (hP : ab P.x < pw 5 ∧ ab P.y < pw 5) {R : Pt × Int} (hR : negS A B M P = R) :
  Calls Tryz.prog 12 #[v, v'] w fun e w' => ∃ v', e = .returned v' ∧ Below w.heap.size w w' ∧ (Fq.tup2 (Fq.pt R.1) (Fq.is (.int .i64 R.2))).P v' w' := by
 subst hR
 unfold negS
 by_cases hon : onB A B M P.x P.y P.i = true
 ·rw [if_pos hon]; exact exNegN h h' hM hA hB hP hon
 ·rw [if_neg hon]; exact exNegE h h' hM hA hB hP (zCr hon)
theorem zNz {w : World} {v v' : Value} {A B M : Int} {P : Pt} (h : (Fq.st [.n A, .n B, .n M]).P v w) (h' : (Fq.pt P).P v' w) (hM : ab M < pw 5) (hP : ab P.x < pw 5 ∧ ab P.y < pw 5) (hon : onB A B M P.x P.y P.i = true) :
  Calls Tryz.prog 34 #[v, v'] w fun e w' => ∃ v', e = .returned v' ∧ Below w.heap.size w w' ∧ (Fq.pt (oppP M P)).P v' w' := by
 obtain ⟨x, y, i⟩ := P
 cases i with
 | true =>
  have h0 : x = 0 ∧ y = 0 := by
   simp only [onB, ptB, Bool.and_eq_true, decide_eq_true_eq, if_true] at hon
   exact hon.2
  obtain ⟨rfl, rfl⟩ := h0
  exact exRNegI h h' hM hP.1 hP.2
 | false => exact exRNegF h h' hM hP.1 hP.2 (by have := (zCt hon).2; omega)
set_option maxRecDepth 100000 in
set_option maxHeartbeats 4000000 in
theorem exRNeg_ok {w : World} {v v' : Value} {A B M : Int} {P : Pt} (h : (Fq.st [.n A, .n B, .n M]).P v w) (h' : (Fq.pt P).P v' w) (hM : ab M < pw 5) (hA : ab A < pw 5) (hB : ab B < pw 5) (hP : ab P.x < pw 5 ∧ ab P.y < pw 5) (hon : onB A B M P.x P.y P.i = true) :
  Calls Tryz.prog 13 #[v, v'] w fun e w' => ∃ v', e = .returned v' ∧ Below w.heap.size w w' ∧ (Fq.tup2 (Fq.pt (oppP M P)) (Fq.is (.int .i64 0))).P v' w' := by
 replace hM := hidd hM
 replace hA := hidd hA
 replace hB := hidd hB
 replace hP := hidd hP
 have HON := hidd hon
 clear hon
 obtain ⟨_, rfl, hf0⟩ := h
 have hF0 := hf0
 obtain ⟨y0_p0, y0_q0, _, rfl, _y0_n0, y0_p1, y0_q1, _, rfl, _y0_n1, y0_p2, y0_q2, _, rfl, _y0_n2, rfl⟩ := hf0
 obtain ⟨_, rfl, hf1⟩ := h'
 have hF1 := hf1
 obtain ⟨y1_p0, y1_q0, _, rfl, _y1_n0, y1_p1, y1_q1, _, rfl, _y1_n1, _, rfl, _, rfl⟩ := hf1
 obtain ⟨w1, b1, hw1, hb1, hs1, E⟩ := gS w 34 hF0
 obtain ⟨w2, b2, hw2, hb2, hs2, E⟩ := fS E hs1 36 hF1
 obtain ⟨w3, b3, hw3, hb3, hs3, E⟩ := fO E hs2 36 zA1
 go_enter Tryz.func13, Tryz.ntmps13
 go_upto_region 1 with (fail)
 rw [← hw1]
 rw [← hw2]
 rw [← hw3]
 rw [← hb3]
 rw [← hb2]
 rw [← hb1]
 clear hw1 hw2 hw3 hb1 hb2 hb3 hs3 hs1 hs2
 refine rg [Fq.st [.n A, .n B, .n M], Fq.st [.n P.x, .n P.y, .v (.bool P.i)], yT, yF] N3 [] E (fun hp => ⟨?_, ?_, ?_, ?_, tv⟩) ?_
 ·exact lS 0 6 hp (mq 2 rfl) zAm (sqo 2)
 ·exact lS 0 5 hp (mq 1 rfl) zAk (sqo 3)
 ·exact wXb (Fq.st [.n A, .n B, .n M]) (Fq.st [.n P.x, .n P.y, .v (.bool P.i)]) hp zC0 (sqi 0) (sqi 1) fun v v' w h h' => zC2 h h' hM.out hA.out hB.out hP.out.1 hP.out.2 HON.out
 ·exact zAf (F := fun v _ => v = .bool true) hp fo tv (sqi 2) (fun ρ w _ h => ⟨.bool false, by simp [execOp, go_sem, h], rfl⟩)
 intro L vs w4 nb hL hC hn E4
 have e2 := wXi hC 2
 have e3 := wXi hC 3
 have E := E4; simp only [LM, zAb] at E
 rw [zAa hL]
 simp only [SP, Nat.zero_add, Nat.reduceAdd]
 rw [e2, e3]
 generalize vs 0 = u4_0
 generalize vs 1 = u4_1
 clear e2 e3 hC hn E4 hL vs L nb
 go_upto_region 3 with (fail)
 refine rg [Fq.st [.n A, .n B, .n M], Fq.st [.n P.x, .n P.y, .v (.bool P.i)], Fq.st [.n ((oppP M P).x), .n ((oppP M P).y), .v (.bool (oppP M P).i)], Fq.any, Fq.is (.int .i64 0)] [some (3, Fq.st [.n ((oppP M P).x), .n ((oppP M P).y), .v (.bool (oppP M P).i)]), none, none] [] E (fun hp => ⟨?_, ?_, ?_, ?_, ?_, tv⟩) ?_
 ·exact lS 0 6 hp (mq 2 rfl) zAm (sqo 2)
 ·exact lS 0 5 hp (mq 1 rfl) zAk (sqo 3)
 ·exact wXb (Fq.st [.n A, .n B, .n M]) (Fq.st [.n P.x, .n P.y, .v (.bool P.i)]) hp zKj (sqi 0) (sqi 1) fun v v' w h h' => zNz h h' hM.out hP.out HON.out
 ·exact sO 0 2 hp (mq 0 rfl) zAy (sqo 4)
 ·exact zAo hp fo tv (zAl (fun _ => rfl))
 intro L vs w5 nb hL hC hn E5
 have e4 := wXi hC 4
 have E := E5; simp only [LM, zAb] at E
 rw [zAa hL]
 simp only [SP, Nat.zero_add, Nat.reduceAdd]
 rw [e4]
 generalize vs 0 = u5_0
 generalize vs 1 = u5_1
 generalize vs 2 = u5_2
 clear e4 hC hn E5 hL vs L nb
 obtain ⟨_, _, hc, hf⟩ := zAu (E.box 0 rfl)
 have hR2 := hf
 obtain ⟨r_p0, r_q0, _, rfl, _r_n0, r_p1, r_q1, _, rfl, _r_n1, _, rfl, _, rfl⟩ := hf
 have c0 := hc 0 (by simp)
 have c1 := hc 1 (by simp)
 have c2 := hc 2 (by simp)
 have c3 := hc 3 (by simp)
 have c4 := hc 4 (by simp)
 simp only [List.getD_cons_zero, List.getD_cons_succ] at c0 c1 c2 c3 c4
 clear hc HON
 clear hM hA hB hP
 go_wp2
 refine bodyPost_ret (v := .tuple #[.agg #[r_p0, r_q0, r_p1, r_q1, .bool (oppP M P).i], .int .i64 0]) ?_ rfl ⟨_, rfl, E.below, _, _, rfl, ⟨_, rfl, hR2⟩, rfl⟩
 simp [results, Tryz.results13, go_sem, c0, c1, c2, c3, c4]

set_option maxRecDepth 100000 in
set_option maxHeartbeats 4000000 in
theorem exRNeg_no {w : World} {v v' : Value} {A B M : Int} {P : Pt} (h : (Fq.st [.n A, .n B, .n M]).P v w) (h' : (Fq.pt P).P v' w) (hM : ab M < pw 5) (hA : ab A < pw 5) (hB : ab B < pw 5) (hP : ab P.x < pw 5 ∧ ab P.y < pw 5) (hon : onB A B M P.x P.y P.i = false) :
  Calls Tryz.prog 13 #[v, v'] w fun e w' => ∃ v', e = .returned v' ∧ Below w.heap.size w w' ∧ (Fq.tup2 (Fq.pt ⟨0, 0, false⟩) (Fq.is (.int .i64 1))).P v' w' := by
 replace hM := hidd hM
 replace hA := hidd hA
 replace hB := hidd hB
 replace hP := hidd hP
 have HON := hidd hon
 clear hon
 obtain ⟨_, rfl, hf0⟩ := h
 have hF0 := hf0
 obtain ⟨y0_p0, y0_q0, _, rfl, _y0_n0, y0_p1, y0_q1, _, rfl, _y0_n1, y0_p2, y0_q2, _, rfl, _y0_n2, rfl⟩ := hf0
 obtain ⟨_, rfl, hf1⟩ := h'
 have hF1 := hf1
 obtain ⟨y1_p0, y1_q0, _, rfl, _y1_n0, y1_p1, y1_q1, _, rfl, _y1_n1, _, rfl, _, rfl⟩ := hf1
 obtain ⟨w1, b1, hw1, hb1, hs1, E⟩ := gS w 34 hF0
 obtain ⟨w2, b2, hw2, hb2, hs2, E⟩ := fS E hs1 36 hF1
 obtain ⟨w3, b3, hw3, hb3, hs3, E⟩ := fO E hs2 36 zA1
 go_enter Tryz.func13, Tryz.ntmps13
 go_upto_region 1 with (fail)
 rw [← hw1]
 rw [← hw2]
 rw [← hw3]
 rw [← hb3]
 rw [← hb2]
 rw [← hb1]
 clear hw1 hw2 hw3 hb1 hb2 hb3 hs3 hs1 hs2
 refine rg [Fq.st [.n A, .n B, .n M], Fq.st [.n P.x, .n P.y, .v (.bool P.i)], yF, yT] N3 [] E (fun hp => ⟨?_, ?_, ?_, ?_, tv⟩) ?_
 ·exact lS 0 6 hp (mq 2 rfl) zAm (sqo 2)
 ·exact lS 0 5 hp (mq 1 rfl) zAk (sqo 3)
 ·exact wXb (Fq.st [.n A, .n B, .n M]) (Fq.st [.n P.x, .n P.y, .v (.bool P.i)]) hp zC0 (sqi 0) (sqi 1) fun v v' w h h' => zC2 h h' hM.out hA.out hB.out hP.out.1 hP.out.2 HON.out
 ·exact zAf (F := fun v _ => v = .bool false) hp fo tv (sqi 2) (fun ρ w _ h => ⟨.bool true, by simp [execOp, go_sem, h], rfl⟩)
 intro L vs w4 nb hL hC hn E4
 have e2 := wXi hC 2
 have e3 := wXi hC 3
 have E := E4; simp only [LM, zAb] at E
 rw [zAa hL]
 simp only [SP, Nat.zero_add, Nat.reduceAdd]
 rw [e2, e3]
 generalize vs 0 = u4_0
 generalize vs 1 = u4_1
 clear e2 e3 hC hn E4 hL vs L nb
 go_upto_region 2 with (fail)
 refine rg [Fq.st [.n 0, .n 0, .v (.bool false)], Fq.any, Fq.is (.int .i64 1)] [some (1, Fq.st [.n 0, .n 0, .v (.bool false)]), none, none] [] E (fun hp => ⟨?_, ?_, ?_, tv⟩) ?_
 ·exact zEy hp fo tv (fun v w h => h)
 ·exact sO 0 0 hp (mq 0 rfl) zAy (sqo 4)
 ·exact zAo hp fo tv (zAl (fun _ => rfl))
 intro L vs w5 nb hL hC hn E5
 have e2 := wXi hC 2
 have E := E5; simp only [LM, zAb] at E
 rw [zAa hL]
 simp only [SP, Nat.zero_add, Nat.reduceAdd]
 rw [e2]
 generalize vs 0 = u5_0
 clear e2 hC hn E5 hL vs L nb
 obtain ⟨_, _, hc, hf⟩ := zAu (E.box 0 rfl)
 have hR2 := hf
 obtain ⟨r_p0, r_q0, _, rfl, _r_n0, r_p1, r_q1, _, rfl, _r_n1, _, rfl, _, rfl⟩ := hf
 have c0 := hc 0 (by simp)
 have c1 := hc 1 (by simp)
 have c2 := hc 2 (by simp)
 have c3 := hc 3 (by simp)
 have c4 := hc 4 (by simp)
 simp only [List.getD_cons_zero, List.getD_cons_succ] at c0 c1 c2 c3 c4
 clear hc HON
 clear hM hA hB hP
 go_wp2
 refine bodyPost_ret (v := .tuple #[.agg #[r_p0, r_q0, r_p1, r_q1, .bool false], .int .i64 1]) ?_ rfl ⟨_, rfl, E.below, _, _, rfl, ⟨_, rfl, hR2⟩, rfl⟩
 simp [results, Tryz.results13, go_sem, c0, c1, c2, c3, c4]

theorem exRNegS {w : World} {v v' : Value} {A B M : Int} {P : Pt} (h : (Fq.st [.n A, .n B, .n M]).P v w) (h' : (Fq.pt P).P v' w) (hM : ab M < pw 5) (hA : ab A < pw 5) (hB : ab B < pw 5) (hP : ab P.x < pw 5 ∧ ab P.y < pw 5) {R : Pt × Int} (hR : negS A B M P = R) :
  Calls Tryz.prog 13 #[v, v'] w fun e w' => ∃ v', e = .returned v' ∧ Below w.heap.size w w' ∧ (Fq.tup2 (Fq.pt R.1) (Fq.is (.int .i64 R.2))).P v' w' := by
 subst hR
 unfold negS
 by_cases hon : onB A B M P.x P.y P.i = true
 ·rw [if_pos hon]; exact exRNeg_ok h h' hM hA hB hP hon
 ·rw [if_neg hon]; exact exRNeg_no h h' hM hA hB hP (zCr hon)

set_option maxRecDepth 100000 in
set_option maxHeartbeats 4000000 in
theorem zMs (w : World) {v : Value} {M9 A X Y Q : Int} (h : (Fq.st [.v (.int .u8 M9), .v (.int .u8 A), .v (.int .u8 X), .v (.int .u8 Y), .v (.int .u16 Q)]).P v w) (hM : 0 ≤ M9 ∧ M9 ≤ 255) (hA : 0 ≤ A ∧ A ≤ 255) (hX : 0 ≤ X ∧ X ≤ 255) (hY : 0 ≤ Y ∧ Y ≤ 255) (hQ : 0 ≤ Q ∧ Q ≤ 65535) (n1 : Bool) (a1 : Option Addr) (k1 c1 : Nat) (xs1 : List Int) (h1 : Sl w a1 k1 c1 xs1) (hk1 : k1 ≤ 9223372036854775807) (n2 : Bool) (a2 : Option Addr) (k2 c2 : Nat) (xs2 : List Int) (h2 : Sl w a2 k2 c2 xs2) (hk2 : k2 ≤ 9223372036854775807) (n3 : Bool) (a3 : Option Addr) (k3 c3 : Nat) (xs3 : List Int) (h3 : Sl w a3 k3 c3 xs3) (hk3 : k3 ≤ 9223372036854775807) (n4 : Bool) (a4 : Option Addr) (k4 c4 : Nat) (xs4 : List Int) (h4 : Sl w a4 k4 c4 xs4) (hk4 : k4 ≤ 9223372036854775807) (n5 : Bool) (a5 : Option Addr) (k5 c5 : Nat) (xs5 : List Int) (h5 : Sl w a5 k5 c5 xs5) (hk5 : k5 ≤ 9223372036854775807) (i5 : Bool) (n6 : Bool) (a6 : Option Addr) (k6 c6 : Nat) (xs6 : List Int) (h6 : Sl w a6 k6 c6 xs6) (hk6 : k6 ≤ 9223372036854775807) :
  Calls Tryz.prog 3 #[v, .agg #[.bool n1, .slice a1 k1 c1, .bool n2, .slice a2 k2 c2, .bool n3, .slice a3 k3 c3, .bool n4, .slice a4 k4 c4, .bool n5, .slice a5 k5 c5, .bool i5], .agg #[.bool n6, .slice a6 k6 c6]] w fun e w' => ∃ v', e = .returned v' ∧ Below w.heap.size w w' ∧ v' = .bool true := by
 obtain ⟨m, em⟩ : ∃ m, m = 5 + 2 * (M9 % 128) := ⟨_, rfl⟩
 have hm : 5 ≤ m ∧ m ≤ 259 ∧ m % 2 = 1 := by omega
 obtain ⟨a, ea⟩ : ∃ a, a = A % m := ⟨_, rfl⟩
 obtain ⟨x, ex⟩ : ∃ x, x = X % m := ⟨_, rfl⟩
 obtain ⟨y, ey⟩ : ∃ y, y = Y % m := ⟨_, rfl⟩
 obtain ⟨b, eb⟩ : ∃ b, b = (y * y - ((x * x) + a) * x) % m := ⟨_, rfl⟩
 obtain ⟨T, eT⟩ : ∃ T, T = zEu a b m Q := ⟨_, rfl⟩
 obtain ⟨N, eN⟩ : ∃ N, N = sgn n6 (val (xs6.take 2)) := ⟨_, rfl⟩
 obtain ⟨o1, eo1⟩ : ∃ o1, o1 = sgn n1 (val (xs1.take 2)) := ⟨_, rfl⟩
 obtain ⟨o2, eo2⟩ : ∃ o2, o2 = sgn n2 (val (xs2.take 2)) := ⟨_, rfl⟩
 obtain ⟨o3, eo3⟩ : ∃ o3, o3 = sgn n3 (val (xs3.take 2)) := ⟨_, rfl⟩
 obtain ⟨o4, eo4⟩ : ∃ o4, o4 = sgn n4 (val (xs4.take 2)) := ⟨_, rfl⟩
 obtain ⟨o5, eo5⟩ : ∃ o5, o5 = sgn n5 (val (xs5.take 2)) := ⟨_, rfl⟩
 have ha0 : 0 ≤ a ∧ a < m := by rw [ea]; exact ⟨Int.emod_nonneg _ (by omega), Int.emod_lt_of_pos _ (by omega)⟩
 have hx0 : 0 ≤ x ∧ x < m := by rw [ex]; exact ⟨Int.emod_nonneg _ (by omega), Int.emod_lt_of_pos _ (by omega)⟩
 have hy0 : 0 ≤ y ∧ y < m := by rw [ey]; exact ⟨Int.emod_nonneg _ (by omega), Int.emod_lt_of_pos _ (by omega)⟩
 have hb0 : 0 ≤ b ∧ b < m := by rw [eb]; exact ⟨Int.emod_nonneg _ (by omega), Int.emod_lt_of_pos _ (by omega)⟩
 have hc : zBs a b m = true := by simp only [zBs, resB, Bool.and_eq_true, decide_eq_true_eq]; omega
 have hon1 : onB a b m x y false = true := by rw [eb]; exact curve_on (by omega) hm.2.2 ha0 hx0 hy0
 have hon2 : onB a b m T.x T.y T.i = true := by rw [eT]; exact madeP_on hc (by omega)
 have BM : Hid (ab m < pw 5) := ab5 (by omega)
 have BA : Hid (ab a < pw 5) := ab5 (by omega)
 have BB : Hid (ab b < pw 5) := ab5 (by omega)
 have BP : Hid (ab x < pw 5 ∧ ab y < pw 5) := ⟨ab5 (by omega), ab5 (by omega)⟩
 have BT : Hid (ab T.x < pw 5 ∧ ab T.y < pw 5) := (zCt hon2).1.ab BM.out
 have BN : Hid (ab N < pw 20) := by show _ < _; rw [eN]; exact Int.lt_of_lt_of_le (Num.ofMade h6.digs) (zAg (by omega))
 have BO1 : Hid (ab o1 < pw 5) := by show _ < _; rw [eo1]; exact Int.lt_of_lt_of_le (Num.ofMade h1.digs) (zAg (by omega))
 have BO2 : Hid (ab o2 < pw 5) := by show _ < _; rw [eo2]; exact Int.lt_of_lt_of_le (Num.ofMade h2.digs) (zAg (by omega))
 have BO3 : Hid (ab o3 < pw 5) := by show _ < _; rw [eo3]; exact Int.lt_of_lt_of_le (Num.ofMade h3.digs) (zAg (by omega))
 have BO4 : Hid (ab o4 < pw 5) := by show _ < _; rw [eo4]; exact Int.lt_of_lt_of_le (Num.ofMade h4.digs) (zAg (by omega))
 have BO5 : Hid (ab o5 < pw 5) := by show _ < _; rw [eo5]; exact Int.lt_of_lt_of_le (Num.ofMade h5.digs) (zAg (by omega))
 have HON := hidd hon1
 obtain ⟨R, eR⟩ : ∃ R : Pt, R = ⟨o4, o5, i5⟩ := ⟨_, rfl⟩
 obtain ⟨t1, g1⟩ : ∃ t, onB o1 o2 o3 o4 o5 i5 = t := ⟨_, rfl⟩
 obtain ⟨t2, g2⟩ : ∃ t, onB a b m o4 o5 i5 = t := ⟨_, rfl⟩
 obtain ⟨⟨S0, d0, er0⟩, g3⟩ : ∃ S, addS a b m ⟨x, y, false⟩ T = S := ⟨_, rfl⟩
 obtain ⟨⟨S1, d1, er1⟩, g4⟩ : ∃ S, addS a b m ⟨x, y, false⟩ ⟨o4, o5, i5⟩ = S := ⟨_, rfl⟩
 obtain ⟨⟨V, ev⟩, g5⟩ : ∃ S, negS a b m ⟨o4, o5, i5⟩ = S := ⟨_, rfl⟩
 obtain ⟨⟨S2, d2, er2⟩, g6⟩ : ∃ S, zDb a b m N T = S := ⟨_, rfl⟩
 obtain ⟨⟨S3, d3, er3⟩, g7⟩ : ∃ S, zDb o1 o2 o3 N ⟨o4, o5, i5⟩ = S := ⟨_, rfl⟩
 have G1 := hidd g1
 have G2 := hidd g2
 have G3 := hidd g3
 have G4 := hidd g4
 have G5 := hidd g5
 have G6 := hidd g6
 have G7 := hidd g7
 have EM := hidd em
 have EA := hidd ea
 have EX := hidd ex
 have EY := hidd ey
 have EB := hidd eb
 have ET := hidd eT
 have EN := hidd eN
 have EO1 := hidd eo1
 have EO2 := hidd eo2
 have EO3 := hidd eo3
 have EO4 := hidd eo4
 have EO5 := hidd eo5
 have HHM := hidd hM
 have HHA := hidd hA
 have HHX := hidd hX
 have HHY := hidd hY
 have HHQ := hidd hQ
 have HK1 := hidd hk1
 have HK2 := hidd hk2
 have HK3 := hidd hk3
 have HK4 := hidd hk4
 have HK5 := hidd hk5
 have HK6 := hidd hk6
 clear g1 g2 g3 g4 g5 g6 g7 em ea ex ey eb eT eN eR R hM hA hX hY hQ hm ha0 hx0 hy0 hb0 hc hon1 hon2 eo1 eo2 eo3 eo4 eo5 hk1 hk2 hk3 hk4 hk5 hk6
 obtain ⟨_, rfl, hf0⟩ := h
 have hF0 := hf0
 obtain ⟨_, rfl, _, _, rfl, _, _, rfl, _, _, rfl, _, _, rfl, _, rfl⟩ := hf0
 obtain ⟨w1, b1, hw1, hb1, hs1, E⟩ := gS w 24 hF0
 obtain ⟨w2, b2, hw2, hb2, hs2, E⟩ := zEr E hs1 (F := Fq.odd5 n1 a1 k1 c1 xs1 n2 a2 k2 c2 xs2 n3 a3 k3 c3 xs3 n4 a4 k4 c4 xs4 n5 a5 k5 c5 xs5 i5) (us := [.bool n1, .slice a1 k1 c1, .bool n2, .slice a2 k2 c2, .bool n3, .slice a3 k3 c3, .bool n4, .slice a4 k4 c4, .bool n5, .slice a5 k5 c5, .bool i5]) 29 rfl (by simp) (tame_odd5 _ _ _ _ _ _ _ _ _ _ _ _ _ _ _ _ _ _ _ _ _) ((Fq.odd5 n1 a1 k1 c1 xs1 n2 a2 k2 c2 xs2 n3 a3 k3 c3 xs3 n4 a4 k4 c4 xs4 n5 a5 k5 c5 xs5 i5).mono (show (Fq.odd5 n1 a1 k1 c1 xs1 n2 a2 k2 c2 xs2 n3 a3 k3 c3 xs3 n4 a4 k4 c4 xs4 n5 a5 k5 c5 xs5 i5).P _ w from ⟨rfl, h1, h2, h3, h4, h5⟩) E.below)
 obtain ⟨w3, b3, hw3, hb3, hs3, E⟩ := zEr E hs2 (F := Fq.raw n6 a6 k6 c6 xs6) (us := [.bool n6, .slice a6 k6 c6]) 27 rfl (by simp) (zBr _ _ _ _) ((Fq.raw n6 a6 k6 c6 xs6).mono (show (Fq.raw n6 a6 k6 c6 xs6).P _ w from ⟨rfl, h6⟩) E.below)
 go_enter Tryz.func3, Tryz.ntmps3
 go_upto_region 1 with (fail)
 rw [← hw1]
 rw [← hw2]
 rw [← hw3]
 rw [← hb3]
 rw [← hb2]
 rw [← hb1]
 clear hw1 hw2 hw3 hb1 hb2 hb3 hs3 hs1 hs2
 refine rg [yT, yT] N3 [] E (fun hp => ⟨?_, ?_, tv⟩) ?_
 ·exact q_call0 hp fo tv (zNc) (fun w => zN1 w)
 ·exact zAo hp fo tv (sqi 0)
 intro L vs w4 nb hL hC hn E4
 have e0 := wXi hC 0
 have e1 := wXi hC 1
 have E := E4; simp only [LM, zAb] at E
 rw [zAa hL]
 simp only [SP, Nat.zero_add, Nat.reduceAdd]
 rw [e0, e1]
 clear e0 e1 hC hn E4 hL vs L nb
 go_upto_region 2 with (fail)
 refine rg [yT, yF] N3 [] E (fun hp => ⟨?_, ?_, tv⟩) ?_
 ·exact zAe hp fo tv (sqo 7)
 ·exact zAf (F := fun v _ => v = .bool true) hp fo tv (sqi 0) (fun ρ w _ h => ⟨.bool false, by simp [execOp, go_sem, h], rfl⟩)
 intro L vs w5 nb hL hC hn E5
 have e0 := wXi hC 0
 have e1 := wXi hC 1
 have E := E5; simp only [LM, zAb] at E
 rw [zAa hL]
 simp only [SP, Nat.zero_add, Nat.reduceAdd]
 rw [e0, e1]
 clear e0 e1 hC hn E5 hL vs L nb
 go_upto_region 4 with (fail)
 refine rg [Fq.st [.v (.int .u8 M9), .v (.int .u8 A), .v (.int .u8 X), .v (.int .u8 Y), .v (.int .u16 Q)], Fq.tup3 (Fq.st [.n a, .n b, .n m]) (Fq.st [.n x, .n y, .v (.bool false)]) (Fq.st [.n T.x, .n T.y, .v (.bool T.i)]), Fq.tup3 (Fq.st [.n a, .n b, .n m]) (Fq.st [.n x, .n y, .v (.bool false)]) (Fq.st [.n T.x, .n T.y, .v (.bool T.i)]), Fq.st [.n a, .n b, .n m], Fq.st [.n x, .n y, .v (.bool false)], Fq.st [.n T.x, .n T.y, .v (.bool T.i)], Fq.any, Fq.any, Fq.any, Fq.any, Fq.any, Fq.any] N3 [⟨6, 9, 6, Fq.st [.n 0, .n 0, .n 0], Fq.st [.n a, .n b, .n m], none⟩, ⟨7, 10, 5, Fq.st [.n 0, .n 0, .v (.bool false)], Fq.st [.n x, .n y, .v (.bool false)], none⟩, ⟨8, 11, 5, Fq.st [.n 0, .n 0, .v (.bool false)], Fq.st [.n T.x, .n T.y, .v (.bool T.i)], none⟩] E (fun hp => ⟨?_, ?_, ?_, ?_, ?_, ?_, ?_, ?_, ?_, ?_, ?_, ?_, tv⟩) ?_
 ·exact lS 0 5 hp (mq 2 rfl) zOw (sqo 3)
 ·exact wXa (Fq.st [.v (.int .u8 M9), .v (.int .u8 A), .v (.int .u8 X), .v (.int .u8 Y), .v (.int .u16 Q)]) hp zNd (sqi 0) fun v w h => exMade h HHM.out HHA.out HHX.out HHY.out HHQ.out EM.out EA.out EX.out EY.out EB.out ET.out
 ·exact zAe hp fo tv (sqi 1)
 ·exact zBx hp fo tv (sqi 2) (fun v1 v2 v3 w h1 h2 h3 => ⟨_, rfl, h1⟩)
 ·exact zBx hp fo tv (sqi 2) (fun v1 v2 v3 w h1 h2 h3 => ⟨_, rfl, h2⟩)
 ·exact zBx hp fo tv (sqi 2) (fun v1 v2 v3 w h1 h2 h3 => ⟨_, rfl, h3⟩)
 ·exact aS hp (mq 0 rfl) zEg zG0
 ·exact aS hp (mq 1 rfl) zA1 zC9
 ·exact aS hp (mq 2 rfl) zA1 zC9
 ·exact sS 3 hp (mq 0 rfl) zE1
 ·exact sS 4 hp (mq 1 rfl) zAy
 ·exact sS 5 hp (mq 2 rfl) zAy
 intro L vs w6 nb hL hC hn E6
 have e6 : vs 6 = .pointer (some ⟨nb 6, 0, none⟩) := hn _ (mq 0 rfl)
 have e7 : vs 7 = .pointer (some ⟨nb 7, 0, none⟩) := hn _ (mq 1 rfl)
 have e8 : vs 8 = .pointer (some ⟨nb 8, 0, none⟩) := hn _ (mq 2 rfl)
 have E := E6; simp only [LM, zAb] at E
 rw [zAa hL]
 simp only [SP, Nat.zero_add, Nat.reduceAdd]
 rw [e6, e7, e8]
 generalize nb 6 = b6_6 at E ⊢
 generalize nb 7 = b6_7 at E ⊢
 generalize nb 8 = b6_8 at E ⊢
 generalize vs 0 = u6_0
 generalize vs 1 = u6_1
 generalize vs 2 = u6_2
 generalize vs 3 = u6_3
 generalize vs 4 = u6_4
 generalize vs 5 = u6_5
 clear e6 e7 e8 hC hn E6 hL vs L nb
 go_upto_region 5 with (fail)
 refine rg [Fq.raw n6 a6 k6 c6 xs6, Fq.num N, Fq.any, Fq.any] N6 [⟨2, 3, 2, Fq.num 0, Fq.num N, none⟩] E (fun hp => ⟨?_, ?_, ?_, ?_, tv⟩) ?_
 ·exact zF0 (off := 0) hp fo tv (mq 3 rfl) (.inl rfl) (Nat.le_of_ble_eq_true rfl) (sqo 5) (fun us w hl h => ld_raw hl h)
 ·exact zAt (F := (Fq.raw n6 a6 k6 c6 xs6).P) (G := (Fq.is (.int .i64 2)).P) hp fo tv (zFg) (sqi 0) (zAl (fun _ => rfl)) (fun v v' w h h' => (by rw [EN.out]; exact zFl (j := 2) h h' HK6.out (by omega)))
 ·exact aN hp (mq 0 rfl)
 ·exact sN 1 hp (mq 0 rfl)
 intro L vs w7 nb hL hC hn E7
 have e2 : vs 2 = .pointer (some ⟨nb 2, 0, none⟩) := hn _ (mq 0 rfl)
 have E := E7; simp only [LM, zAb] at E
 rw [zAa hL]
 simp only [SP, Nat.zero_add, Nat.reduceAdd]
 rw [e2]
 generalize nb 2 = b7_2 at E ⊢
 generalize vs 0 = u7_0
 generalize vs 1 = u7_1
 clear e2 hC hn E7 hL vs L nb
 go_upto_region 6 with (fail)
 refine rg [ip b2 0, Fq.raw n1 a1 k1 c1 xs1, Fq.num o1, ip b2 2, Fq.raw n2 a2 k2 c2 xs2, Fq.num o2, ip b2 4, Fq.raw n3 a3 k3 c3 xs3, Fq.num o3, Fq.st [.n o1, .n o2, .n o3], Fq.any, Fq.any] N7 [⟨10, 11, 6, Fq.st [.n 0, .n 0, .n 0], Fq.st [.n o1, .n o2, .n o3], none⟩] E (fun hp => ⟨?_, ?_, ?_, ?_, ?_, ?_, ?_, ?_, ?_, ?_, ?_, ?_, tv⟩) ?_
 ·exact qa b2 0 0 hp (sqo 4)
 ·exact zF0 (off := 0) hp fo tv (mq 5 rfl) (.inl rfl) (Nat.le_of_ble_eq_true rfl) (sqi 0) (fun us w hl h => ld_odd0 hl h)
 ·exact zAt (F := (Fq.raw n1 a1 k1 c1 xs1).P) (G := (Fq.is (.int .i64 2)).P) hp fo tv (zFg) (sqi 1) (zAl (fun _ => rfl)) (fun v v' w h h' => (by rw [EO1.out]; exact zFl (j := 2) h h' HK1.out (by omega)))
 ·exact qa b2 0 2 hp (sqo 4)
 ·exact zF0 (off := 2) hp fo tv (mq 5 rfl) (.inl rfl) (Nat.le_of_ble_eq_true rfl) (sqi 3) (fun us w hl h => ld_odd1 hl h)
 ·exact zAt (F := (Fq.raw n2 a2 k2 c2 xs2).P) (G := (Fq.is (.int .i64 2)).P) hp fo tv (zFg) (sqi 4) (zAl (fun _ => rfl)) (fun v v' w h h' => (by rw [EO2.out]; exact zFl (j := 2) h h' HK2.out (by omega)))
 ·exact qa b2 0 4 hp (sqo 4)
 ·exact zF0 (off := 4) hp fo tv (mq 5 rfl) (.inl rfl) (Nat.le_of_ble_eq_true rfl) (sqi 6) (fun us w hl h => ld_odd2 hl h)
 ·exact zAt (F := (Fq.raw n3 a3 k3 c3 xs3).P) (G := (Fq.is (.int .i64 2)).P) hp fo tv (zFg) (sqi 7) (zAl (fun _ => rfl)) (fun v v' w h h' => (by rw [EO3.out]; exact zFl (j := 2) h h' HK3.out (by omega)))
 ·exact zH4 (z0 := o1) (z1 := o2) (z2 := o3) hp fo tv (sqi 2) (sqi 5) (sqi 8) (fun v w h => h)
 ·exact aS hp (mq 0 rfl) zEg zG0
 ·exact sS 9 hp (mq 0 rfl) zE1
 intro L vs w8 nb hL hC hn E8
 have e0 := wXi hC 0
 have e3 := wXi hC 3
 have e6 := wXi hC 6
 have e10 : vs 10 = .pointer (some ⟨nb 10, 0, none⟩) := hn _ (mq 0 rfl)
 have E := E8; simp only [LM, zAb] at E
 rw [zAa hL]
 simp only [SP, Nat.zero_add, Nat.reduceAdd]
 rw [e0, e3, e6, e10]
 generalize nb 10 = b8_10 at E ⊢
 generalize vs 1 = u8_1
 generalize vs 2 = u8_2
 generalize vs 4 = u8_4
 generalize vs 5 = u8_5
 generalize vs 7 = u8_7
 generalize vs 8 = u8_8
 generalize vs 9 = u8_9
 clear e0 e3 e6 e10 hC hn E8 hL vs L nb
 go_upto_region 7 with (fail)
 refine rg [ip b2 6, Fq.raw n4 a4 k4 c4 xs4, Fq.num o4, ip b2 8, Fq.raw n5 a5 k5 c5 xs5, Fq.num o5, ip b2 10, Fq.is (.bool i5), Fq.st [.n o4, .n o5, .v (.bool i5)], Fq.any, Fq.any] N8 [⟨9, 10, 5, Fq.st [.n 0, .n 0, .v (.bool false)], Fq.st [.n o4, .n o5, .v (.bool i5)], none⟩] E (fun hp => ⟨?_, ?_, ?_, ?_, ?_, ?_, ?_, ?_, ?_, ?_, ?_, tv⟩) ?_
 ·exact qa b2 0 6 hp (sqo 4)
 ·exact zF0 (off := 6) hp fo tv (mq 6 rfl) (.inl rfl) (Nat.le_of_ble_eq_true rfl) (sqi 0) (fun us w hl h => ld_odd3 hl h)
 ·exact zAt (F := (Fq.raw n4 a4 k4 c4 xs4).P) (G := (Fq.is (.int .i64 2)).P) hp fo tv (zFg) (sqi 1) (zAl (fun _ => rfl)) (fun v v' w h h' => (by rw [EO4.out]; exact zFl (j := 2) h h' HK4.out (by omega)))
 ·exact qa b2 0 8 hp (sqo 4)
 ·exact zF0 (off := 8) hp fo tv (mq 6 rfl) (.inl rfl) (Nat.le_of_ble_eq_true rfl) (sqi 3) (fun us w hl h => ld_odd4 hl h)
 ·exact zAt (F := (Fq.raw n5 a5 k5 c5 xs5).P) (G := (Fq.is (.int .i64 2)).P) hp fo tv (zFg) (sqi 4) (zAl (fun _ => rfl)) (fun v v' w h h' => (by rw [EO5.out]; exact zFl (j := 2) h h' HK5.out (by omega)))
 ·exact qa b2 0 10 hp (sqo 4)
 ·exact zOp (off := 10) (v := .bool i5) hp fo tv (mq 6 rfl) (.inl rfl) (Nat.le_of_ble_eq_true rfl) (sqi 6) (fun us w hl h => ⟨ld_odd5 hl h, rfl⟩)
 ·exact zL2 (z0 := o4) (z1 := o5) (u2 := i5) hp fo tv (sqi 2) (sqi 5) (sqi 7) (fun v w h => h)
 ·exact aS hp (mq 0 rfl) zA1 zC9
 ·exact sS 8 hp (mq 0 rfl) zAy
 intro L vs w9 nb hL hC hn E9
 have e0 := wXi hC 0
 have e3 := wXi hC 3
 have e6 := wXi hC 6
 have e7 := wXi hC 7
 have e9 : vs 9 = .pointer (some ⟨nb 9, 0, none⟩) := hn _ (mq 0 rfl)
 have E := E9; simp only [LM, zAb] at E
 rw [zAa hL]
 simp only [SP, Nat.zero_add, Nat.reduceAdd]
 rw [e0, e3, e6, e7, e9]
 generalize nb 9 = b9_9 at E ⊢
 generalize vs 1 = u9_1
 generalize vs 2 = u9_2
 generalize vs 4 = u9_4
 generalize vs 5 = u9_5
 generalize vs 8 = u9_8
 clear e0 e3 e6 e7 e9 hC hn E9 hL vs L nb
 go_upto_region 8 with (fail)
 refine rg [Fq.st [.n o1, .n o2, .n o3], Fq.st [.n o4, .n o5, .v (.bool i5)], Fq.is (.bool t1), Fq.st [.n o1, .n o2, .n o3], Fq.st [.n o4, .n o5, .v (.bool i5)], Fq.is (.bool t1), yF, yF, Fq.st [.n a, .n b, .n m], Fq.st [.n o4, .n o5, .v (.bool i5)], Fq.is (.bool t2), Fq.st [.n a, .n b, .n m], Fq.st [.n o4, .n o5, .v (.bool i5)], Fq.is (.bool t2), yF, yF, yF, Fq.st [.n a, .n b, .n m], Fq.st [.n x, .n y, .v (.bool false)], yT, yF, yF, yF, Fq.st [.n a, .n b, .n m], Fq.st [.n x, .n y, .v (.bool false)], Fq.st [.n T.x, .n T.y, .v (.bool T.i)], Fq.st [.n S0.x, .n S0.y, .v (.bool S0.i), .n d0, .v (.int .i64 er0)], Fq.st [.n a, .n b, .n m], Fq.st [.n x, .n y, .v (.bool false)], Fq.st [.n T.x, .n T.y, .v (.bool T.i)], Fq.st [.n S0.x, .n S0.y, .v (.bool S0.i), .n d0, .v (.int .i64 er0)], yT, yF, yF, yF, Fq.st [.n a, .n b, .n m], Fq.st [.n x, .n y, .v (.bool false)], Fq.st [.n o4, .n o5, .v (.bool i5)], Fq.st [.n S1.x, .n S1.y, .v (.bool S1.i), .n d1, .v (.int .i64 er1)], Fq.st [.n a, .n b, .n m], Fq.st [.n x, .n y, .v (.bool false)], Fq.st [.n o4, .n o5, .v (.bool i5)], Fq.st [.n S1.x, .n S1.y, .v (.bool S1.i), .n d1, .v (.int .i64 er1)], yT, yF, yF] N9 [] E (fun hp => ⟨?_, ?_, ?_, ?_, ?_, ?_, ?_, ?_, ?_, ?_, ?_, ?_, ?_, ?_, ?_, ?_, ?_, ?_, ?_, ?_, ?_, ?_, ?_, ?_, ?_, ?_, ?_, ?_, ?_, ?_, ?_, ?_, ?_, ?_, ?_, ?_, ?_, ?_, ?_, ?_, ?_, ?_, ?_, ?_, ?_, ?_, tv⟩) ?_
 ·exact lS 0 6 hp (mq 1 rfl) zAm (sqo 12)
 ·exact lS 0 5 hp (mq 0 rfl) zAk (sqo 13)
 ·exact wXb (Fq.st [.n o1, .n o2, .n o3]) (Fq.st [.n o4, .n o5, .v (.bool i5)]) hp zB3 (sqi 0) (sqi 1) fun v v' w h h' => exOn h h' BO3.out BO1.out BO2.out BO4.out BO5.out G1.out
 ·exact lS 0 6 hp (mq 1 rfl) zAm (sqo 12)
 ·exact lS 0 5 hp (mq 0 rfl) zAk (sqo 13)
 ·exact wXb (Fq.st [.n o1, .n o2, .n o3]) (Fq.st [.n o4, .n o5, .v (.bool i5)]) hp zC0 (sqi 3) (sqi 4) fun v v' w h h' => zC2 h h' BO3.out BO1.out BO2.out BO4.out BO5.out G1.out
 ·exact zAi (F := fun v _ => v = .bool t1) (G := fun v _ => v = .bool t1) hp fo tv (sqi 2) (sqi 5) (fun ρ w hc h h' => ⟨.bool false, by simp [execOp, go_sem, h, h'], rfl⟩)
 ·exact zAe hp fo tv (sqi 6)
 ·exact lG 0 6 hp gqi (mq 3 rfl) zAm (sqo 8) fun v w h => h
 ·exact lG 0 5 hp gqi (mq 0 rfl) zAk (sqo 13) fun v w h => h
 ·exact zAt (F := (Fq.st [.n a, .n b, .n m]).P) (G := (Fq.st [.n o4, .n o5, .v (.bool i5)]).P) hp fo gqi (zB3) (sqi 8) (sqi 9) (fun v v' w h h' => exOn h h' BM.out BA.out BB.out BO4.out BO5.out G2.out)
 ·exact lG 0 6 hp gqi (mq 3 rfl) zAm (sqo 8) fun v w h => h
 ·exact lG 0 5 hp gqi (mq 0 rfl) zAk (sqo 13) fun v w h => h
 ·exact zAt (F := (Fq.st [.n a, .n b, .n m]).P) (G := (Fq.st [.n o4, .n o5, .v (.bool i5)]).P) hp fo gqi (zC0) (sqi 11) (sqi 12) (fun v v' w h h' => zC2 h h' BM.out BA.out BB.out BO4.out BO5.out G2.out)
 ·exact zAi (F := fun v _ => v = .bool t2) (G := fun v _ => v = .bool t2) hp fo gqi (sqi 10) (sqi 13) (fun ρ w hc h h' => ⟨.bool false, by simp [execOp, go_sem, h, h'], rfl⟩)
 ·exact zAi (F := fun v _ => v = .bool false) (G := fun v _ => v = .bool false) hp fo tv (sqi 7) (sqi 14) (fun ρ w hc h h' => ⟨_, by simp [execOp, go_sem, h, h'], rfl⟩)
 ·exact zAe hp fo tv (sqi 15)
 ·exact lG 0 6 hp gqi (mq 3 rfl) zAm (sqo 8) fun v w h => h
 ·exact lG 0 5 hp gqi (mq 4 rfl) zAk (sqo 9) fun v w h => h
 ·exact zAt (F := (Fq.st [.n a, .n b, .n m]).P) (G := (Fq.st [.n x, .n y, .v (.bool false)]).P) hp fo gqi (zB3) (sqi 17) (sqi 18) (fun v v' w h h' => exOn h h' BM.out BA.out BB.out BP.out.1 BP.out.2 HON.out)
 ·exact zAf (F := fun v _ => v = .bool true) hp fo gqi (sqi 19) (fun ρ w _ h => ⟨.bool false, by simp [execOp, go_sem, h], rfl⟩)
 ·exact zAi (F := fun v _ => v = .bool false) (G := fun v _ => v = .bool false) hp fo tv (sqi 16) (sqi 20) (fun ρ w hc h h' => ⟨_, by simp [execOp, go_sem, h, h'], rfl⟩)
 ·exact zAe hp fo tv (sqi 21)
 ·exact lG 0 6 hp gqi (mq 3 rfl) zAm (sqo 8) fun v w h => h
 ·exact lG 0 5 hp gqi (mq 4 rfl) zAk (sqo 9) fun v w h => h
 ·exact lG 0 5 hp gqi (mq 5 rfl) zAk (sqo 10) fun v w h => h
 ·exact zBa (F := (Fq.st [.n a, .n b, .n m]).P) (G := (Fq.st [.n x, .n y, .v (.bool false)]).P) (F3 := (Fq.st [.n T.x, .n T.y, .v (.bool T.i)]).P) hp fo gqi (zGh) (sqi 23) (sqi 24) (sqi 25) (fun v v' u w h h' g => zGk (P := (⟨x, y, false⟩ : Pt)) (Q := T) (R := (S0, d0, er0)) h h' g BM.out BA.out BB.out BP.out BT.out G3.out)
 ·exact lG 0 6 hp gqi (mq 3 rfl) zAm (sqo 8) fun v w h => h
 ·exact lG 0 5 hp gqi (mq 4 rfl) zAk (sqo 9) fun v w h => h
 ·exact lG 0 5 hp gqi (mq 5 rfl) zAk (sqo 10) fun v w h => h
 ·exact zBa (F := (Fq.st [.n a, .n b, .n m]).P) (G := (Fq.st [.n x, .n y, .v (.bool false)]).P) (F3 := (Fq.st [.n T.x, .n T.y, .v (.bool T.i)]).P) hp fo gqi (zKi) (sqi 27) (sqi 28) (sqi 29) (fun v v' u w h h' g => exAddIn (P := (⟨x, y, false⟩ : Pt)) (Q := T) (R := (S0, d0, er0)) h h' g BM.out BA.out BB.out BP.out BT.out G3.out)
 ·exact zAt (F := (Fq.st [.n S0.x, .n S0.y, .v (.bool S0.i), .n d0, .v (.int .i64 er0)]).P) (G := (Fq.st [.n S0.x, .n S0.y, .v (.bool S0.i), .n d0, .v (.int .i64 er0)]).P) hp fo gqi (zHm) (sqi 26) (sqi 30) (fun v v' w h h' => zHs (R := (S0, d0, er0)) h h')
 ·exact zAf (F := fun v _ => v = .bool true) hp fo gqi (sqi 31) (fun ρ w _ h => ⟨.bool false, by simp [execOp, go_sem, h], rfl⟩)
 ·exact zAi (F := fun v _ => v = .bool false) (G := fun v _ => v = .bool false) hp fo tv (sqi 22) (sqi 32) (fun ρ w hc h h' => ⟨_, by simp [execOp, go_sem, h, h'], rfl⟩)
 ·exact zAe hp fo tv (sqi 33)
 ·exact lG 0 6 hp gqi (mq 3 rfl) zAm (sqo 8) fun v w h => h
 ·exact lG 0 5 hp gqi (mq 4 rfl) zAk (sqo 9) fun v w h => h
 ·exact lG 0 5 hp gqi (mq 0 rfl) zAk (sqo 13) fun v w h => h
 ·exact zBa (F := (Fq.st [.n a, .n b, .n m]).P) (G := (Fq.st [.n x, .n y, .v (.bool false)]).P) (F3 := (Fq.st [.n o4, .n o5, .v (.bool i5)]).P) hp fo gqi (zGh) (sqi 35) (sqi 36) (sqi 37) (fun v v' u w h h' g => zGk (P := (⟨x, y, false⟩ : Pt)) (Q := (⟨o4, o5, i5⟩ : Pt)) (R := (S1, d1, er1)) h h' g BM.out BA.out BB.out BP.out ⟨BO4.out, BO5.out⟩ G4.out)
 ·exact lG 0 6 hp gqi (mq 3 rfl) zAm (sqo 8) fun v w h => h
 ·exact lG 0 5 hp gqi (mq 4 rfl) zAk (sqo 9) fun v w h => h
 ·exact lG 0 5 hp gqi (mq 0 rfl) zAk (sqo 13) fun v w h => h
 ·exact zBa (F := (Fq.st [.n a, .n b, .n m]).P) (G := (Fq.st [.n x, .n y, .v (.bool false)]).P) (F3 := (Fq.st [.n o4, .n o5, .v (.bool i5)]).P) hp fo gqi (zKi) (sqi 39) (sqi 40) (sqi 41) (fun v v' u w h h' g => exAddIn (P := (⟨x, y, false⟩ : Pt)) (Q := (⟨o4, o5, i5⟩ : Pt)) (R := (S1, d1, er1)) h h' g BM.out BA.out BB.out BP.out ⟨BO4.out, BO5.out⟩ G4.out)
 ·exact zAt (F := (Fq.st [.n S1.x, .n S1.y, .v (.bool S1.i), .n d1, .v (.int .i64 er1)]).P) (G := (Fq.st [.n S1.x, .n S1.y, .v (.bool S1.i), .n d1, .v (.int .i64 er1)]).P) hp fo gqi (zHm) (sqi 38) (sqi 42) (fun v v' w h h' => zHs (R := (S1, d1, er1)) h h')
 ·exact zAf (F := fun v _ => v = .bool true) hp fo gqi (sqi 43) (fun ρ w _ h => ⟨.bool false, by simp [execOp, go_sem, h], rfl⟩)
 ·exact zAi (F := fun v _ => v = .bool false) (G := fun v _ => v = .bool false) hp fo tv (sqi 34) (sqi 44) (fun ρ w hc h h' => ⟨_, by simp [execOp, go_sem, h, h'], rfl⟩)
 intro L vs w10 nb hL hC hn E10
 have e2 := wXi hC 2
 have e5 := wXi hC 5
 have e6 := wXi hC 6
 have e7 := wXi hC 7
 have e10 := wXi hC 10
 have e13 := wXi hC 13
 have e14 := wXi hC 14
 have e15 := wXi hC 15
 have e16 := wXi hC 16
 have e19 := wXi hC 19
 have e20 := wXi hC 20
 have e21 := wXi hC 21
 have e22 := wXi hC 22
 have e31 := wXi hC 31
 have e32 := wXi hC 32
 have e33 := wXi hC 33
 have e34 := wXi hC 34
 have e43 := wXi hC 43
 have e44 := wXi hC 44
 have e45 := wXi hC 45
 have E := E10; simp only [LM, zAb] at E
 rw [zAa hL]
 simp only [SP, Nat.zero_add, Nat.reduceAdd]
 rw [e2, e5, e6, e7, e10, e13, e14, e15, e16, e19, e20, e21, e22, e31, e32, e33, e34, e43, e44, e45]
 generalize vs 0 = u10_0
 generalize vs 1 = u10_1
 generalize vs 3 = u10_3
 generalize vs 4 = u10_4
 generalize vs 8 = u10_8
 generalize vs 9 = u10_9
 generalize vs 11 = u10_11
 generalize vs 12 = u10_12
 generalize vs 17 = u10_17
 generalize vs 18 = u10_18
 generalize vs 23 = u10_23
 generalize vs 24 = u10_24
 generalize vs 25 = u10_25
 generalize vs 26 = u10_26
 generalize vs 27 = u10_27
 generalize vs 28 = u10_28
 generalize vs 29 = u10_29
 generalize vs 30 = u10_30
 generalize vs 35 = u10_35
 generalize vs 36 = u10_36
 generalize vs 37 = u10_37
 generalize vs 38 = u10_38
 generalize vs 39 = u10_39
 generalize vs 40 = u10_40
 generalize vs 41 = u10_41
 generalize vs 42 = u10_42
 clear e2 e5 e6 e7 e10 e13 e14 e15 e16 e19 e20 e21 e22 e31 e32 e33 e34 e43 e44 e45 hC hn E10 hL vs L nb
 go_upto_region 10 with (fail)
 refine rg [Fq.st [.n a, .n b, .n m], Fq.st [.n o4, .n o5, .v (.bool i5)], Fq.tup2 (Fq.st [.n V.x, .n V.y, .v (.bool V.i)]) (Fq.is (.int .i64 ev)), Fq.tup2 (Fq.st [.n V.x, .n V.y, .v (.bool V.i)]) (Fq.is (.int .i64 ev)), Fq.st [.n V.x, .n V.y, .v (.bool V.i)], Fq.is (.int .i64 ev), Fq.any, Fq.any, Fq.is (.int .i64 ev)] N9 [⟨6, 7, 5, Fq.st [.n 0, .n 0, .v (.bool false)], Fq.st [.n V.x, .n V.y, .v (.bool V.i)], none⟩] E (fun hp => ⟨?_, ?_, ?_, ?_, ?_, ?_, ?_, ?_, ?_, tv⟩) ?_
 ·exact lS 0 6 hp (mq 3 rfl) zAm (sqo 8)
 ·exact lS 0 5 hp (mq 0 rfl) zAk (sqo 13)
 ·exact wXb (Fq.st [.n a, .n b, .n m]) (Fq.st [.n o4, .n o5, .v (.bool i5)]) hp zKm (sqi 0) (sqi 1) fun v v' w h h' => exNegS (P := ⟨o4, o5, i5⟩) (R := (V, ev)) h h' BM.out BA.out BB.out ⟨BO4.out, BO5.out⟩ G5.out
 ·exact zAe hp fo tv (sqi 2)
 ·exact zA5 hp fo tv (sqi 3) (fun v1 v2 w h1 h2 => ⟨_, rfl, h1⟩)
 ·exact zA5 hp fo tv (sqi 3) (fun v1 v2 w h1 h2 => ⟨_, rfl, h2⟩)
 ·exact aS hp (mq 0 rfl) zA1 zC9
 ·exact sS 4 hp (mq 0 rfl) zAy
 ·exact zAo hp fo tv (sqi 5)
 intro L vs w11 nb hL hC hn E11
 have e5 := wXi hC 5
 have e8 := wXi hC 8
 have e6 : vs 6 = .pointer (some ⟨nb 6, 0, none⟩) := hn _ (mq 0 rfl)
 have E := E11; simp only [LM, zAb] at E
 rw [zAa hL]
 simp only [SP, Nat.zero_add, Nat.reduceAdd]
 rw [e5, e8, e6]
 generalize nb 6 = b11_6 at E ⊢
 generalize vs 0 = u11_0
 generalize vs 1 = u11_1
 generalize vs 2 = u11_2
 generalize vs 3 = u11_3
 generalize vs 4 = u11_4
 clear e5 e8 e6 hC hn E11 hL vs L nb
 go_upto_region 11 with (fail)
 refine rg [Fq.st [.n a, .n b, .n m], Fq.st [.n o4, .n o5, .v (.bool i5)], Fq.tup2 (Fq.st [.n V.x, .n V.y, .v (.bool V.i)]) (Fq.is (.int .i64 ev)), Fq.tup2 (Fq.st [.n V.x, .n V.y, .v (.bool V.i)]) (Fq.is (.int .i64 ev)), Fq.st [.n V.x, .n V.y, .v (.bool V.i)], Fq.is (.int .i64 ev), Fq.any, Fq.any, Fq.is (.int .i64 ev)] N10 [⟨6, 7, 5, Fq.st [.n 0, .n 0, .v (.bool false)], Fq.st [.n V.x, .n V.y, .v (.bool V.i)], none⟩] E (fun hp => ⟨?_, ?_, ?_, ?_, ?_, ?_, ?_, ?_, ?_, tv⟩) ?_
 ·exact lS 0 6 hp (mq 4 rfl) zAm (sqo 8)
 ·exact lS 0 5 hp (mq 1 rfl) zAk (sqo 13)
 ·exact wXb (Fq.st [.n a, .n b, .n m]) (Fq.st [.n o4, .n o5, .v (.bool i5)]) hp zNf (sqi 0) (sqi 1) fun v v' w h h' => exRNegS (P := ⟨o4, o5, i5⟩) (R := (V, ev)) h h' BM.out BA.out BB.out ⟨BO4.out, BO5.out⟩ G5.out
 ·exact zAe hp fo tv (sqi 2)
 ·exact zA5 hp fo tv (sqi 3) (fun v1 v2 w h1 h2 => ⟨_, rfl, h1⟩)
 ·exact zA5 hp fo tv (sqi 3) (fun v1 v2 w h1 h2 => ⟨_, rfl, h2⟩)
 ·exact aS hp (mq 0 rfl) zA1 zC9
 ·exact sS 4 hp (mq 0 rfl) zAy
 ·exact zAo hp fo tv (sqi 5)
 intro L vs w12 nb hL hC hn E12
 have e5 := wXi hC 5
 have e8 := wXi hC 8
 have e6 : vs 6 = .pointer (some ⟨nb 6, 0, none⟩) := hn _ (mq 0 rfl)
 have E := E12; simp only [LM, zAb] at E
 rw [zAa hL]
 simp only [SP, Nat.zero_add, Nat.reduceAdd]
 rw [e5, e8, e6]
 generalize nb 6 = b12_6 at E ⊢
 generalize vs 0 = u12_0
 generalize vs 1 = u12_1
 generalize vs 2 = u12_2
 generalize vs 3 = u12_3
 generalize vs 4 = u12_4
 clear e5 e8 e6 hC hn E12 hL vs L nb
 go_upto_region 12 with (fail)
 refine rg [Fq.is (.int .i64 ev), Fq.is (.int .i64 ev), yT, yT, Fq.st [.n V.x, .n V.y, .v (.bool V.i)], Fq.st [.n V.x, .n V.y, .v (.bool V.i)], yT, yT, yT, Fq.st [.n a, .n b, .n m], Fq.num N, Fq.st [.n T.x, .n T.y, .v (.bool T.i)], Fq.st [.n S2.x, .n S2.y, .v (.bool S2.i), .n d2, .v (.int .i64 er2)], Fq.st [.n a, .n b, .n m], Fq.num N, Fq.st [.n T.x, .n T.y, .v (.bool T.i)], Fq.st [.n S2.x, .n S2.y, .v (.bool S2.i), .n d2, .v (.int .i64 er2)], yT, yT, yT, Fq.st [.n o1, .n o2, .n o3], Fq.num N, Fq.st [.n o4, .n o5, .v (.bool i5)], Fq.st [.n S3.x, .n S3.y, .v (.bool S3.i), .n d3, .v (.int .i64 er3)], Fq.st [.n o1, .n o2, .n o3], Fq.num N, Fq.st [.n o4, .n o5, .v (.bool i5)], Fq.st [.n S3.x, .n S3.y, .v (.bool S3.i), .n d3, .v (.int .i64 er3)], yT, yT, yT, yT, yT, yT] N11 [] E (fun hp => ⟨?_, ?_, ?_, ?_, ?_, ?_, ?_, ?_, ?_, ?_, ?_, ?_, ?_, ?_, ?_, ?_, ?_, ?_, ?_, ?_, ?_, ?_, ?_, ?_, ?_, ?_, ?_, ?_, ?_, ?_, ?_, ?_, ?_, ?_, tv⟩) ?_
 ·exact zAe hp fo tv (sqo 15)
 ·exact zAe hp fo tv (sqo 17)
 ·exact zAi (F := fun v _ => v = .int .i64 ev) (G := fun v _ => v = .int .i64 ev) hp fo tv (sqi 0) (sqi 1) (fun ρ w hc h h' => ⟨.bool true, by simp [execOp, go_sem, h, h'], rfl⟩)
 ·exact zAe hp fo tv (sqi 2)
 ·exact lG 0 5 hp gqi (mq 1 rfl) zAk (sqo 14) fun v w h => h
 ·exact lG 0 5 hp gqi (mq 0 rfl) zAk (sqo 16) fun v w h => h
 ·exact zAt (F := (Fq.st [.n V.x, .n V.y, .v (.bool V.i)]).P) (G := (Fq.st [.n V.x, .n V.y, .v (.bool V.i)]).P) hp fo gqi (zGi) (sqi 4) (sqi 5) (fun v v' w h h' => zGl (P := V) (Q := V) h h' (zMa _))
 ·exact zAi (F := fun v _ => v = .bool true) (G := fun v _ => v = .bool true) hp fo tv (sqi 3) (sqi 6) (fun ρ w hc h h' => ⟨_, by simp [execOp, go_sem, h, h'], rfl⟩)
 ·exact zAe hp fo tv (sqi 7)
 ·exact lG 0 6 hp gqi (mq 5 rfl) zAm (sqo 8) fun v w h => h
 ·exact zAz (off := 0) hp fo gqi (mq 4 rfl) (.inl rfl) (Nat.le_of_ble_eq_true rfl) (sqo 11) (fun us w hl h => zAh hl h)
 ·exact lG 0 5 hp gqi (mq 7 rfl) zAk (sqo 10) fun v w h => h
 ·exact zBa (F := (Fq.st [.n a, .n b, .n m]).P) (G := (Fq.num N).P) (F3 := (Fq.st [.n T.x, .n T.y, .v (.bool T.i)]).P) hp fo gqi (zHl) (sqi 9) (sqi 10) (sqi 11) (fun v v' u w h h' g => zHp (P := T) (R := (S2, d2, er2)) h h' g BM.out BA.out BB.out BN.out BT.out G6.out)
 ·exact lG 0 6 hp gqi (mq 5 rfl) zAm (sqo 8) fun v w h => h
 ·exact zAz (off := 0) hp fo gqi (mq 4 rfl) (.inl rfl) (Nat.le_of_ble_eq_true rfl) (sqo 11) (fun us w hl h => zAh hl h)
 ·exact lG 0 5 hp gqi (mq 7 rfl) zAk (sqo 10) fun v w h => h
 ·exact zBa (F := (Fq.st [.n a, .n b, .n m]).P) (G := (Fq.num N).P) (F3 := (Fq.st [.n T.x, .n T.y, .v (.bool T.i)]).P) hp fo gqi (zKl) (sqi 13) (sqi 14) (sqi 15) (fun v v' u w h h' g => zK3 (P := T) (R := (S2, d2, er2)) h h' g BM.out BA.out BB.out BN.out BT.out G6.out)
 ·exact zAt (F := (Fq.st [.n S2.x, .n S2.y, .v (.bool S2.i), .n d2, .v (.int .i64 er2)]).P) (G := (Fq.st [.n S2.x, .n S2.y, .v (.bool S2.i), .n d2, .v (.int .i64 er2)]).P) hp fo gqi (zHm) (sqi 12) (sqi 16) (fun v v' w h h' => zHs (R := (S2, d2, er2)) h h')
 ·exact zAi (F := fun v _ => v = .bool true) (G := fun v _ => v = .bool true) hp fo tv (sqi 8) (sqi 17) (fun ρ w hc h h' => ⟨_, by simp [execOp, go_sem, h, h'], rfl⟩)
 ·exact zAe hp fo tv (sqi 18)
 ·exact lG 0 6 hp gqi (mq 3 rfl) zAm (sqo 12) fun v w h => h
 ·exact zAz (off := 0) hp fo gqi (mq 4 rfl) (.inl rfl) (Nat.le_of_ble_eq_true rfl) (sqo 11) (fun us w hl h => zAh hl h)
 ·exact lG 0 5 hp gqi (mq 2 rfl) zAk (sqo 13) fun v w h => h
 ·exact zBa (F := (Fq.st [.n o1, .n o2, .n o3]).P) (G := (Fq.num N).P) (F3 := (Fq.st [.n o4, .n o5, .v (.bool i5)]).P) hp fo gqi (zHl) (sqi 20) (sqi 21) (sqi 22) (fun v v' u w h h' g => zHp (P := (⟨o4, o5, i5⟩ : Pt)) (R := (S3, d3, er3)) h h' g BO3.out BO1.out BO2.out BN.out ⟨BO4.out, BO5.out⟩ G7.out)
 ·exact lG 0 6 hp gqi (mq 3 rfl) zAm (sqo 12) fun v w h => h
 ·exact zAz (off := 0) hp fo gqi (mq 4 rfl) (.inl rfl) (Nat.le_of_ble_eq_true rfl) (sqo 11) (fun us w hl h => zAh hl h)
 ·exact lG 0 5 hp gqi (mq 2 rfl) zAk (sqo 13) fun v w h => h
 ·exact zBa (F := (Fq.st [.n o1, .n o2, .n o3]).P) (G := (Fq.num N).P) (F3 := (Fq.st [.n o4, .n o5, .v (.bool i5)]).P) hp fo gqi (zKl) (sqi 24) (sqi 25) (sqi 26) (fun v v' u w h h' g => zK3 (P := (⟨o4, o5, i5⟩ : Pt)) (R := (S3, d3, er3)) h h' g BO3.out BO1.out BO2.out BN.out ⟨BO4.out, BO5.out⟩ G7.out)
 ·exact zAt (F := (Fq.st [.n S3.x, .n S3.y, .v (.bool S3.i), .n d3, .v (.int .i64 er3)]).P) (G := (Fq.st [.n S3.x, .n S3.y, .v (.bool S3.i), .n d3, .v (.int .i64 er3)]).P) hp fo gqi (zHm) (sqi 23) (sqi 27) (fun v v' w h h' => zHs (R := (S3, d3, er3)) h h')
 ·exact zAi (F := fun v _ => v = .bool true) (G := fun v _ => v = .bool true) hp fo tv (sqi 19) (sqi 28) (fun ρ w hc h h' => ⟨_, by simp [execOp, go_sem, h, h'], rfl⟩)
 ·exact zAe hp fo tv (sqi 29)
 ·exact zAe hp fo gqi (sqo 7)
 ·exact zAi (F := fun v _ => v = .bool true) (G := fun v _ => v = .bool true) hp fo tv (sqi 30) (sqi 31) (fun ρ w hc h h' => ⟨_, by simp [execOp, go_sem, h, h'], rfl⟩)
 ·exact zAo hp fo tv (sqi 32)
 intro L vs w13 nb hL hC hn E13
 have e0 := wXi hC 0
 have e1 := wXi hC 1
 have e2 := wXi hC 2
 have e3 := wXi hC 3
 have e6 := wXi hC 6
 have e7 := wXi hC 7
 have e8 := wXi hC 8
 have e17 := wXi hC 17
 have e18 := wXi hC 18
 have e19 := wXi hC 19
 have e28 := wXi hC 28
 have e29 := wXi hC 29
 have e30 := wXi hC 30
 have e31 := wXi hC 31
 have e32 := wXi hC 32
 have e33 := wXi hC 33
 have E := E13; simp only [LM, zAb] at E
 rw [zAa hL]
 simp only [SP, Nat.zero_add, Nat.reduceAdd]
 rw [e0, e1, e2, e3, e6, e7, e8, e17, e18, e19, e28, e29, e30, e31, e32, e33]
 generalize vs 4 = u13_4
 generalize vs 5 = u13_5
 generalize vs 9 = u13_9
 generalize vs 10 = u13_10
 generalize vs 11 = u13_11
 generalize vs 12 = u13_12
 generalize vs 13 = u13_13
 generalize vs 14 = u13_14
 generalize vs 15 = u13_15
 generalize vs 16 = u13_16
 generalize vs 20 = u13_20
 generalize vs 21 = u13_21
 generalize vs 22 = u13_22
 generalize vs 23 = u13_23
 generalize vs 24 = u13_24
 generalize vs 25 = u13_25
 generalize vs 26 = u13_26
 generalize vs 27 = u13_27
 clear e0 e1 e2 e3 e6 e7 e8 e17 e18 e19 e28 e29 e30 e31 e32 e33 hC hn E13 hL vs L nb
 clear G1 G2 G3 G4 G5 G6 G7 EM EA EX EY EB ET EN EO1 EO2 EO3 EO4 EO5 HHM HHA HHX HHY HHQ HK1 HK2 HK3 HK4 HK5 HK6 HON
 clear BM BA BB BP BT BN BO1 BO2 BO3 BO4 BO5
 go_wp2
 refine bodyPost_ret (v := .bool true) ?_ rfl ⟨_, rfl, E.below, rfl⟩
 simp [results, Tryz.results3, go_sem]

theorem zMt (w : World) (M9 A X Y Q : Int) (hM : 0 ≤ M9 ∧ M9 ≤ 255) (hA : 0 ≤ A ∧ A ≤ 255) (hX : 0 ≤ X ∧ X ≤ 255) (hY : 0 ≤ Y ∧ Y ≤ 255) (hQ : 0 ≤ Q ∧ Q ≤ 65535) (n1 : Bool) (a1 : Option Addr) (k1 c1 : Nat) (xs1 : List Int) (h1 : Sl w a1 k1 c1 xs1) (hk1 : k1 ≤ 9223372036854775807) (n2 : Bool) (a2 : Option Addr) (k2 c2 : Nat) (xs2 : List Int) (h2 : Sl w a2 k2 c2 xs2) (hk2 : k2 ≤ 9223372036854775807) (n3 : Bool) (a3 : Option Addr) (k3 c3 : Nat) (xs3 : List Int) (h3 : Sl w a3 k3 c3 xs3) (hk3 : k3 ≤ 9223372036854775807) (n4 : Bool) (a4 : Option Addr) (k4 c4 : Nat) (xs4 : List Int) (h4 : Sl w a4 k4 c4 xs4) (hk4 : k4 ≤ 9223372036854775807) (n5 : Bool) (a5 : Option Addr) (k5 c5 : Nat) (xs5 : List Int) (h5 : Sl w a5 k5 c5 xs5) (hk5 : k5 ≤ 9223372036854775807) (i5 : Bool) (n6 : Bool) (a6 : Option Addr) (k6 c6 : Nat) (xs6 : List Int) (h6 : Sl w a6 k6 c6 xs6) (hk6 : k6 ≤ 9223372036854775807) : Calls Tryz.prog 3 #[.agg #[.int .u8 M9, .int .u8 A, .int .u8 X, .int .u8 Y, .int .u16 Q], .agg #[.bool n1, .slice a1 k1 c1, .bool n2, .slice a2 k2 c2, .bool n3, .slice a3 k3 c3, .bool n4, .slice a4 k4 c4, .bool n5, .slice a5 k5 c5, .bool i5], .agg #[.bool n6, .slice a6 k6 c6]] w fun e w' => e = .returned (.bool true) ∧ Below w.heap.size w w' := by
 refine (zMs w (v := .agg #[.int .u8 M9, .int .u8 A, .int .u8 X, .int .u8 Y, .int .u16 Q]) ⟨[.int .u8 M9, .int .u8 A, .int .u8 X, .int .u8 Y, .int .u16 Q], rfl, _, rfl, rfl, _, rfl, rfl, _, rfl, rfl, _, rfl, rfl, _, rfl, rfl, rfl⟩ hM hA hX hY hQ n1 a1 k1 c1 xs1 h1 hk1 n2 a2 k2 c2 xs2 h2 hk2 n3 a3 k3 c3 xs3 h3 hk3 n4 a4 k4 c4 xs4 h4 hk4 n5 a5 k5 c5 xs5 h5 hk5 i5 n6 a6 k6 c6 xs6 h6 hk6).mono ?_
 rintro e w' ⟨v', rfl, hb, rfl⟩
 exact ⟨rfl, hb⟩

end Go.Proofs.YtihhlaagndingaaGreat
