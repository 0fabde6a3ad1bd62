/- Ol, Sc, Tc, Td. -/
import Derived.Test.YtihhlaagndingaaBg6
namespace Go.Proofs.Ytihhlaagndingaa
open Go Go.RowKit

theorem info_point : (Try.prog.info? 37).map (fun i => (i.zero, i.size, i.bytes)) = some (some (.agg #[.bool false, .slice none 0 0, .bool false, .slice none 0 0, .bool false]), 5, 72) := by kernel_rfl
def ptF (P : Pt) : List Fd := [.n P.x, .n P.y, .v (.bool P.i)]
def ptsY (A B M : Int) (x : Nat) : Nat → List Pt
 | 0 => []
 | y + 1 => ptsY A B M x y ++ if (y : Int) * y % M = (((x : Int) * (x * x)) + (A * x) + B) % M then [⟨x, y, false⟩] else []
def ptsX (A B M : Int) : Nat → List Pt
 | 0 => [⟨0, 0, true⟩]
 | x + 1 => ptsX A B M x ++ ptsY A B M x M.toNat
def AllOn (A B M : Int) (Ps : List Pt) : Prop := ∀ P ∈ Ps, onB A B M P.x P.y P.i = true
theorem StAt.of_box {w : World} {b m : Nat} {fs : List Fd} (h : Bq w b m (Fq.st fs)) : StAt w b 0 fs := by
 obtain ⟨us, _, h2, h3⟩ := box_st h
 exact ⟨us, h3, fun j hj => by rw [Nat.zero_add]; exact h2 j hj⟩
def RowC (B : Nat) (w : World) (v : Value) (fss : List (List Fd)) : Prop := ∃ g cap, v = .slice (some ⟨g, 0, none⟩) fss.length cap ∧ B ≤ g ∧ ∀ i fs, fss[i]? = some fs → ∃ pre es, pre.length = i * 5 ∧ es.length = 5 ∧ Fits w fs es ∧ At w g (pre ++ es) ∧ ∀ u ∈ pre, tameB u = true
theorem Ls.rowC {T : Nat} {w : World} {B B' : Nat} {v : Value} {fss : List (List Fd)} (h : Ls T 5 w B v fss) (ht : TameRow w v) (h0 : 0 < fss.length) (hB : B' ≤ B) : RowC B' w v fss := by
 obtain ⟨us, h, hE⟩ := h
 have h5 := h
 rcases h.2 with ⟨rfl, h1⟩ | ⟨g, cap, cur, rfl, h1, h2, h3, h4, h6, h7⟩
 ·omega
 ·obtain ⟨g', n', cap', cur', e', hv, h8, h9⟩ := ht
  simp only [Value.slice.injEq, Option.some.injEq, Addr.mk.injEq, and_true] at hv
  obtain ⟨rfl, rfl, rfl⟩ := hv
  rw [h2] at h8
  simp only [Option.some.injEq, Obj.cells.injEq, and_true] at h8
  obtain ⟨rfl, rfl⟩ := h8
  refine ⟨g, cap, rfl, Nat.le_trans hB h1, fun i fs hi => ?_⟩
  obtain ⟨es, g1, g2, g3, g4, g5⟩ := hE i fs hi
  have hl : i < fss.length := (List.getElem?_eq_some_iff.1 hi).1
  have hul := h5.1
  have hm1 : (i + 1) * 5 ≤ fss.length * 5 := Nat.mul_le_mul_right 5 (by omega)
  rw [Nat.add_mul, Nat.one_mul] at hm1
  have hpl : (us.take (i * 5)).length = i * 5 := by rw [List.length_take]; omega
  refine ⟨us.take (i * 5), es, hpl, g1, g4, fun j hj => ?_, fun u hu => h9 u ?_⟩
  ·rw [List.length_append, hpl, g1] at hj
   refine ⟨?_, by simp [World.frozen?, h2]⟩
   rw [World.ownsRow.cellAt h5 j (by omega)]
   by_cases hji : j < i * 5
   ·rw [List.getD, List.getElem?_append_left (by omega), List.getElem?_take_of_lt hji, List.getElem?_eq_getElem (by omega)]
    rfl
   ·obtain ⟨k, rfl⟩ : ∃ k, j = i * 5 + k := ⟨j - i * 5, by omega⟩
    rw [g2 k (by omega), List.getD, List.getElem?_append_right (by omega), hpl, Nat.add_sub_cancel_left, List.getElem?_eq_getElem (show k < es.length by omega)]
    rfl
  ·have := List.mem_of_mem_take hu
   rw [← h7] at this
   exact List.mem_of_mem_take this
theorem RBox.of {w V W : World} {v : Value} {br : Nat} {z : Int} (h : Bq W br 2 (Fq.num z)) (hb : V.heap.size ≤ br) (ht : TameRow V v) : RBox W v.ownBlock br z := by
 obtain ⟨p, q, h1, h2, h3⟩ := box_num h
 have hl := h.lt
 obtain ⟨n, ao, k, c, e⟩ := h3.parts
 have h4 := h3
 rw [e] at h4
 injection e with e
 have e2 := congrArg Array.toList e
 simp at e2
 obtain ⟨rfl, rfl⟩ := e2
 refine ⟨hl, ?_, n, ao, k, c, h1, h2, h4⟩
 obtain ⟨g, n', cap, cur, et, rfl, h5, _⟩ := ht
 intro e
 simp [Value.ownBlock] at e
 have := (Array.getElem?_eq_some_iff.1 h5).1
 omega
theorem on_pt {A B M x y : Int} (hc : curveB A B M = true) (hx : 0 ≤ x ∧ x < M) (hy : 0 ≤ y ∧ y < M) (h : y * y % M = (((x * (x * x)) + (A * x) + B) % M)) : onB A B M x y false = true := by
 refine on_of hc (fun e => by cases e) fun _ => ⟨⟨hx.1, hx.2, hy.1, hy.2⟩, ?_⟩
 have h1 := cg_iff.2 h
 have e : y * y - ((x * x + A) * x + B) = y * y - ((x * (x * x)) + (A * x) + B) := by rw [Int.add_mul, Int.mul_assoc]
 rw [e]
 exact h1
theorem AllOn.snoc {A B M : Int} {Ps : List Pt} {P : Pt} (h : AllOn A B M Ps) (h' : onB A B M P.x P.y P.i = true) : AllOn A B M (Ps ++ [P]) := by
 intro Q hQ
 rcases List.mem_append.1 hQ with hQ | hQ
 ·exact h Q hQ
 ·simp at hQ; subst hQ; exact h'
theorem ptF_snoc (Ps : List Pt) (P : Pt) : (Ps ++ [P]).map ptF = Ps.map ptF ++ [ptF P] := by simp
set_option maxRecDepth 100000 in
set_option maxHeartbeats 4000000 in
theorem exPoints {w : World} {v : Value} {A B M : Int} (h : (Fq.st [.n A, .n B, .n M]).P v w) (hm : 3 < M ∧ M ≤ 5000 ∧ M % 2 = 1) (hA : 0 ≤ A ∧ A < M) (hB : 0 ≤ B ∧ B < M) :
  Calls Try.prog 11 #[v] w fun e w' => ∃ v', e = .returned v' ∧ Below w.heap.size w w' ∧ 0 < (ptsX A B M M.toNat).length ∧ (ptsX A B M M.toNat).length ≤ 30000000 ∧ AllOn A B M (ptsX A B M M.toNat) ∧ RowC w.heap.size w' v' ((ptsX A B M M.toNat).map ptF) := by
 have HM := hidd hm
 have HA := hidd hA
 have HB := hidd hB
 have HCV : Hid (curveB A B M = true) := by show _ = _; simp only [curveB, resB, Bool.and_eq_true, decide_eq_true_eq]; omega
 have BM : Hid (ab M < pw 5) := ab5 (by omega)
 have BA : Hid (ab A < pw 5) := ab5 (by omega)
 have BB : Hid (ab B < pw 5) := ab5 (by omega)
 clear hm hA hB
 obtain ⟨_, rfl, hf0⟩ := h
 have hF0 := hf0
 obtain ⟨y0_p0, y0_q0, _, rfl, _y0_n0, y0_p1, y0_q1, _, rfl, _y0_n1, y0_p2, y0_q2, _, rfl, _y0_n2, rfl⟩ := hf0
 obtain ⟨w1, b1, hw1, hb1, hs1, E⟩ := fr_start w (F := Fq.st [.n A, .n B, .n M]) (us := [y0_p0, y0_q0, y0_p1, y0_q1, y0_p2, y0_q2]) 31 rfl (by simp) (hF0.tame) (show (Fq.st [.n A, .n B, .n M]).P _ w from ⟨_, rfl, hF0⟩)
 go_enter Try.func11, Try.ntmps11
 go_upto_region 1 with (fail)
 rw [← hw1]
 rw [← hb1]
 clear hw1 hb1 hs1
 refine region_fr (C := [Fq.is (.pointer (some ⟨b1, 4, none⟩)), Fq.num M, Fq.tup2 (Fq.is (.int .i64 M)) (Fq.is (.bool true)), Fq.tup2 (Fq.is (.int .i64 M)) (Fq.is (.bool true)), Fq.is (.int .i64 M), Fq.is (.bool true), Fq.is (.int .i64 M), Fq.is (.bool true)]) (ks := [none]) (new := []) E rfl (by kernel_rfl) rfl rfl (fun hp => ⟨?_, ?_, ?_, ?_, ?_, ?_, ?_, ?_, trivial⟩) ?_
 ·exact q_addr (b := b1) (off := 0) (off' := 4) hp (free_of rfl) trivial (sqo 1) (fun ρ w h => by simp [execOp, go_sem, h]) (fun _ => rfl)
 ·exact q_loadSt (off := 4) (l := 2) (fs := [.n A, .n B, .n M]) (gs := [.n M]) hp (free_of rfl) trivial (mq 0 rfl) (.inl rfl) rfl row_api_Int rfl (sqi 0) (fun v w h => st_num h)
 ·exact q_call1 (F := (Fq.num M).P) hp (free_of rfl) trivial (enq_R_Low) (sqi 1) (fun v w h => exRLow h (by have := HM.out; omega) (by have := HM.out; omega))
 ·exact q_move hp (free_of rfl) trivial (sqi 2)
 ·exact q_extract2 hp (free_of rfl) trivial (sqi 3) (fun v1 v2 w h1 h2 => ⟨_, rfl, h1⟩)
 ·exact q_extract2 hp (free_of rfl) trivial (sqi 3) (fun v1 v2 w h1 h2 => ⟨_, rfl, h2⟩)
 ·exact q_assign hp (free_of rfl) trivial (sqi 4)
 ·exact q_assign hp (free_of rfl) trivial (sqi 5)
 intro L vs w2 nb hL hC hn E2
 have e0 : vs 0 = .pointer (some ⟨b1, 4, none⟩) := hC 0 (by simp)
 have e4 : vs 4 = .int .i64 M := hC 4 (by simp)
 have e5 : vs 5 = .bool true := hC 5 (by simp)
 have e6 : vs 6 = .int .i64 M := hC 6 (by simp)
 have e7 : vs 7 = .bool true := hC 7 (by simp)
 have E : Fr w [(b1, 6, Fq.st [.n A, .n B, .n M])] w2 := E2
 rw [lay_all hL]
 simp only [putAll, dstOf, List.length_cons, List.length_nil, Nat.zero_add, Nat.reduceAdd, List.getElem?_toArray, List.getElem?_cons_zero, List.getElem?_cons_succ, Option.bind_some, Act.put, List.setIfInBounds_toArray, List.set_cons_succ, List.set_cons_zero]
 rw [e0, e4, e5, e6, e7]
 generalize vs 1 = u2_1
 generalize vs 2 = u2_2
 generalize vs 3 = u2_3
 clear e0 e4 e5 e6 e7 hC hn E2 hL vs L nb
 have HC0 := hidd (StAt.of_box (E.box 0 rfl))
 have HCL := hidd (E.box 0 rfl).lt
 have HE0 := hidd E.below
 clear E
 obtain ⟨i0, hi, hz0, hz1, hz2⟩ := info_parts info_point
 obtain ⟨W0, rfl⟩ : ∃ W0, W0 = w2 := ⟨_, rfl⟩
 go_wp2
 go_loopw [5, 6] (fun vl vx W => ∃ (x : Nat) (Ps : List Pt), vx = .int .i64 (x : Int) ∧ (x : Int) ≤ M ∧ 0 < Ps.length ∧ Ps.length ≤ x * 5000 + 1 ∧ AllOn A B M Ps ∧ Ls 37 5 W W0.heap.size vl (Ps.map ptF) ∧ TameRow W vl ∧ Below W0.heap.size W0 W ∧ Ps = ptsX A B M x) (fun _ vx _ => (M - intOf vx).toNat)
 case atStart => exact ⟨0, [⟨0, 0, true⟩], rfl, by have := HM.out; omega, by simp, by simp, fun P hP => by simp at hP; subst hP; exact on_of HCV.out (fun _ => ⟨rfl, rfl⟩) (fun e => by cases e), Ls.one W0 (es := [.bool false, .slice none 0 0, .bool false, .slice none 0 0, .bool true]) (Nat.le_refl _) rfl ⟨_, _, _, rfl, Num.zero _, _, _, _, rfl, Num.zero _, _, rfl, rfl, rfl⟩ rfl, TameRow.made (es := [.bool false, .slice none 0 0, .bool false, .slice none 0 0, .bool true]) (by intro u hu; simp at hu; rcases hu with rfl | rfl | rfl | rfl | rfl <;> rfl), alloc_below _ _, rfl⟩
 case round =>
  obtain ⟨V2, rfl⟩ : ∃ V2, V2 = wr := ⟨_, rfl⟩
  obtain ⟨x, Ps, rfl, hxM, hP0, hPl, hon, HL, HT, HBW, hPE⟩ := hrel
  have HPE := hidd hPE
  clear hPE
  have hml : (Ps.map ptF).length = Ps.length := List.length_map ..
  obtain ⟨ao2, cap2, rfl⟩ := id HL.shape
  rw [hml] at HL HT ⊢
  by_cases hx : (x : Int) < M
  ·have HXI := hidd hx
   have HP := hidd (And.intro hP0 hPl)
   have HON := hidd hon
   have HLH := hidd HL
   have HTH := hidd HT
   have HBH := hidd HBW
   have BX : Hid (ab (x : Int) < pw 3) := ab_i64 (by omega) (by have := HM.out; omega)
   have HXR : Hid (-9223372036854775808 ≤ (x : Int) ∧ (x : Int) ≤ 9223372036854775807) := by have := HM.out; show _ ∧ _; omega
   obtain ⟨R, hR⟩ : ∃ R, R = ((((x : Int) * (x * x)) + (A * x) + B) % M) := ⟨_, rfl⟩
   have HR := hidd hR
   have BR : Hid (ab R < pw 5) := by show _ < _; rw [hR]; exact ab_mod' (by have := HM.out; omega) BM.out
   have hV := HBW.size
   have HCC : ∀ w, Below V2.heap.size V2 w → StAt w b1 0 [.n A, .n B, .n M] := fun w hb => (HC0.out.mono HCL.out HBW).mono (Nat.lt_of_lt_of_le HCL.out hV) hb
   clear hxM hP0 hPl hon HL HT HBW hR hx hV hml
   have E := Fr.start V2
   go_upto_region 4 with (fail)
   refine region_fr (C := [Fq.is (.int .i64 (x : Int)), Fq.is (.int .i64 M), Fq.is (.bool true)]) (ks := []) (new := []) E rfl (by kernel_rfl) rfl rfl (fun hp => ⟨?_, ?_, ?_, trivial⟩) ?_
   ·exact q_move hp (free_of rfl) trivial (sqo 6)
   ·exact q_move hp (free_of rfl) trivial (sqo 3)
   ·exact q_two (F := fun v _ => v = .int .i64 (x : Int)) (G := fun v _ => v = .int .i64 M) hp (free_of rfl) trivial (sqi 0) (sqi 1) (fun ρ w hc h h' => ⟨.bool true, by simp [execOp, go_sem, h, h', HXI.out], rfl⟩)
   intro L vs w3 nb hL hC hn E3
   have e0 : vs 0 = .int .i64 (x : Int) := hC 0 (by simp)
   have e1 : vs 1 = .int .i64 M := hC 1 (by simp)
   have e2 : vs 2 = .bool true := hC 2 (by simp)
   have E : Fr V2 [] w3 := E3
   rw [lay_all hL]
   simp only [putAll, dstOf, List.length_cons, List.length_nil, Nat.zero_add, Nat.reduceAdd, List.getElem?_toArray, List.getElem?_cons_zero, List.getElem?_cons_succ, Option.bind_some, Act.put, List.setIfInBounds_toArray, List.set_cons_succ, List.set_cons_zero]
   rw [e0, e1, e2]
   clear e0 e1 e2 hC hn E3 hL vs L nb
   go_upto_region 6 with (fail)
   refine region_fr (C := [Fq.st [.n A, .n B, .n M], Fq.is (.int .i64 (x : Int)), Fq.num (x : Int), Fq.num R, Fq.any, Fq.any]) (ks := []) (new := [⟨4, 5, 2, Fq.num 0, Fq.num R, none⟩]) E rfl (by kernel_rfl) rfl rfl (fun hp => ⟨?_, ?_, ?_, ?_, ?_, ?_, trivial⟩) ?_
   ·exact q_loadStOut (off := 0) (l := 6) (fs := [.n A, .n B, .n M]) hp (free_of rfl) trivial HCC row_api_Mod rfl (sqo 1) (fun v w h => h)
   ·exact q_move hp (free_of rfl) trivial (sqo 6)
   ·exact q_call1 (F := (Fq.is (.int .i64 (x : Int))).P) hp (free_of rfl) trivial (enq_R_Of) (sqi 1) (fun v w h => (by subst h; exact rOfK w (x : Int) HXR.out.1 HXR.out.2))
   ·exact q_call2 (F := (Fq.st [.n A, .n B, .n M]).P) (G := (Fq.num (x : Int)).P) hp (free_of rfl) trivial (enq_f_algorist_algoristref06_Right) (sqi 0) (sqi 2) (fun v v' w h h' => (by rw [HR.out]; exact exRight h h' BM.out BA.out BB.out (Int.lt_of_lt_of_le BX.out (pw_le (by omega))) (by have := HM.out; omega)))
   ·exact q_allocInt hp (mq 0 rfl) rfl rfl rfl rfl (Nat.ne_of_beq_eq_false rfl) (fun _ _ => trivial) (old_ne rfl) (newk_ne rfl) (fun w => Num.zero w)
   ·exact q_storeNewInt hp (mq 0 rfl) rfl rfl rfl (own_ptr rfl rfl (by simp) rfl) (sq_in 3 rfl rfl (by simp) rfl (fun v w h => intV_num h)) (fun _ _ => trivial) (old_ne rfl) (newi_ne rfl)
   intro L vs w4 nb hL hC hn E4
   have e1 : vs 1 = .int .i64 (x : Int) := hC 1 (by simp)
   have e4 : vs 4 = .pointer (some ⟨nb 4, 0, none⟩) := hn _ (mq 0 rfl)
   have E : Fr V2 [(nb 4, 2, Fq.num R)] w4 := E4
   rw [lay_all hL]
   simp only [putAll, dstOf, List.length_cons, List.length_nil, Nat.zero_add, Nat.reduceAdd, List.getElem?_toArray, List.getElem?_cons_zero, List.getElem?_cons_succ, Option.bind_some, Act.put, List.setIfInBounds_toArray, List.set_cons_succ, List.set_cons_zero]
   rw [e1, e4]
   generalize nb 4 = b4_4 at E ⊢
   generalize vs 0 = u4_0
   generalize vs 2 = u4_2
   generalize vs 3 = u4_3
   clear e1 e4 hC hn E4 hL vs L nb
   have HRB := hidd (RBox.of (w := V2) (E.box 0 rfl) (E.boxes _ (List.mem_cons_self ..)).1 HTH.out)
   have HL3 := hidd (HLH.out.mono E.below)
   have HT3 := hidd (HTH.out.mono E.below)
   have HB3 := hidd (HBH.out.trans (E.below.mono HBH.out.size))
   clear E HCC HLH HTH HBH
   obtain ⟨V3, rfl⟩ : ∃ V3, V3 = w4 := ⟨_, rfl⟩
   go_wp2
   go_loopw [5, 8] (fun vl vy W => ∃ (y : Nat) (Qs : List Pt), vy = .int .i64 (y : Int) ∧ (y : Int) ≤ M ∧ 0 < Qs.length ∧ Qs.length ≤ x * 5000 + y + 1 ∧ AllOn A B M Qs ∧ Ls 37 5 W W0.heap.size vl (Qs.map ptF) ∧ TameRow W vl ∧ RBox W vl.ownBlock b4_4 R ∧ Below W0.heap.size W0 W ∧ Qs = ptsX A B M x ++ ptsY A B M x y) (fun _ vy _ => (M - intOf vy).toNat)
   case atStart => exact ⟨0, Ps, rfl, by have := HM.out; omega, HP.out.1, by have := HP.out.2; omega, HON.out, HL3.out, HT3.out, HRB.out, HB3.out, by rw [HPE.out]; exact (List.append_nil _).symm⟩
   case round =>
    clear HRB HL3 HT3 HB3 HP HON
    obtain ⟨V4, rfl⟩ : ∃ V4, V4 = wr := ⟨_, rfl⟩
    obtain ⟨y, Qs, rfl, hyM, hQ0, hQl, hon, HL, HT, HRB, HBW, hQE⟩ := hrel
    have HQE2 := hidd hQE
    clear hQE
    have hml : (Qs.map ptF).length = Qs.length := List.length_map ..
    obtain ⟨ao4, cap4, rfl⟩ := id HL.shape
    rw [hml] at HL HT HRB ⊢
    by_cases hy : (y : Int) < M
    ·have HYI := hidd hy
     have HQ := hidd (And.intro hQ0 hQl)
     have HON := hidd hon
     have HLH := hidd HL
     have HTH := hidd HT
     have HBH := hidd HBW
     have HRH := hidd HRB
     have HYR : Hid (-9223372036854775808 ≤ (y : Int) ∧ (y : Int) ≤ 9223372036854775807) := by have := HM.out; show _ ∧ _; omega
     obtain ⟨q, hq⟩ : ∃ q, q = (y : Int) * y % M := ⟨_, rfl⟩
     have hq0 : 0 ≤ q ∧ q < M := by rw [hq]; exact ⟨Int.emod_nonneg _ (by have := HM.out; omega), Int.emod_lt_of_pos _ (by have := HM.out; omega)⟩
     have hyy := prod_bd (K := 5000) (a := (y : Int)) (b := (y : Int)) (by have := HM.out; omega) (by have := HM.out; omega) (by omega)
     have HMUL : Hid (IntKind.i64.wrap ((y : Int) * y) = (y : Int) * y) := IntWalk.i64_in _ (by omega)
     have HTM : Hid (Int.tmod ((y : Int) * y) M = q) := by show _ = _; rw [Int.tmod_eq_emod_of_nonneg hyy.1, hq]
     have HQW : Hid (IntKind.i64.wrap q = q) := IntWalk.i64_in _ (by have := HM.out; omega)
     have HM0 : Hid (¬ M = 0) := by have := HM.out; show ¬ _; omega
     have HQR : Hid (-9223372036854775808 ≤ q ∧ q ≤ 9223372036854775807) := by have := HM.out; show _ ∧ _; omega
     have BQ : Hid (ab q < pw 3) := ab_i64 HQR.out.1 HQR.out.2
     have HQE := hidd hq
     have HRO : ∀ w, Below V4.heap.size V4 w → StAt w b4_4 0 [.n R] := fun w hb => (HRB.mono hb).st
     clear hyM hQ0 hQl hon HL HT HRB HBW hq hq0 hyy hy hml
     have E := Fr.start V4
     by_cases hqr : q = R
     ·have TK := hidd (decide_eq_true hqr)
      have HCD : Hid ((y : Int) * y % M = (((x : Int) * (x * x)) + (A * x) + B) % M) := by show _ = _; rw [← HQE.out, ← HR.out]; exact hqr
      go_upto_region 8 with (fail)
      refine region_fr (C := [Fq.is (.int .i64 (y : Int)), Fq.is (.int .i64 M), Fq.is (.bool true)]) (ks := []) (new := []) E rfl (by kernel_rfl) rfl rfl (fun hp => ⟨?_, ?_, ?_, trivial⟩) ?_
      ·exact q_move hp (free_of rfl) trivial (sqo 8)
      ·exact q_move hp (free_of rfl) trivial (sqo 3)
      ·exact q_two (F := fun v _ => v = .int .i64 (y : Int)) (G := fun v _ => v = .int .i64 M) hp (free_of rfl) trivial (sqi 0) (sqi 1) (fun ρ w hc h h' => ⟨.bool true, by simp [execOp, go_sem, h, h', HYI.out], rfl⟩)
      intro L vs w5 nb hL hC hn E5
      have e0 : vs 0 = .int .i64 (y : Int) := hC 0 (by simp)
      have e1 : vs 1 = .int .i64 M := hC 1 (by simp)
      have e2 : vs 2 = .bool true := hC 2 (by simp)
      have E : Fr V4 [] w5 := E5
      rw [lay_all hL]
      simp only [putAll, dstOf, List.length_cons, List.length_nil, Nat.zero_add, Nat.reduceAdd, List.getElem?_toArray, List.getElem?_cons_zero, List.getElem?_cons_succ, Option.bind_some, Act.put, List.setIfInBounds_toArray, List.set_cons_succ, List.set_cons_zero]
      rw [e0, e1, e2]
      clear e0 e1 e2 hC hn E5 hL vs L nb
      go_upto_region 10 with (fail)
      refine region_fr (C := [Fq.is (.int .i64 (y : Int)), Fq.is (.int .i64 (y : Int)), Fq.is (.int .i64 ((y : Int) * y)), Fq.is (.int .i64 M), Fq.is (.int .i64 q), Fq.num q, Fq.num R, Fq.is (.bool true)]) (ks := []) (new := []) E rfl (by kernel_rfl) rfl rfl (fun hp => ⟨?_, ?_, ?_, ?_, ?_, ?_, ?_, ?_, trivial⟩) ?_
      ·exact q_move hp (free_of rfl) trivial (sqo 8)
      ·exact q_move hp (free_of rfl) trivial (sqo 8)
      ·exact q_two (F := fun v _ => v = .int .i64 (y : Int)) (G := fun v _ => v = .int .i64 (y : Int)) hp (free_of rfl) trivial (sqi 0) (sqi 1) (fun ρ w hc h h' => ⟨.int .i64 ((y : Int) * y), by simp [execOp, go_sem, h, h', HMUL.out], rfl⟩)
      ·exact q_move hp (free_of rfl) trivial (sqo 3)
      ·exact q_two (F := fun v _ => v = .int .i64 ((y : Int) * y)) (G := fun v _ => v = .int .i64 M) hp (free_of rfl) trivial (sqi 2) (sqi 3) (fun ρ w hc h h' => ⟨.int .i64 q, by simp [execOp, go_sem, h, h', HM0.out, HTM.out], rfl⟩)
      ·exact q_call1 (F := (Fq.is (.int .i64 q)).P) hp (free_of rfl) trivial (enq_R_Of) (sqi 4) (fun v w h => (by subst h; exact rOfK w q HQR.out.1 HQR.out.2))
      ·exact q_loadStOut (off := 0) (l := 2) (fs := [.n R]) hp (free_of rfl) trivial HRO row_api_Int rfl (sqo 7) (fun v w h => st_num h)
      ·exact q_call2 (F := (Fq.num q).P) (G := (Fq.num R).P) hp (free_of rfl) trivial (enq_R_Same) (sqi 5) (sqi 6) (fun v v' w h h' => exRSameB h h' TK.out)
      intro L vs w6 nb hL hC hn E6
      have e0 : vs 0 = .int .i64 (y : Int) := hC 0 (by simp)
      have e1 : vs 1 = .int .i64 (y : Int) := hC 1 (by simp)
      have e2 : vs 2 = .int .i64 ((y : Int) * y) := hC 2 (by simp)
      have e3 : vs 3 = .int .i64 M := hC 3 (by simp)
      have e4 : vs 4 = .int .i64 q := hC 4 (by simp)
      have e7 : vs 7 = .bool true := hC 7 (by simp)
      have E : Fr V4 [] w6 := E6
      rw [lay_all hL]
      simp only [putAll, dstOf, List.length_cons, List.length_nil, Nat.zero_add, Nat.reduceAdd, List.getElem?_toArray, List.getElem?_cons_zero, List.getElem?_cons_succ, Option.bind_some, Act.put, List.setIfInBounds_toArray, List.set_cons_succ, List.set_cons_zero]
      rw [e0, e1, e2, e3, e4, e7]
      generalize vs 5 = u6_5
      generalize vs 6 = u6_6
      clear e0 e1 e2 e3 e4 e7 hC hn E6 hL vs L nb
      clear HMUL HTM HQW HM0 TK HRO
      have HL5 := HLH.out.mono E.below
      have HT5 := HTH.out.mono E.below
      have HR5 := HRH.out.mono E.below
      have HB5 := hidd (HBH.out.trans (E.below.mono HBH.out.size))
      clear HLH HTH HRH HBH
      have HPT : Hid (onB A B M (x : Int) (y : Int) false = true) := on_pt HCV.out ⟨by omega, HXI.out⟩ ⟨by omega, HYI.out⟩ (by rw [← HQE.out, ← HR.out]; exact hqr)
      obtain ⟨us, hO, hE⟩ := HL5
      have HO := hidd hO
      have HE2 := hidd hE
      have HT6 := hidd HT5
      have HR6 := hidd HR5
      obtain ⟨V5, rfl⟩ : ∃ V5, V5 = w6 := ⟨_, rfl⟩
      have hsz3 := HB5.out.size
      have hlen : Qs.length ≤ 30000000 := by have := HQ.out.2; have := HM.out; have := HXI.out; have := HYI.out; omega
      have HX2 : Hid (0 ≤ (x : Int) ∧ (x : Int) ≤ 9223372036854775807) := by have := HXR.out; show _ ∧ _; omega
      have HY2 : Hid (0 ≤ (y : Int) ∧ (y : Int) ≤ 9223372036854775807) := by have := HYR.out; show _ ∧ _; omega
      clear hO hE HT5 HR5 E hqr
      clear BX BR BQ BM BA BB
      go_wp2_with (first | (go_at_call 25; (with_reducible refine (rOfNew _ (x : Int) HX2.out.1 HX2.out.2).mono ?_); rintro e w5 ⟨ng, ao5, n5, c5, rfl, hnew, hN, hB5⟩) | (go_at_call 25; (with_reducible refine (rOfNew _ (y : Int) HY2.out.1 HY2.out.2).mono ?_); rintro e w6 ⟨ng6, ao6, n6, c6, rfl, hnew6, hN6, hB6⟩) | (at_builtin; (refine wpList_append_tame (n := Qs.length) (xs := us) rfl _ _ 34 rfl W0.heap.size 37 i0 (.agg #[.bool false, .slice none 0 0, .bool false, .slice none 0 0, .bool false]) 5 72 Try.underlying34 hi hz0 hz1 hz2 rfl (by decide) _ rfl (World.ownsRow.alloc (owns_below (owns_below (by have h9 := HO.out; rwa [List.length_map] at h9) hB5) hB6) _) ((HT6.out.mono (hB5.trans (hB6.mono hB5.size))).mono (alloc_below _ _)) (List.all_eq_true.1 rfl) ⟨_, 0, none⟩ 1 1 [.bool ng, .slice ao5 n5 c5, .bool ng6, .slice ao6 n6 c6, .bool false] rfl rfl (World.news_of_block (heap_alloc_new _ _)) (List.all_eq_true.1 rfl) (by decide) (by unfold maxLen; omega) (by omega) (Nat.le_trans hsz3 (Nat.le_trans hB5.size (Nat.le_trans hB6.size (by simp)))) _ rfl ?_; intro g cap w8 hown' hgrow hat hlt htm)) | fail)
      have hB56 := hB5.trans (hB6.mono hB5.size)
      have hN5 := hN.mono hB6
      have hS := Ls.step (fs := ptF ⟨x, y, false⟩) (es := [.bool ng, .slice ao5 n5 c5, .bool ng6, .slice ao6 n6 c6, .bool false]) HO.out HE2.out hsz3 HB5.out hB56 (by
       intro a k c hm hk
       simp at hm
       rcases hm with ⟨rfl, _, _⟩ | ⟨rfl, _, _⟩
       ·exact hnew _ rfl
       ·exact Nat.le_trans hB5.size (hnew6 _ rfl)) ⟨_, _, _, rfl, hN5, _, _, _, rfl, hN6, _, rfl, rfl, rfl⟩ rfl rfl (by simpa using hown') hgrow hat rfl
      have hS4 := hidd hS.1
      have hS5 := hidd hS.2
      have hS6 := hidd htm
      have hS7 := hidd (HR6.out.step (n := Qs.length + 1) (cap := cap) hB56 ((HT6.out.mono hB56).mono (alloc_below _ _)) hgrow hat rfl)
      clear hown' hgrow hat hlt htm hS hnew hnew6 hN hN5 hN6 hB5 hB6 hB56 HO HE2 HT6 HR6
      have g9 : IntKind.i64.wrap ((y : Int) + 1) = (y : Int) + 1 := IntWalk.i64_in _ (by have := HYI.out; have := HM.out; omega)
      have hw : wrap64 ((y : Int) + 1) = (y : Int) + 1 := by have := HYI.out; have := HM.out; simp only [wrap64]; omega
      go_wp2
      go_roundw
      case rel => exact ⟨y + 1, Qs ++ [⟨x, y, false⟩], by first | go_num | (rw [hw]; go_num), by have := HYI.out; omega, by simp, by have := HQ.out.2; simp; omega, HON.out.snoc HPT.out, by rw [ptF_snoc]; simpa using hS4.out, hS6.out, hS7.out, hS5.out, by rw [HQE2.out, ptsY, if_pos HCD.out, List.append_assoc]⟩
      case measure => have := HYI.out; first | (rw [hw]; simp [intOf]; omega) | (simp [intOf]; omega)
     ·have TK := hidd (decide_eq_false hqr)
      have HCD : Hid (¬ (y : Int) * y % M = (((x : Int) * (x * x)) + (A * x) + B) % M) := by show ¬ _ = _; rw [← HQE.out, ← HR.out]; exact hqr
      go_upto_region 8 with (fail)
      refine region_fr (C := [Fq.is (.int .i64 (y : Int)), Fq.is (.int .i64 M), Fq.is (.bool true)]) (ks := []) (new := []) E rfl (by kernel_rfl) rfl rfl (fun hp => ⟨?_, ?_, ?_, trivial⟩) ?_
      ·exact q_move hp (free_of rfl) trivial (sqo 8)
      ·exact q_move hp (free_of rfl) trivial (sqo 3)
      ·exact q_two (F := fun v _ => v = .int .i64 (y : Int)) (G := fun v _ => v = .int .i64 M) hp (free_of rfl) trivial (sqi 0) (sqi 1) (fun ρ w hc h h' => ⟨.bool true, by simp [execOp, go_sem, h, h', HYI.out], rfl⟩)
      intro L vs w7 nb hL hC hn E7
      have e0 : vs 0 = .int .i64 (y : Int) := hC 0 (by simp)
      have e1 : vs 1 = .int .i64 M := hC 1 (by simp)
      have e2 : vs 2 = .bool true := hC 2 (by simp)
      have E : Fr V4 [] w7 := E7
      rw [lay_all hL]
      simp only [putAll, dstOf, List.length_cons, List.length_nil, Nat.zero_add, Nat.reduceAdd, List.getElem?_toArray, List.getElem?_cons_zero, List.getElem?_cons_succ, Option.bind_some, Act.put, List.setIfInBounds_toArray, List.set_cons_succ, List.set_cons_zero]
      rw [e0, e1, e2]
      clear e0 e1 e2 hC hn E7 hL vs L nb
      go_upto_region 10 with (fail)
      refine region_fr (C := [Fq.is (.int .i64 (y : Int)), Fq.is (.int .i64 (y : Int)), Fq.is (.int .i64 ((y : Int) * y)), Fq.is (.int .i64 M), Fq.is (.int .i64 q), Fq.num q, Fq.num R, Fq.is (.bool false)]) (ks := []) (new := []) E rfl (by kernel_rfl) rfl rfl (fun hp => ⟨?_, ?_, ?_, ?_, ?_, ?_, ?_, ?_, trivial⟩) ?_
      ·exact q_move hp (free_of rfl) trivial (sqo 8)
      ·exact q_move hp (free_of rfl) trivial (sqo 8)
      ·exact q_two (F := fun v _ => v = .int .i64 (y : Int)) (G := fun v _ => v = .int .i64 (y : Int)) hp (free_of rfl) trivial (sqi 0) (sqi 1) (fun ρ w hc h h' => ⟨.int .i64 ((y : Int) * y), by simp [execOp, go_sem, h, h', HMUL.out], rfl⟩)
      ·exact q_move hp (free_of rfl) trivial (sqo 3)
      ·exact q_two (F := fun v _ => v = .int .i64 ((y : Int) * y)) (G := fun v _ => v = .int .i64 M) hp (free_of rfl) trivial (sqi 2) (sqi 3) (fun ρ w hc h h' => ⟨.int .i64 q, by simp [execOp, go_sem, h, h', HM0.out, HTM.out], rfl⟩)
      ·exact q_call1 (F := (Fq.is (.int .i64 q)).P) hp (free_of rfl) trivial (enq_R_Of) (sqi 4) (fun v w h => (by subst h; exact rOfK w q HQR.out.1 HQR.out.2))
      ·exact q_loadStOut (off := 0) (l := 2) (fs := [.n R]) hp (free_of rfl) trivial HRO row_api_Int rfl (sqo 7) (fun v w h => st_num h)
      ·exact q_call2 (F := (Fq.num q).P) (G := (Fq.num R).P) hp (free_of rfl) trivial (enq_R_Same) (sqi 5) (sqi 6) (fun v v' w h h' => exRSameB h h' TK.out)
      intro L vs w8 nb hL hC hn E8
      have e0 : vs 0 = .int .i64 (y : Int) := hC 0 (by simp)
      have e1 : vs 1 = .int .i64 (y : Int) := hC 1 (by simp)
      have e2 : vs 2 = .int .i64 ((y : Int) * y) := hC 2 (by simp)
      have e3 : vs 3 = .int .i64 M := hC 3 (by simp)
      have e4 : vs 4 = .int .i64 q := hC 4 (by simp)
      have e7 : vs 7 = .bool false := hC 7 (by simp)
      have E : Fr V4 [] w8 := E8
      rw [lay_all hL]
      simp only [putAll, dstOf, List.length_cons, List.length_nil, Nat.zero_add, Nat.reduceAdd, List.getElem?_toArray, List.getElem?_cons_zero, List.getElem?_cons_succ, Option.bind_some, Act.put, List.setIfInBounds_toArray, List.set_cons_succ, List.set_cons_zero]
      rw [e0, e1, e2, e3, e4, e7]
      generalize vs 5 = u8_5
      generalize vs 6 = u8_6
      clear e0 e1 e2 e3 e4 e7 hC hn E8 hL vs L nb
      clear HMUL HTM HQW HM0 TK HRO
      have HL5 := HLH.out.mono E.below
      have HT5 := HTH.out.mono E.below
      have HR5 := HRH.out.mono E.below
      have HB5 := hidd (HBH.out.trans (E.below.mono HBH.out.size))
      clear HLH HTH HRH HBH
      have HL6 := hidd HL5
      have HT6 := hidd HT5
      have HR6 := hidd HR5
      clear HL5 HT5 HR5 E hqr
      have g9 : IntKind.i64.wrap ((y : Int) + 1) = (y : Int) + 1 := IntWalk.i64_in _ (by have := HYI.out; have := HM.out; omega)
      have hw : wrap64 ((y : Int) + 1) = (y : Int) + 1 := by have := HYI.out; have := HM.out; simp only [wrap64]; omega
      go_wp2
      go_roundw
      case rel => exact ⟨y + 1, Qs, by first | go_num | (rw [hw]; go_num), by have := HYI.out; omega, HQ.out.1, by have := HQ.out.2; omega, HON.out, HL6.out, HT6.out, HR6.out, HB5.out, by rw [HQE2.out, ptsY, if_neg HCD.out, List.append_nil]⟩
      case measure => have := HYI.out; first | (rw [hw]; simp [intOf]; omega) | (simp [intOf]; omega)
    ·have t0 : decide ((y : Int) < M) = false := by simp; omega
     have hli : ¬ (y : Int) < M := hy
     have HQ := hidd (And.intro hQ0 hQl)
     have HON := hidd hon
     have HLH := hidd HL
     have HTH := hidd HT
     have HBH := hidd HBW
     have HYM := hidd (show (y : Int) ≤ 5000 by have := HM.out; omega)
     have HYE := hidd (show y = M.toNat by omega)
     have hw : wrap64 ((x : Int) + 1) = (x : Int) + 1 := by have := HXI.out; have := HM.out; simp only [wrap64]; omega
     clear HRB HL HT HBW hon hQ0 hQl hyM hy
     go_wp2
     go_roundw
     case rel => exact ⟨x + 1, Qs, by first | go_num | (rw [hw]; go_num), by have := HXI.out; omega, HQ.out.1, by have := HQ.out.2; have := HYM.out; omega, HON.out, HLH.out, HTH.out, HBH.out, by rw [HQE2.out, ptsX, ← HYE.out]⟩
     case measure => have := HXI.out; first | (rw [hw]; simp [intOf]; omega) | (simp [intOf]; omega)
  ·have t0 : decide ((x : Int) < M) = false := by simp; omega
   have hli : ¬ (x : Int) < M := hx
   have HXE := hidd (show x = M.toNat by omega)
   have HST := hidd (HL.rowC HT (by rw [hml]; exact hP0) HE0.out.size)
   have HBT := hidd (HE0.out.trans (HBW.mono HE0.out.size))
   have HP := hidd (And.intro hP0 (show Ps.length ≤ 30000000 by have := HM.out; omega))
   have HON := hidd hon
   clear HL HT HBW hon hP0 hPl hxM hx
   go_wp2
   refine bodyPost_ret (v := .slice ao2 Ps.length cap2) ?_ rfl ⟨_, rfl, HBT.out, by rw [← HXE.out, ← HPE.out]; exact ⟨HP.out.1, HP.out.2, HON.out, HST.out⟩⟩
   simp [results, Try.results11, go_sem]

end Go.Proofs.Ytihhlaagndingaa

namespace Go.Proofs.Ytihhlaagndingaa
open Go Go.RowKit

theorem wpList_loadSt {w : World} {ops : Array Oper} {rest : List Oper} {o : Oper} {a : Act} {Q : Exit → Act → World → Prop} (hgd : o.guard = none) (T : TypeId) (x : Operand) (ho : o.op = .load T x) {b off l : Nat} {fs : List Fd} (hT : rowB T l = true) (hl : sz fs = l)
  (hx : a.eval x = .pointer (some ⟨b, off, none⟩)) (hS : StAt w b off fs) (h : ∀ v, (Fq.st fs).P v w → wpList Try.prog ops Q rest (a.put o.dst v) w) : wpList Try.prog ops Q (o :: rest) a w := by
 refine wpList_plain hgd fun K hK => ?_
 obtain ⟨es, hfit, hat⟩ := hS
 obtain ⟨⟨dd, hu, hd'⟩, hi⟩ := rowB_of hT
 have hr : w.rangeAt b off es := by
  intro j v hv
  have hj := (List.getElem?_eq_some_iff.1 hv).1
  rw [hat j hj, List.getD, hv]
  rfl
 have := run_loadVar_mid (P := Try.prog) w b off T _ dd hr hu hd' (by rw [hfit.length, hl]; exact hi)
 unfold Oper.wp
 have e : (execOp a.eval o).run Try.prog w = .ok (.value (.agg es.toArray)) w := by
  unfold execOp
  simp only [ho, hx, Instr.loadAt, Instr.sureAddr, Sem.run_bind, Sem.run_pure, Result.andThen_ok, this]
 rw [e]
 exact hK _ _ (h _ ⟨_, rfl, hfit⟩)
theorem Fr.add {w0 W0 W : World} {bs : List (Nat × Nat × Fq)} (E : Fr w0 bs W0) (hb : Below W0.heap.size W0 W) {g m : Nat} {F : Fq} (hg : W0.heap.size ≤ g) (hB : Bq W g m F) : Fr w0 ((g, m, F) :: bs) W := by
 have h2 := E.later hb
 refine ⟨h2.below, fun x hx => ?_, ?_⟩
 ·rcases List.mem_cons.1 hx with rfl | hx
  ·exact ⟨Nat.le_trans E.below.size hg, hB⟩
  ·exact h2.boxes x hx
 ·rw [List.map_cons, List.nodup_cons]
  refine ⟨fun hm => ?_, E.apart⟩
  obtain ⟨x, hx, e⟩ := List.mem_map.1 hm
  have := (E.boxes x hx).2.lt
  omega
def rowF (pre : List Value) (fs : List Fd) : List Fd := pre.map .v ++ fs
theorem fits_v {w : World} : ∀ {pre : List Value}, (∀ u ∈ pre, tameB u = true) → Fits w (pre.map .v) pre
 | [], _ => rfl
 | u :: pre, h => ⟨pre, rfl, h u (List.mem_cons_self ..), fits_v fun x hx => h x (List.mem_cons_of_mem _ hx)⟩
theorem RowC.box {B : Nat} {w : World} {fss : List (List Fd)} {g n cap i : Nat} {fs : List Fd} (h : ∀ i fs, fss[i]? = some fs → ∃ pre es, pre.length = i * 5 ∧ es.length = 5 ∧ Fits w fs es ∧ At w g (pre ++ es) ∧ ∀ u ∈ pre, tameB u = true) (hi : fss[i]? = some fs) : ∃ pre, pre.length = i * 5 ∧ Bq w g (i * 5 + 5) (Fq.st (rowF pre fs)) := by
 obtain ⟨pre, es, h1, h2, h3, h4, h5⟩ := h i fs hi
 have h6 : Fits w (rowF pre fs) (pre ++ es) := (fits_v h5).append h3
 exact ⟨pre, h1, pre ++ es, by simp [h1, h2], by omega, h4, h6.tame, _, rfl, h6⟩
theorem ptsY_on {A B M : Int} (hc : curveB A B M = true) {x : Nat} (hx : (x : Int) < M) : ∀ {y : Nat}, (y : Int) ≤ M → AllOn A B M (ptsY A B M x y)
 | 0, _ => fun P hP => by simp [ptsY] at hP
 | y + 1, hy => by
  intro P hP
  rw [ptsY] at hP
  rcases List.mem_append.1 hP with hP | hP
  ·exact ptsY_on hc hx (by omega) P hP
  ·by_cases h : (y : Int) * y % M = (((x : Int) * (x * x)) + (A * x) + B) % M
   ·rw [if_pos h] at hP
    simp at hP
    subst hP
    exact on_pt (x := (x : Int)) (y := (y : Int)) hc ⟨by omega, hx⟩ ⟨by omega, by omega⟩ h
   ·rw [if_neg h] at hP
    simp at hP
theorem ptsX_on {A B M : Int} (hc : curveB A B M = true) : ∀ {x : Nat}, (x : Int) ≤ M → AllOn A B M (ptsX A B M x)
 | 0, _ => fun P hP => by simp [ptsX] at hP; subst hP; exact on_of hc (fun _ => ⟨rfl, rfl⟩) (fun e => by cases e)
 | x + 1, hx => by
  intro P hP
  rw [ptsX] at hP
  rcases List.mem_append.1 hP with hP | hP
  ·exact ptsX_on hc (by omega) P hP
  ·exact ptsY_on hc (by omega) (by omega) P hP
theorem ptsX_pos (A B M : Int) : ∀ x, 0 < (ptsX A B M x).length
 | 0 => by simp [ptsX]
 | x + 1 => by rw [ptsX, List.length_append]; have := ptsX_pos A B M x; omega
def madeP (A B M Q : Int) : Pt := (ptsX A B M M.toNat).getD (Q % ((ptsX A B M M.toNat).length : Int)).toNat ⟨0, 0, true⟩
theorem madeP_at (A B M Q : Int) : ∃ i : Nat, i < (ptsX A B M M.toNat).length ∧ Q % ((ptsX A B M M.toNat).length : Int) = i ∧ (ptsX A B M M.toNat)[i]? = some (madeP A B M Q) := by
 have h0 := ptsX_pos A B M M.toNat
 have h1 := Int.emod_nonneg Q (show ((ptsX A B M M.toNat).length : Int) ≠ 0 by omega)
 have h2 := Int.emod_lt_of_pos Q (show (0 : Int) < ((ptsX A B M M.toNat).length : Int) by omega)
 refine ⟨(Q % ((ptsX A B M M.toNat).length : Int)).toNat, by omega, by omega, ?_⟩
 unfold madeP
 rw [List.getD, List.getElem?_eq_getElem (by omega)]
 rfl
theorem madeP_on {A B M Q : Int} (hc : curveB A B M = true) (hM : 0 ≤ M) : onB A B M (madeP A B M Q).x (madeP A B M Q).y (madeP A B M Q).i = true := by
 obtain ⟨i, _, _, h⟩ := madeP_at A B M Q
 exact ptsX_on hc (by omega) _ (List.mem_of_getElem? h)
section
variable {os : List Oper} {Q : Exit → Act → World → Prop} {a : Act} {p : Pq} {B B0 : Nat} {w0 : World}
variable {i s : Nat} {d : Option Tmp} {ty : TypeId} {ps : String} {af : Array Edge} {gd : Option (Nat × Bool)}
theorem q_lenT_api_Point {x : Operand} {ad : Option Addr} {k c : Nat} (hp : p.Ok B B0) (hF : p.Free i) (hg : GdQ os a p B B0 w0 af gd) (hx : SrcQ os a p B B0 w0 af x fun v _ => v = .slice ad k c) (hC : ∀ w, (p.c i).P (.int .i64 k) w) :
  StepQ os Q a p B B0 w0 i { dst := d, op := .call { callee := .builtin .len, args := #[x], argTypes := #[34] }, type := ty, pos := ps, after := af, guard := gd } :=
 q_one hp hF hg hx fun ρ w _ h => ⟨.int .i64 k, by simp [go_sem, h], hC w⟩
theorem q_index_api_Point {b l c k : Nat} {x y : Operand} (hp : p.Ok B B0) (hF : p.Free i) (hg : GdQ os a p B B0 w0 af gd) (hx : SrcQ os a p B B0 w0 af x fun v _ => v = .slice (some ⟨b, 0, none⟩) l c) (hy : SrcQ os a p B B0 w0 af y fun v _ => v = .int .i64 k) (hk : k < l)
  (hC : ∀ w, (p.c i).P (.pointer (some ⟨b, k * 5, none⟩)) w) :
  StepQ os Q a p B B0 w0 i { dst := d, op := .indexAddr 34 x y, type := ty, pos := ps, after := af, guard := gd } :=
 q_two hp hF hg hx hy fun ρ w _ h h' => ⟨_, by
  have h0 : (k : Int) < (l : Int) := by omega
  have h1 : (0 : Int) ≤ (k : Int) := by omega
  simp [execOp, go_sem, h, h', h0, h1], hC w⟩
end
end Go.Proofs.Ytihhlaagndingaa

namespace Go.Proofs.Ytihhlaagndingaa
open Go Go.RowKit

theorem pr_263 : Pr 263 := by
 refine ⟨by omega, fun d hd => ?_⟩
 have h1 : d ≤ 263 := Nat.le_of_dvd (by omega) hd
 have h2 : ∀ d, d < 264 → d ∣ 263 → d = 1 ∨ d = 263 := by decide +kernel
 exact h2 d (by omega) hd
def rowL : List Pt → List Fd
 | [] => []
 | P :: ps => ptF P ++ rowL ps
theorem rowL_append : ∀ (ps qs : List Pt), rowL (ps ++ qs) = rowL ps ++ rowL qs
 | [], _ => rfl
 | P :: ps, qs => by
  show ptF P ++ rowL (ps ++ qs) = (ptF P ++ rowL ps) ++ rowL qs
  rw [rowL_append ps qs, List.append_assoc]
theorem rowL_sub : ∀ {ps : List Pt} {i : Nat} {P : Pt}, ps[i]? = some P → subF (i * 5) 5 (rowL ps) = some (ptF P)
 | [], _, _, h => by simp at h
 | Q :: ps, 0, P, h => by
  simp at h
  subst h
  rfl
 | Q :: ps, i + 1, P, h => by
  have ih := rowL_sub (ps := ps) (i := i) (P := P) (by simpa using h)
  rw [show (i + 1) * 5 = i * 5 + 5 by omega]
  exact ih
theorem rowL_box {w : World} {g : Nat} {ps : List Pt} (h : ∀ i fs, (ps.map ptF)[i]? = some fs → ∃ pre es, pre.length = i * 5 ∧ es.length = 5 ∧ Fits w fs es ∧ At w g (pre ++ es) ∧ ∀ u ∈ pre, tameB u = true) (h0 : 0 < ps.length) : Bq w g (ps.length * 5) (Fq.st (rowL ps)) := by
 have all : ∀ n, n ≤ ps.length → ∃ us, us.length = n * 5 ∧ Fits w (rowL (ps.take n)) us ∧ At w g us := by
  intro n
  induction n with
  | zero => exact fun _ => ⟨[], rfl, by rw [List.take_zero]; rfl, fun j hj => by simp at hj⟩
  | succ n ih =>
   intro hn
   obtain ⟨us, h1, h2, h3⟩ := ih (by omega)
   obtain ⟨pre, es, g1, g2, g3, g4, _⟩ := h n (ptF (ps[n]'(by omega))) (by simp [List.getElem?_map, List.getElem?_eq_getElem (show n < ps.length by omega)])
   have e : pre = us := by
    refine List.ext_getElem (by omega) fun j hj hj' => ?_
    have a1 := (g4 j (by simp; omega)).1
    have a2 := (h3 j hj').1
    rw [a2] at a1
    injection a1 with a1
    rw [List.getD_eq_getElem?_getD, List.getD_eq_getElem?_getD, List.getElem?_append_left hj, List.getElem?_eq_getElem hj, List.getElem?_eq_getElem hj', Option.getD_some, Option.getD_some] at a1
    exact a1.symm
   subst e
   refine ⟨pre ++ es, by simp; omega, ?_, g4⟩
   rw [List.take_add_one, List.getElem?_eq_getElem (by omega), Option.toList_some, rowL_append]
   refine h2.append ?_
   show Fits w (ptF _ ++ []) es
   rw [List.append_nil]
   exact g3
 obtain ⟨us, h1, h2, h3⟩ := all ps.length (Nat.le_refl _)
 rw [List.take_length] at h2
 exact ⟨us, h1, by omega, h3, h2.tame, _, rfl, h2⟩
theorem group_facts {A B M : Int} {P T R : Pt} (hc : Crv A B M) (hP : On A B M P) (hT : On A B M T) (hR : On A B M R) : ∃ S U V N, addS A B M P T = (S, 0, 0) ∧ addS A B M T P = (S, 0, 0) ∧ addS A B M T R = (U, 0, 0) ∧ addS A B M S R = (V, 0, 0) ∧ addS A B M P U = (V, 0, 0) ∧ oppP M R = N ∧ addS A B M R N = (⟨0, 0, true⟩, 0, 0) ∧ addS A B M ⟨0, 0, true⟩ R = (R, 0, 0) ∧ On A B M S ∧ On A B M U ∧ On A B M V ∧ On A B M N := by
 have hS := adP_on hc hP hT
 have hU := adP_on hc hT hR
 have hV := adP_on hc hS hR
 have hN := opp_on hR
 refine ⟨_, _, _, _, addS_z hc hP hT, ?_, addS_z hc hT hR, addS_z hc hS hR, ?_, rfl, ?_, ?_, hS, hU, hV, hN⟩
 ·rw [addS_z hc hT hP, adP_comm hc hT hP]
 ·rw [addS_z hc hP hU, adP_assoc hc hP hT hR]
 ·rw [addS_z hc hR hN, adP_opp hR]
 ·rw [addS_z hc (O_on hc) hR, adP_O]
theorem On.ab {A B M : Int} {P : Pt} (h : On A B M P) (hM : Go.Proofs.Ytihhlaagndingaa.ab M < pw 5) : Go.Proofs.Ytihhlaagndingaa.ab P.x < pw 5 ∧ Go.Proofs.Ytihhlaagndingaa.ab P.y < pw 5 := (onB_ok h).1.ab hM
set_option maxRecDepth 100000 in
set_option maxHeartbeats 4000000 in
theorem exNonsing {w : World} {v : Value} {A B M : Int} (h : (Fq.st [.n A, .n B, .n M]).P v w) (hM : ab M < pw 5) (hA : ab A < pw 5) (hB : ab B < pw 5) (h0 : 0 < M) {t : Bool} (ht : decide ((Int.gcd ((4 * (A * (A * A))) + (27 * (B * B))) M : Int) = 1) = t) :
  Calls Try.prog 10 #[v] w fun e w' => ∃ v', e = .returned v' ∧ Below w.heap.size w w' ∧ v' = .bool t := by
 replace hM := hidd hM
 replace hA := hidd hA
 replace hB := hidd hB
 have HM0 := hidd h0
 have HT := hidd ht
 clear h0 ht
 obtain ⟨_, rfl, hf0⟩ := h
 have hF0 := hf0
 obtain ⟨y0_p0, y0_q0, _, rfl, _y0_n0, y0_p1, y0_q1, _, rfl, _y0_n1, y0_p2, y0_q2, _, rfl, _y0_n2, rfl⟩ := hf0
 obtain ⟨w1, b1, hw1, hb1, hs1, E⟩ := fr_start w (F := Fq.st [.n A, .n B, .n M]) (us := [y0_p0, y0_q0, y0_p1, y0_q1, y0_p2, y0_q2]) 31 rfl (by simp) (hF0.tame) (show (Fq.st [.n A, .n B, .n M]).P _ w from ⟨_, rfl, hF0⟩)
 go_enter Try.func10, Try.ntmps10
 go_upto_region 1 with (fail)
 rw [← hw1]
 rw [← hb1]
 clear hw1 hb1 hs1
 have B2 : Hid (ab ((4)) < pw 3) := ab_lit (by decide)
 have B3 : Hid (ab ((A * A)) < pw 10) := ab_mulM hA.out hA.out (by omega)
 have B4 : Hid (ab ((A * (A * A))) < pw 15) := ab_mulM hA.out B3.out (by omega)
 have B5 : Hid (ab (((4) * (A * (A * A)))) < pw 18) := ab_mulM B2.out B4.out (by omega)
 have B6 : Hid (ab ((27)) < pw 3) := ab_lit (by decide)
 have B7 : Hid (ab ((B * B)) < pw 10) := ab_mulM hB.out hB.out (by omega)
 have B8 : Hid (ab (((27) * (B * B))) < pw 13) := ab_mulM B6.out B7.out (by omega)
 have B9 : Hid (ab ((((4) * (A * (A * A))) + ((27) * (B * B)))) < pw 19) := ab_addB B5.out B8.out (by omega) (by omega)
 refine region_fr (C := [Fq.num (4), Fq.is (.pointer (some ⟨b1, 0, none⟩)), Fq.num A, Fq.is (.pointer (some ⟨b1, 0, none⟩)), Fq.num A, Fq.is (.pointer (some ⟨b1, 0, none⟩)), Fq.num A, Fq.num (A * A), Fq.num (A * (A * A)), Fq.num ((4) * (A * (A * A))), Fq.num (27), Fq.is (.pointer (some ⟨b1, 2, none⟩)), Fq.num B, Fq.is (.pointer (some ⟨b1, 2, none⟩)), Fq.num B, Fq.num (B * B), Fq.num ((27) * (B * B)), Fq.num (((4) * (A * (A * A))) + ((27) * (B * B))), Fq.any, Fq.any]) (ks := [none]) (new := [⟨18, 19, 2, Fq.num 0, Fq.num (((4) * (A * (A * A))) + ((27) * (B * B))), none⟩]) E rfl (by kernel_rfl) rfl rfl (fun hp => ⟨?_, ?_, ?_, ?_, ?_, ?_, ?_, ?_, ?_, ?_, ?_, ?_, ?_, ?_, ?_, ?_, ?_, ?_, ?_, ?_, trivial⟩) ?_
 ·exact q_call1 (F := (Fq.is (.int .i64 4)).P) hp (free_of rfl) trivial (enq_R_Of) (sq_const (fun _ => rfl)) (fun v w h => (by subst h; exact rOfK w (4) (by omega) (by omega)))
 ·exact q_addr (b := b1) (off := 0) (off' := 0) hp (free_of rfl) trivial (sqo 1) (fun ρ w h => by simp [execOp, go_sem, h]) (fun _ => rfl)
 ·exact q_loadSt (off := 0) (l := 2) (fs := [.n A, .n B, .n M]) (gs := [.n A]) hp (free_of rfl) trivial (mq 0 rfl) (.inl rfl) rfl row_api_Int rfl (sqi 1) (fun v w h => st_num h)
 ·exact q_addr (b := b1) (off := 0) (off' := 0) hp (free_of rfl) trivial (sqo 1) (fun ρ w h => by simp [execOp, go_sem, h]) (fun _ => rfl)
 ·exact q_loadSt (off := 0) (l := 2) (fs := [.n A, .n B, .n M]) (gs := [.n A]) hp (free_of rfl) trivial (mq 0 rfl) (.inl rfl) rfl row_api_Int rfl (sqi 3) (fun v w h => st_num h)
 ·exact q_addr (b := b1) (off := 0) (off' := 0) hp (free_of rfl) trivial (sqo 1) (fun ρ w h => by simp [execOp, go_sem, h]) (fun _ => rfl)
 ·exact q_loadSt (off := 0) (l := 2) (fs := [.n A, .n B, .n M]) (gs := [.n A]) hp (free_of rfl) trivial (mq 0 rfl) (.inl rfl) rfl row_api_Int rfl (sqi 5) (fun v w h => st_num h)
 ·exact q_call2 (F := (Fq.num A).P) (G := (Fq.num A).P) hp (free_of rfl) trivial (enq_R_Mul) (sqi 4) (sqi 6) (fun v v' w h h' => exK (RMulV h h') B3.out (by omega))
 ·exact q_call2 (F := (Fq.num A).P) (G := (Fq.num (A * A)).P) hp (free_of rfl) trivial (enq_R_Mul) (sqi 2) (sqi 7) (fun v v' w h h' => exK (RMulV h h') B4.out (by omega))
 ·exact q_call2 (F := (Fq.num (4)).P) (G := (Fq.num (A * (A * A))).P) hp (free_of rfl) trivial (enq_R_Mul) (sqi 0) (sqi 8) (fun v v' w h h' => exK (RMulV h h') B5.out (by omega))
 ·exact q_call1 (F := (Fq.is (.int .i64 27)).P) hp (free_of rfl) trivial (enq_R_Of) (sq_const (fun _ => rfl)) (fun v w h => (by subst h; exact rOfK w (27) (by omega) (by omega)))
 ·exact q_addr (b := b1) (off := 0) (off' := 2) hp (free_of rfl) trivial (sqo 1) (fun ρ w h => by simp [execOp, go_sem, h]) (fun _ => rfl)
 ·exact q_loadSt (off := 2) (l := 2) (fs := [.n A, .n B, .n M]) (gs := [.n B]) hp (free_of rfl) trivial (mq 0 rfl) (.inl rfl) rfl row_api_Int rfl (sqi 11) (fun v w h => st_num h)
 ·exact q_addr (b := b1) (off := 0) (off' := 2) hp (free_of rfl) trivial (sqo 1) (fun ρ w h => by simp [execOp, go_sem, h]) (fun _ => rfl)
 ·exact q_loadSt (off := 2) (l := 2) (fs := [.n A, .n B, .n M]) (gs := [.n B]) hp (free_of rfl) trivial (mq 0 rfl) (.inl rfl) rfl row_api_Int rfl (sqi 13) (fun v w h => st_num h)
 ·exact q_call2 (F := (Fq.num B).P) (G := (Fq.num B).P) hp (free_of rfl) trivial (enq_R_Mul) (sqi 12) (sqi 14) (fun v v' w h h' => exK (RMulV h h') B7.out (by omega))
 ·exact q_call2 (F := (Fq.num (27)).P) (G := (Fq.num (B * B)).P) hp (free_of rfl) trivial (enq_R_Mul) (sqi 10) (sqi 15) (fun v v' w h h' => exK (RMulV h h') B8.out (by omega))
 ·exact q_call2 (F := (Fq.num ((4) * (A * (A * A)))).P) (G := (Fq.num ((27) * (B * B))).P) hp (free_of rfl) trivial (enq_R_Add) (sqi 9) (sqi 16) (fun v v' w h h' => exK (RAddV h h') B9.out (by omega))
 ·exact q_allocInt hp (mq 0 rfl) rfl rfl rfl rfl (Nat.ne_of_beq_eq_false rfl) (fun _ _ => trivial) (old_ne rfl) (newk_ne rfl) (fun w => Num.zero w)
 ·exact q_storeNewInt hp (mq 0 rfl) rfl rfl rfl (own_ptr rfl rfl (by simp) rfl) (sq_in 17 rfl rfl (by simp) rfl (fun v w h => intV_num h)) (fun _ _ => trivial) (old_ne rfl) (newi_ne rfl)
 intro L vs w10 nb hL hC hn E10
 have e1 : vs 1 = .pointer (some ⟨b1, 0, none⟩) := hC 1 (by simp)
 have e3 : vs 3 = .pointer (some ⟨b1, 0, none⟩) := hC 3 (by simp)
 have e5 : vs 5 = .pointer (some ⟨b1, 0, none⟩) := hC 5 (by simp)
 have e11 : vs 11 = .pointer (some ⟨b1, 2, none⟩) := hC 11 (by simp)
 have e13 : vs 13 = .pointer (some ⟨b1, 2, none⟩) := hC 13 (by simp)
 have e18 : vs 18 = .pointer (some ⟨nb 18, 0, none⟩) := hn _ (mq 0 rfl)
 have E : Fr w [(nb 18, 2, Fq.num (((4) * (A * (A * A))) + ((27) * (B * B)))), (b1, 6, Fq.st [.n A, .n B, .n M])] w10 := E10
 rw [lay_all hL]
 simp only [putAll, dstOf, List.length_cons, List.length_nil, Nat.zero_add, Nat.reduceAdd, List.getElem?_toArray, List.getElem?_cons_zero, List.getElem?_cons_succ, Option.bind_some, Act.put, List.setIfInBounds_toArray, List.set_cons_succ, List.set_cons_zero]
 rw [e1, e3, e5, e11, e13, e18]
 generalize nb 18 = b10_18 at E ⊢
 generalize vs 0 = u10_0
 generalize vs 2 = u10_2
 generalize vs 4 = u10_4
 generalize vs 6 = u10_6
 generalize vs 7 = u10_7
 generalize vs 8 = u10_8
 generalize vs 9 = u10_9
 generalize vs 10 = u10_10
 generalize vs 12 = u10_12
 generalize vs 14 = u10_14
 generalize vs 15 = u10_15
 generalize vs 16 = u10_16
 generalize vs 17 = u10_17
 clear e1 e3 e5 e11 e13 e18 hC hn E10 hL vs L nb
 go_upto_region 2 with (fail)
 have B11 : Hid (ab ((1)) < pw 3) := ab_lit (by decide)
 refine region_fr (C := [Fq.num (((4) * (A * (A * A))) + ((27) * (B * B))), Fq.is (.pointer (some ⟨b1, 4, none⟩)), Fq.num M, Fq.num (Int.gcd (((4) * (A * (A * A))) + ((27) * (B * B))) M : Int), Fq.num (1), Fq.is (.bool t), Fq.is (.bool t)]) (ks := [none, none]) (new := []) E rfl (by kernel_rfl) rfl rfl (fun hp => ⟨?_, ?_, ?_, ?_, ?_, ?_, ?_, trivial⟩) ?_
 ·exact q_loadInt (off := 0) hp (free_of rfl) trivial (mq 0 rfl) (.inl rfl) (Nat.le_of_ble_eq_true rfl) (sqo 3) (fun us w hl h => ld_num hl h)
 ·exact q_addr (b := b1) (off := 0) (off' := 4) hp (free_of rfl) trivial (sqo 1) (fun ρ w h => by simp [execOp, go_sem, h]) (fun _ => rfl)
 ·exact q_loadSt (off := 4) (l := 2) (fs := [.n A, .n B, .n M]) (gs := [.n M]) hp (free_of rfl) trivial (mq 1 rfl) (.inl rfl) rfl row_api_Int rfl (sqi 1) (fun v w h => st_num h)
 ·exact q_call2 (F := (Fq.num (((4) * (A * (A * A))) + ((27) * (B * B)))).P) (G := (Fq.num M).P) hp (free_of rfl) trivial (enq_R_Gcd) (sqi 0) (sqi 2) (fun v v' w h h' => exRGcd h h' (Int.lt_of_lt_of_le B9.out (pw_le (by omega))) (Int.lt_of_lt_of_le hM.out (pw_le (by omega))))
 ·exact q_call1 (F := (Fq.is (.int .i64 1)).P) hp (free_of rfl) trivial (enq_R_Of) (sq_const (fun _ => rfl)) (fun v w h => (by subst h; exact rOfK w (1) (by omega) (by omega)))
 ·exact q_call2 (F := (Fq.num (Int.gcd (((4) * (A * (A * A))) + ((27) * (B * B))) M : Int)).P) (G := (Fq.num (1)).P) hp (free_of rfl) trivial (enq_R_Same) (sqi 3) (sqi 4) (fun v v' w h h' => exRSameB h h' HT.out)
 ·exact q_assign hp (free_of rfl) trivial (sqi 5)
 intro L vs w12 nb hL hC hn E12
 have e1 : vs 1 = .pointer (some ⟨b1, 4, none⟩) := hC 1 (by simp)
 have e5 : vs 5 = .bool t := hC 5 (by simp)
 have e6 : vs 6 = .bool t := hC 6 (by simp)
 have E : Fr w [(b10_18, 2, Fq.num (((4) * (A * (A * A))) + ((27) * (B * B)))), (b1, 6, Fq.st [.n A, .n B, .n M])] w12 := E12
 rw [lay_all hL]
 simp only [putAll, dstOf, List.length_cons, List.length_nil, Nat.zero_add, Nat.reduceAdd, List.getElem?_toArray, List.getElem?_cons_zero, List.getElem?_cons_succ, Option.bind_some, Act.put, List.setIfInBounds_toArray, List.set_cons_succ, List.set_cons_zero]
 rw [e1, e5, e6]
 generalize vs 0 = u12_0
 generalize vs 2 = u12_2
 generalize vs 3 = u12_3
 generalize vs 4 = u12_4
 clear e1 e5 e6 hC hn E12 hL vs L nb
 clear HM0 HT
 clear B2 B3 B4 B5 B6 B7 B8 B9 B11 hM hA hB
 go_wp2
 refine bodyPost_ret (v := .bool t) ?_ rfl ⟨_, rfl, E.below, rfl⟩
 simp [results, Try.results10, go_sem]

end Go.Proofs.Ytihhlaagndingaa

namespace Go.Proofs.Ytihhlaagndingaa
open Go Go.RowKit

set_option maxRecDepth 100000 in
set_option maxHeartbeats 4000000 in
theorem PointGroup_any (w : World) {v : Value} {M9 A X Y Q K : Int} (h : (Fq.st [.v (.int .u8 M9), .v (.int .u8 A), .v (.int .u8 X), .v (.int .u8 Y), .v (.int .u16 Q)]).P v w) (hM : 0 ≤ M9 ∧ M9 ≤ 255) (hA : 0 ≤ A ∧ A ≤ 255) (hX : 0 ≤ X ∧ X ≤ 255) (hY : 0 ≤ Y ∧ Y ≤ 255) (hQ : 0 ≤ Q ∧ Q ≤ 65535) (hK : 0 ≤ K ∧ K ≤ 65535) :
  Calls Try.prog 3 #[v, .int .u16 K] w fun e w' => ∃ v', e = .returned v' ∧ Below w.heap.size w w' ∧ v' = .bool true := by
 obtain ⟨p, hp, hp1, hp2, hp3⟩ := least_pr pr_263 (263 - (5 + M9).toNat) (5 + M9).toNat (by omega)
 obtain ⟨m, em⟩ : ∃ m : Int, m = (p : Int) := ⟨_, rfl⟩
 have hm : 5 ≤ m ∧ m ≤ 263 ∧ m % 2 = 1 := by have := prime_odd hp (by omega); omega
 obtain ⟨a, ea⟩ : ∃ a, a = A % m := ⟨_, rfl⟩
 obtain ⟨x, ex⟩ : ∃ x, x = X % m := ⟨_, rfl⟩
 obtain ⟨y, ey⟩ : ∃ y, y = Y % m := ⟨_, rfl⟩
 obtain ⟨b, eb⟩ : ∃ b, b = (y * y - ((x * x) + a) * x) % m := ⟨_, rfl⟩
 have ha0 : 0 ≤ a ∧ a < m := by rw [ea]; exact ⟨Int.emod_nonneg _ (by omega), Int.emod_lt_of_pos _ (by omega)⟩
 have hx0 : 0 ≤ x ∧ x < m := by rw [ex]; exact ⟨Int.emod_nonneg _ (by omega), Int.emod_lt_of_pos _ (by omega)⟩
 have hy0 : 0 ≤ y ∧ y < m := by rw [ey]; exact ⟨Int.emod_nonneg _ (by omega), Int.emod_lt_of_pos _ (by omega)⟩
 have hb0 : 0 ≤ b ∧ b < m := by rw [eb]; exact ⟨Int.emod_nonneg _ (by omega), Int.emod_lt_of_pos _ (by omega)⟩
 have hc : curveB a b m = true := by simp only [curveB, resB, Bool.and_eq_true, decide_eq_true_eq]; omega
 have hon1 : On a b m ⟨x, y, false⟩ := by show onB a b m x y false = true; rw [eb]; exact curve_on (by omega) hm.2.2 ha0 hx0 hy0
 have HCR := hidd (fun (g : Int.gcd ((4 * (a * (a * a))) + (27 * (b * b))) m = 1) => (by rw [em] at hc g ⊢; exact crv_of hp hc g : Crv a b m))
 have BM : Hid (ab m < pw 5) := ab5 (by omega)
 have BA : Hid (ab a < pw 5) := ab5 (by omega)
 have BB : Hid (ab b < pw 5) := ab5 (by omega)
 have BP : Hid (ab x < pw 5 ∧ ab y < pw 5) := ⟨ab5 (by omega), ab5 (by omega)⟩
 obtain ⟨T, eT⟩ : ∃ T, T = madeP a b m Q := ⟨_, rfl⟩
 obtain ⟨R, eR⟩ : ∃ R, R = madeP a b m K := ⟨_, rfl⟩
 have hon2 : On a b m T := by rw [eT]; exact madeP_on hc (by omega)
 have hon3 : On a b m R := by rw [eR]; exact madeP_on hc (by omega)
 have BT := hidd (hon2.ab BM.out)
 have BR := hidd (hon3.ab BM.out)
 have HOT := hidd hon2
 have HOR := hidd hon3
 have BZ : Hid (ab 0 < pw 5) := ab5 (by decide)
 obtain ⟨i, hi, hQi, hPi⟩ := madeP_at a b m Q
 obtain ⟨j, hj, hQj, hPj⟩ := madeP_at a b m K
 rw [← eT] at hPi
 rw [← eR] at hPj
 obtain ⟨ps, eps⟩ : ∃ ps, ps = ptsX a b m m.toNat := ⟨_, rfl⟩
 rw [← eps] at hi hQi hPi hj hQj hPj
 obtain ⟨nl, hnl⟩ : ∃ nl, nl = ps.length := ⟨_, rfl⟩
 rw [← hnl] at hi hQi hj hQj
 have HI := hidd hi
 have HJ := hidd hj
 have HNL := hidd hnl
 have HPS := hidd eps
 have HPI := hidd hPi
 have HPJ := hidd hPj
 have HTQ : Hid (Int.tmod Q (nl : Int) = (i : Int)) := by show _ = _; rw [Int.tmod_eq_emod_of_nonneg (by omega), hQi]
 have HTK : Hid (Int.tmod K (nl : Int) = (j : Int)) := by show _ = _; rw [Int.tmod_eq_emod_of_nonneg (by omega), hQj]
 have HLN : Hid (¬ nl = 0) := by show ¬ _; omega
 have IK : Hid (IntKind.i64.wrap K = K) := IntWalk.i64_in _ (by omega)
 have HBR := hidd hb0
 have HPA := hidd (And.intro hp (And.intro hp1 (And.intro (show p ≤ 65537 by omega) hp3)))
 have HAE := hidd em
 have HMM := hidd hm
 have HM0 : Hid (¬ m = 0) := by show ¬ _; omega
 have HMP : Hid (0 < m) := by show 0 < _; omega
 have HAX := hidd (And.intro ha0 (And.intro hx0 hy0))
 have HBB := hidd eb
 have HON := hidd hon1
 have RR : Hid (0 ≤ 5 + M9 ∧ 5 + M9 ≤ 65535) := by show _ ∧ _; omega
 have C0 : Hid (IntKind.u16.wrap M9 = M9) := by show _ = _; simp [IntKind.wrap, IntKind.bits, IntKind.signed]; omega
 have C1 : Hid (IntKind.u16.wrap (5 + M9) = 5 + M9) := by show _ = _; simp [IntKind.wrap, IntKind.bits, IntKind.signed]; omega
 have IA : Hid (IntKind.i64.wrap A = A) := IntWalk.i64_in _ (by omega)
 have IX : Hid (IntKind.i64.wrap X = X) := IntWalk.i64_in _ (by omega)
 have IY : Hid (IntKind.i64.wrap Y = Y) := IntWalk.i64_in _ (by omega)
 have IQ : Hid (IntKind.i64.wrap Q = Q) := IntWalk.i64_in _ (by omega)
 have TA : Hid (Int.tmod A m = a) := by show _ = _; rw [Int.tmod_eq_emod_of_nonneg (by omega), ea]
 have TX : Hid (Int.tmod X m = x) := by show _ = _; rw [Int.tmod_eq_emod_of_nonneg (by omega), ex]
 have TY : Hid (Int.tmod Y m = y) := by show _ = _; rw [Int.tmod_eq_emod_of_nonneg (by omega), ey]
 clear hp hp1 hp2 hp3 em hm ea ex ey eb ha0 hx0 hy0 hb0 hc hon1 hM hA hX hY hQ eT eR hon2 hon3 hi hQi hPi hj hQj hPj eps hnl hK
 obtain ⟨_, rfl, hf0⟩ := h
 have hF0 := hf0
 obtain ⟨_, rfl, _, _, rfl, _, _, rfl, _, _, rfl, _, _, rfl, _, rfl⟩ := hf0
 obtain ⟨w1, b1, hw1, hb1, hs1, E⟩ := fr_start w (F := Fq.st [.v (.int .u8 M9), .v (.int .u8 A), .v (.int .u8 X), .v (.int .u8 Y), .v (.int .u16 Q)]) (us := [.int .u8 M9, .int .u8 A, .int .u8 X, .int .u8 Y, .int .u16 Q]) 24 rfl (by simp) (hF0.tame) (show (Fq.st [.v (.int .u8 M9), .v (.int .u8 A), .v (.int .u8 X), .v (.int .u8 Y), .v (.int .u16 Q)]).P _ w from ⟨_, rfl, hF0⟩)
 go_enter Try.func3, Try.ntmps3
 go_upto_region 1 with (fail)
 rw [← hw1]
 rw [← hb1]
 clear hw1 hb1 hs1
 refine region_fr (C := [Fq.is (.bool true), Fq.is (.bool true)]) (ks := [none]) (new := []) E rfl (by kernel_rfl) rfl rfl (fun hp => ⟨?_, ?_, trivial⟩) ?_
 ·exact q_call0 hp (free_of rfl) trivial (enq_f_algorist_algoristlaw06_examples) (fun w => exSixExamples w)
 ·exact q_assign hp (free_of rfl) trivial (sqi 0)
 intro L vs w2 nb hL hC hn E2
 have e0 : vs 0 = .bool true := hC 0 (by simp)
 have e1 : vs 1 = .bool true := hC 1 (by simp)
 have E : Fr w [(b1, 5, Fq.st [.v (.int .u8 M9), .v (.int .u8 A), .v (.int .u8 X), .v (.int .u8 Y), .v (.int .u16 Q)])] w2 := E2
 rw [lay_all hL]
 simp only [putAll, dstOf, List.length_cons, List.length_nil, Nat.zero_add, Nat.reduceAdd, List.getElem?_toArray, List.getElem?_cons_zero, List.getElem?_cons_succ, Option.bind_some, Act.put, List.setIfInBounds_toArray, List.set_cons_succ, List.set_cons_zero]
 rw [e0, e1]
 clear e0 e1 hC hn E2 hL vs L nb
 go_upto_region 2 with (fail)
 refine region_fr (C := [Fq.is (.bool true), Fq.is (.bool false)]) (ks := [none]) (new := []) E rfl (by kernel_rfl) rfl rfl (fun hp => ⟨?_, ?_, trivial⟩) ?_
 ·exact q_move hp (free_of rfl) trivial (sqo 5)
 ·exact q_one (F := fun v _ => v = .bool true) hp (free_of rfl) trivial (sqi 0) (fun ρ w _ h => ⟨.bool false, by simp [execOp, go_sem, h], rfl⟩)
 intro L vs w3 nb hL hC hn E3
 have e0 : vs 0 = .bool true := hC 0 (by simp)
 have e1 : vs 1 = .bool false := hC 1 (by simp)
 have E : Fr w [(b1, 5, Fq.st [.v (.int .u8 M9), .v (.int .u8 A), .v (.int .u8 X), .v (.int .u8 Y), .v (.int .u16 Q)])] w3 := E3
 rw [lay_all hL]
 simp only [putAll, dstOf, List.length_cons, List.length_nil, Nat.zero_add, Nat.reduceAdd, List.getElem?_toArray, List.getElem?_cons_zero, List.getElem?_cons_succ, Option.bind_some, Act.put, List.setIfInBounds_toArray, List.set_cons_succ, List.set_cons_zero]
 rw [e0, e1]
 clear e0 e1 hC hn E3 hL vs L nb
 go_upto_region 4 with (fail)
 refine region_fr (C := [Fq.is (.pointer (some ⟨b1, 0, none⟩)), Fq.is (.int .u8 M9), Fq.is (.int .u16 M9), Fq.is (.int .u16 (5 + M9)), Fq.is (.int .i64 m), Fq.is (.int .i64 m)]) (ks := [none]) (new := []) E rfl (by kernel_rfl) rfl rfl (fun hp => ⟨?_, ?_, ?_, ?_, ?_, ?_, trivial⟩) ?_
 ·exact q_addr (b := b1) (off := 0) (off' := 0) hp (free_of rfl) trivial (sqo 2) (fun ρ w h => by simp [execOp, go_sem, h]) (fun _ => rfl)
 ·exact q_load1 (off := 0) (fs := [.v (.int .u8 M9), .v (.int .u8 A), .v (.int .u8 X), .v (.int .u8 Y), .v (.int .u16 Q)]) (u := .int .u8 M9) hp (free_of rfl) trivial (mq 0 rfl) (.inl rfl) rfl rfl (fun ρ w b h1 h2 => by simp [execOp, go_sem, h1, h2]) (sqi 0) (fun _ => rfl)
 ·exact q_one (F := fun v _ => v = .int .u8 M9) hp (free_of rfl) trivial (sqi 1) (fun ρ w hc h => ⟨.int .u16 M9, by simp [execOp, go_sem, h, C0.out], rfl⟩)
 ·exact q_one (F := fun v _ => v = .int .u16 M9) hp (free_of rfl) trivial (sqi 2) (fun ρ w hc h => ⟨.int .u16 (5 + M9), by simp [execOp, go_sem, h, hc, C1.out], rfl⟩)
 ·exact q_call1 (F := (Fq.is (.int .u16 (5 + M9))).P) hp (free_of rfl) trivial (enq_U_Prime) (sqi 3) (fun v w h => (by subst h; rw [HAE.out]; exact exPrime _ RR.out.1 RR.out.2 HPA.out.1 HPA.out.2.1 HPA.out.2.2.1 HPA.out.2.2.2))
 ·exact q_assign hp (free_of rfl) trivial (sqi 4)
 intro L vs w4 nb hL hC hn E4
 have e0 : vs 0 = .pointer (some ⟨b1, 0, none⟩) := hC 0 (by simp)
 have e1 : vs 1 = .int .u8 M9 := hC 1 (by simp)
 have e2 : vs 2 = .int .u16 M9 := hC 2 (by simp)
 have e3 : vs 3 = .int .u16 (5 + M9) := hC 3 (by simp)
 have e4 : vs 4 = .int .i64 m := hC 4 (by simp)
 have e5 : vs 5 = .int .i64 m := hC 5 (by simp)
 have E : Fr w [(b1, 5, Fq.st [.v (.int .u8 M9), .v (.int .u8 A), .v (.int .u8 X), .v (.int .u8 Y), .v (.int .u16 Q)])] w4 := E4
 rw [lay_all hL]
 simp only [putAll, dstOf, List.length_cons, List.length_nil, Nat.zero_add, Nat.reduceAdd, List.getElem?_toArray, List.getElem?_cons_zero, List.getElem?_cons_succ, Option.bind_some, Act.put, List.setIfInBounds_toArray, List.set_cons_succ, List.set_cons_zero]
 rw [e0, e1, e2, e3, e4, e5]
 clear e0 e1 e2 e3 e4 e5 hC hn E4 hL vs L nb
 clear C0 C1 HPA HAE RR
 go_upto_region 5 with (fail)
 refine region_fr (C := [Fq.is (.int .i64 m), Fq.is (.pointer (some ⟨b1, 1, none⟩)), Fq.is (.int .u8 A), Fq.is (.int .i64 A), Fq.is (.int .i64 m), Fq.is (.int .i64 a), Fq.is (.pointer (some ⟨b1, 2, none⟩)), Fq.is (.int .u8 X), Fq.is (.int .i64 X), Fq.is (.int .i64 m), Fq.is (.int .i64 x), Fq.is (.pointer (some ⟨b1, 3, none⟩)), Fq.is (.int .u8 Y), Fq.is (.int .i64 Y), Fq.is (.int .i64 m), Fq.is (.int .i64 y), Fq.st [.n a, .n b, .n m], Fq.any, Fq.any]) (ks := [none]) (new := [⟨17, 18, 6, Fq.st [.n 0, .n 0, .n 0], Fq.st [.n a, .n b, .n m], none⟩]) E rfl (by kernel_rfl) rfl rfl (fun hp => ⟨?_, ?_, ?_, ?_, ?_, ?_, ?_, ?_, ?_, ?_, ?_, ?_, ?_, ?_, ?_, ?_, ?_, ?_, ?_, trivial⟩) ?_
 ·exact q_move hp (free_of rfl) trivial (sqo 6)
 ·exact q_addr (b := b1) (off := 0) (off' := 1) hp (free_of rfl) trivial (sqo 2) (fun ρ w h => by simp [execOp, go_sem, h]) (fun _ => rfl)
 ·exact q_load1 (off := 1) (fs := [.v (.int .u8 M9), .v (.int .u8 A), .v (.int .u8 X), .v (.int .u8 Y), .v (.int .u16 Q)]) (u := .int .u8 A) hp (free_of rfl) trivial (mq 0 rfl) (.inl rfl) rfl rfl (fun ρ w b h1 h2 => by simp [execOp, go_sem, h1, h2]) (sqi 1) (fun _ => rfl)
 ·exact q_one (F := fun v _ => v = .int .u8 A) hp (free_of rfl) trivial (sqi 2) (fun ρ w hc h => ⟨.int .i64 A, by simp [execOp, go_sem, h, IA.out], rfl⟩)
 ·exact q_move hp (free_of rfl) trivial (sqo 6)
 ·exact q_two (F := fun v _ => v = .int .i64 A) (G := fun v _ => v = .int .i64 m) hp (free_of rfl) trivial (sqi 3) (sqi 4) (fun ρ w hc h h' => ⟨.int .i64 a, by simp [execOp, go_sem, h, h', HM0.out, TA.out], rfl⟩)
 ·exact q_addr (b := b1) (off := 0) (off' := 2) hp (free_of rfl) trivial (sqo 2) (fun ρ w h => by simp [execOp, go_sem, h]) (fun _ => rfl)
 ·exact q_load1 (off := 2) (fs := [.v (.int .u8 M9), .v (.int .u8 A), .v (.int .u8 X), .v (.int .u8 Y), .v (.int .u16 Q)]) (u := .int .u8 X) hp (free_of rfl) trivial (mq 0 rfl) (.inl rfl) rfl rfl (fun ρ w b h1 h2 => by simp [execOp, go_sem, h1, h2]) (sqi 6) (fun _ => rfl)
 ·exact q_one (F := fun v _ => v = .int .u8 X) hp (free_of rfl) trivial (sqi 7) (fun ρ w hc h => ⟨.int .i64 X, by simp [execOp, go_sem, h, IX.out], rfl⟩)
 ·exact q_move hp (free_of rfl) trivial (sqo 6)
 ·exact q_two (F := fun v _ => v = .int .i64 X) (G := fun v _ => v = .int .i64 m) hp (free_of rfl) trivial (sqi 8) (sqi 9) (fun ρ w hc h h' => ⟨.int .i64 x, by simp [execOp, go_sem, h, h', HM0.out, TX.out], rfl⟩)
 ·exact q_addr (b := b1) (off := 0) (off' := 3) hp (free_of rfl) trivial (sqo 2) (fun ρ w h => by simp [execOp, go_sem, h]) (fun _ => rfl)
 ·exact q_load1 (off := 3) (fs := [.v (.int .u8 M9), .v (.int .u8 A), .v (.int .u8 X), .v (.int .u8 Y), .v (.int .u16 Q)]) (u := .int .u8 Y) hp (free_of rfl) trivial (mq 0 rfl) (.inl rfl) rfl rfl (fun ρ w b h1 h2 => by simp [execOp, go_sem, h1, h2]) (sqi 11) (fun _ => rfl)
 ·exact q_one (F := fun v _ => v = .int .u8 Y) hp (free_of rfl) trivial (sqi 12) (fun ρ w hc h => ⟨.int .i64 Y, by simp [execOp, go_sem, h, IY.out], rfl⟩)
 ·exact q_move hp (free_of rfl) trivial (sqo 6)
 ·exact q_two (F := fun v _ => v = .int .i64 Y) (G := fun v _ => v = .int .i64 m) hp (free_of rfl) trivial (sqi 13) (sqi 14) (fun ρ w hc h h' => ⟨.int .i64 y, by simp [execOp, go_sem, h, h', HM0.out, TY.out], rfl⟩)
 ·exact q_call4 (F := (Fq.is (.int .i64 m)).P) (G := (Fq.is (.int .i64 a)).P) (F3 := (Fq.is (.int .i64 x)).P) (F4 := (Fq.is (.int .i64 y)).P) hp (free_of rfl) trivial (enq_f_algorist_algoristref06_Curve) (sqi 0) (sqi 5) (sqi 10) (sqi 15) (fun v v' u u' w h h' g g' => (by subst h h' g g'; exact exCurve (by have := HMM.out; omega) (by have := HAX.out; have := HMM.out; omega) (by have := HAX.out; have := HMM.out; omega) (by have := HAX.out; have := HMM.out; omega) HBB.out.symm))
 ·exact q_allocSt (us := [.bool false, .slice none 0 0, .bool false, .slice none 0 0, .bool false, .slice none 0 0]) (fs := [.n 0, .n 0, .n 0]) hp (mq 0 rfl) rfl rfl rfl (Nat.lt_of_sub_eq_succ rfl) rfl fits0_api_Mod (fun ρ w => ralloc_api_Mod ρ w) rfl (Nat.ne_of_beq_eq_false rfl) (fun _ _ => trivial) (old_ne rfl) (newk_ne rfl)
 ·exact q_storeNewSt (fs := [.n 0, .n 0, .n 0]) (gs := [.n a, .n b, .n m]) hp (mq 0 rfl) rfl rfl rfl rfl size_api_Mod rfl (own_ptr rfl rfl (by simp) rfl) (sq_in 16 rfl rfl (by simp) rfl (fun v w h => fitv_st h)) (fun _ _ => trivial) (old_ne rfl) (newi_ne rfl)
 intro L vs w5 nb hL hC hn E5
 have e0 : vs 0 = .int .i64 m := hC 0 (by simp)
 have e1 : vs 1 = .pointer (some ⟨b1, 1, none⟩) := hC 1 (by simp)
 have e2 : vs 2 = .int .u8 A := hC 2 (by simp)
 have e3 : vs 3 = .int .i64 A := hC 3 (by simp)
 have e4 : vs 4 = .int .i64 m := hC 4 (by simp)
 have e5 : vs 5 = .int .i64 a := hC 5 (by simp)
 have e6 : vs 6 = .pointer (some ⟨b1, 2, none⟩) := hC 6 (by simp)
 have e7 : vs 7 = .int .u8 X := hC 7 (by simp)
 have e8 : vs 8 = .int .i64 X := hC 8 (by simp)
 have e9 : vs 9 = .int .i64 m := hC 9 (by simp)
 have e10 : vs 10 = .int .i64 x := hC 10 (by simp)
 have e11 : vs 11 = .pointer (some ⟨b1, 3, none⟩) := hC 11 (by simp)
 have e12 : vs 12 = .int .u8 Y := hC 12 (by simp)
 have e13 : vs 13 = .int .i64 Y := hC 13 (by simp)
 have e14 : vs 14 = .int .i64 m := hC 14 (by simp)
 have e15 : vs 15 = .int .i64 y := hC 15 (by simp)
 have e17 : vs 17 = .pointer (some ⟨nb 17, 0, none⟩) := hn _ (mq 0 rfl)
 have E : Fr w [(nb 17, 6, Fq.st [.n a, .n b, .n m]), (b1, 5, Fq.st [.v (.int .u8 M9), .v (.int .u8 A), .v (.int .u8 X), .v (.int .u8 Y), .v (.int .u16 Q)])] w5 := E5
 rw [lay_all hL]
 simp only [putAll, dstOf, List.length_cons, List.length_nil, Nat.zero_add, Nat.reduceAdd, List.getElem?_toArray, List.getElem?_cons_zero, List.getElem?_cons_succ, Option.bind_some, Act.put, List.setIfInBounds_toArray, List.set_cons_succ, List.set_cons_zero]
 rw [e0, e1, e2, e3, e4, e5, e6, e7, e8, e9, e10, e11, e12, e13, e14, e15, e17]
 generalize nb 17 = b5_17 at E ⊢
 generalize vs 16 = u5_16
 clear e0 e1 e2 e3 e4 e5 e6 e7 e8 e9 e10 e11 e12 e13 e14 e15 e17 hC hn E5 hL vs L nb
 clear IA TA
 go_upto_region 6 with (fail)
 cases ha : decide ((Int.gcd ((4 * (a * (a * a))) + (27 * (b * b))) m : Int) = 1)
 case false =>
  have HNS := hidd ha
  clear ha
  refine region_fr (C := [Fq.st [.n a, .n b, .n m], Fq.is (.bool false), Fq.is (.bool true)]) (ks := [none, none]) (new := []) E rfl (by kernel_rfl) rfl rfl (fun hp => ⟨?_, ?_, ?_, trivial⟩) ?_
  ·exact q_loadSt (off := 0) (l := 6) (fs := [.n a, .n b, .n m]) (gs := [.n a, .n b, .n m]) hp (free_of rfl) trivial (mq 0 rfl) (.inl rfl) rfl row_api_Mod rfl (sqo 7) (fun v w h => h)
  ·exact q_call1 (F := (Fq.st [.n a, .n b, .n m]).P) hp (free_of rfl) trivial (enq_f_algorist_algoristref06_Nonsingular) (sqi 0) (fun v w h => exNonsing h BM.out BA.out BB.out HMP.out HNS.out)
  ·exact q_one (F := fun v _ => v = .bool false) hp (free_of rfl) trivial (sqi 1) (fun ρ w _ h => ⟨.bool true, by simp [execOp, go_sem, h], rfl⟩)
  intro L vs w6 nb hL hC hn E6
  have e1 : vs 1 = .bool false := hC 1 (by simp)
  have e2 : vs 2 = .bool true := hC 2 (by simp)
  have E : Fr w [(b5_17, 6, Fq.st [.n a, .n b, .n m]), (b1, 5, Fq.st [.v (.int .u8 M9), .v (.int .u8 A), .v (.int .u8 X), .v (.int .u8 Y), .v (.int .u16 Q)])] w6 := E6
  rw [lay_all hL]
  simp only [putAll, dstOf, List.length_cons, List.length_nil, Nat.zero_add, Nat.reduceAdd, List.getElem?_toArray, List.getElem?_cons_zero, List.getElem?_cons_succ, Option.bind_some, Act.put, List.setIfInBounds_toArray, List.set_cons_succ, List.set_cons_zero]
  rw [e1, e2]
  generalize vs 0 = u6_0
  clear e1 e2 hC hn E6 hL vs L nb
  go_upto_region 7 with (fail)
  refine region_fr (C := [Fq.is (.bool true), Fq.is (.bool true)]) (ks := [none, none]) (new := []) E rfl (by kernel_rfl) rfl rfl (fun hp => ⟨?_, ?_, trivial⟩) ?_
  ·exact q_move hp (free_of rfl) trivial (sqo 5)
  ·exact q_assign hp (free_of rfl) trivial (sqi 0)
  intro L vs w7 nb hL hC hn E7
  have e0 : vs 0 = .bool true := hC 0 (by simp)
  have e1 : vs 1 = .bool true := hC 1 (by simp)
  have E : Fr w [(b5_17, 6, Fq.st [.n a, .n b, .n m]), (b1, 5, Fq.st [.v (.int .u8 M9), .v (.int .u8 A), .v (.int .u8 X), .v (.int .u8 Y), .v (.int .u16 Q)])] w7 := E7
  rw [lay_all hL]
  simp only [putAll, dstOf, List.length_cons, List.length_nil, Nat.zero_add, Nat.reduceAdd, List.getElem?_toArray, List.getElem?_cons_zero, List.getElem?_cons_succ, Option.bind_some, Act.put, List.setIfInBounds_toArray, List.set_cons_succ, List.set_cons_zero]
  rw [e0, e1]
  clear e0 e1 hC hn E7 hL vs L nb
  clear HNS HCR HMM HM0 HMP HAX HBB HON IX IY IQ TX TY HI HJ HNL HPS HPI HPJ HTQ HTK HLN IK HBR HOT HOR
  clear BM BA BB BP BT BR BZ
  go_wp2
  refine bodyPost_ret (v := .bool true) ?_ rfl ⟨_, rfl, E.below, rfl⟩
  simp [results, Try.results3, go_sem]
 case true =>
  obtain ⟨S, U, V, N, g1, g2, g3, g4, g5, g6, g7, g8, o1, o2, o3, o4⟩ := group_facts (HCR.out (Int.ofNat.inj (of_decide_eq_true ha))) HON.out HOT.out HOR.out
  have HNS := hidd ha
  clear ha
  have G1 := hidd g1
  have G2 := hidd g2
  have G3 := hidd g3
  have G4 := hidd g4
  have G5 := hidd g5
  have G6 := hidd g6
  have G7 := hidd g7
  have G8 := hidd g8
  have BS := hidd (o1.ab BM.out)
  have BU := hidd (o2.ab BM.out)
  have BV := hidd (o3.ab BM.out)
  have BN := hidd (o4.ab BM.out)
  have HOS := hidd o1
  clear g1 g2 g3 g4 g5 g6 g7 g8 o1 o2 o3 o4
  refine region_fr (C := [Fq.st [.n a, .n b, .n m], Fq.is (.bool true), Fq.is (.bool false)]) (ks := [none, none]) (new := []) E rfl (by kernel_rfl) rfl rfl (fun hp => ⟨?_, ?_, ?_, trivial⟩) ?_
  ·exact q_loadSt (off := 0) (l := 6) (fs := [.n a, .n b, .n m]) (gs := [.n a, .n b, .n m]) hp (free_of rfl) trivial (mq 0 rfl) (.inl rfl) rfl row_api_Mod rfl (sqo 7) (fun v w h => h)
  ·exact q_call1 (F := (Fq.st [.n a, .n b, .n m]).P) hp (free_of rfl) trivial (enq_f_algorist_algoristref06_Nonsingular) (sqi 0) (fun v w h => exNonsing h BM.out BA.out BB.out HMP.out HNS.out)
  ·exact q_one (F := fun v _ => v = .bool true) hp (free_of rfl) trivial (sqi 1) (fun ρ w _ h => ⟨.bool false, by simp [execOp, go_sem, h], rfl⟩)
  intro L vs w8 nb hL hC hn E8
  have e1 : vs 1 = .bool true := hC 1 (by simp)
  have e2 : vs 2 = .bool false := hC 2 (by simp)
  have E : Fr w [(b5_17, 6, Fq.st [.n a, .n b, .n m]), (b1, 5, Fq.st [.v (.int .u8 M9), .v (.int .u8 A), .v (.int .u8 X), .v (.int .u8 Y), .v (.int .u16 Q)])] w8 := E8
  rw [lay_all hL]
  simp only [putAll, dstOf, List.length_cons, List.length_nil, Nat.zero_add, Nat.reduceAdd, List.getElem?_toArray, List.getElem?_cons_zero, List.getElem?_cons_succ, Option.bind_some, Act.put, List.setIfInBounds_toArray, List.set_cons_succ, List.set_cons_zero]
  rw [e1, e2]
  generalize vs 0 = u8_0
  clear e1 e2 hC hn E8 hL vs L nb
  clear HNS HCR
  go_upto_region 8 with (fail)
  refine wp_region_list ?_
  refine wpList_loadSt rfl 31 (.tmp 7) rfl row_api_Mod rfl rfl (StAt.of_box (E.box 0 rfl)) fun vc hvc => ?_
  go_upto_region 9 with (first | (go_at_call 11; (with_reducible refine (exPoints hvc (by have := HMM.out; omega) HAX.out.1 HBR.out).mono ?_); rintro e w9 ⟨vL, rfl, hBL, hL0, hL1, _, gg, cp, rfl, hgg, hrow⟩) | fail)
  rw [← HPS.out] at hrow hL0
  first | rw [← HPS.out, ← HNL.out] | rw [List.length_map, ← HPS.out, ← HNL.out]
  have hbox := rowL_box hrow hL0
  rw [← HNL.out] at hbox
  replace E := Fr.add E hBL hgg hbox
  clear hvc hBL hL0 hL1 hgg hrow hbox
  refine region_fr (C := [Fq.is (.pointer (some ⟨b1, 2, none⟩)), Fq.is (.int .u8 X), Fq.is (.int .i64 X), Fq.is (.int .i64 m), Fq.is (.int .i64 x), Fq.is (.pointer (some ⟨b1, 3, none⟩)), Fq.is (.int .u8 Y), Fq.is (.int .i64 Y), Fq.is (.int .i64 m), Fq.is (.int .i64 y), Fq.st [.n x, .n y, .v (.bool false)], Fq.is (.slice (some ⟨gg, 0, none⟩) nl cp), Fq.is (.pointer (some ⟨b1, 4, none⟩)), Fq.is (.int .u16 Q), Fq.is (.int .i64 Q), Fq.is (.slice (some ⟨gg, 0, none⟩) nl cp), Fq.is (.int .i64 ((nl : Nat) : Int)), Fq.is (.int .i64 (i : Int)), Fq.is (.pointer (some ⟨gg, i * 5, none⟩)), Fq.st [.n T.x, .n T.y, .v (.bool T.i)], Fq.is (.slice (some ⟨gg, 0, none⟩) nl cp), Fq.is (.int .u16 K), Fq.is (.int .i64 K), Fq.is (.slice (some ⟨gg, 0, none⟩) nl cp), Fq.is (.int .i64 ((nl : Nat) : Int)), Fq.is (.int .i64 (j : Int)), Fq.is (.pointer (some ⟨gg, j * 5, none⟩)), Fq.st [.n R.x, .n R.y, .v (.bool R.i)], Fq.any, Fq.any, Fq.any, Fq.any, Fq.any, Fq.any]) (ks := [none, none, none]) (new := [⟨28, 31, 5, Fq.st [.n 0, .n 0, .v (.bool false)], Fq.st [.n x, .n y, .v (.bool false)], none⟩, ⟨29, 32, 5, Fq.st [.n 0, .n 0, .v (.bool false)], Fq.st [.n T.x, .n T.y, .v (.bool T.i)], none⟩, ⟨30, 33, 5, Fq.st [.n 0, .n 0, .v (.bool false)], Fq.st [.n R.x, .n R.y, .v (.bool R.i)], none⟩]) E rfl (by kernel_rfl) rfl rfl (fun hp => ⟨?_, ?_, ?_, ?_, ?_, ?_, ?_, ?_, ?_, ?_, ?_, ?_, ?_, ?_, ?_, ?_, ?_, ?_, ?_, ?_, ?_, ?_, ?_, ?_, ?_, ?_, ?_, ?_, ?_, ?_, ?_, ?_, ?_, ?_, trivial⟩) ?_
  ·exact q_addr (b := b1) (off := 0) (off' := 2) hp (free_of rfl) trivial (sqo 2) (fun ρ w h => by simp [execOp, go_sem, h]) (fun _ => rfl)
  ·exact q_load1 (off := 2) (fs := [.v (.int .u8 M9), .v (.int .u8 A), .v (.int .u8 X), .v (.int .u8 Y), .v (.int .u16 Q)]) (u := .int .u8 X) hp (free_of rfl) trivial (mq 2 rfl) (.inl rfl) rfl rfl (fun ρ w b h1 h2 => by simp [execOp, go_sem, h1, h2]) (sqi 0) (fun _ => rfl)
  ·exact q_one (F := fun v _ => v = .int .u8 X) hp (free_of rfl) trivial (sqi 1) (fun ρ w hc h => ⟨.int .i64 X, by simp [execOp, go_sem, h, IX.out], rfl⟩)
  ·exact q_move hp (free_of rfl) trivial (sqo 6)
  ·exact q_two (F := fun v _ => v = .int .i64 X) (G := fun v _ => v = .int .i64 m) hp (free_of rfl) trivial (sqi 2) (sqi 3) (fun ρ w hc h h' => ⟨.int .i64 x, by simp [execOp, go_sem, h, h', HM0.out, TX.out], rfl⟩)
  ·exact q_addr (b := b1) (off := 0) (off' := 3) hp (free_of rfl) trivial (sqo 2) (fun ρ w h => by simp [execOp, go_sem, h]) (fun _ => rfl)
  ·exact q_load1 (off := 3) (fs := [.v (.int .u8 M9), .v (.int .u8 A), .v (.int .u8 X), .v (.int .u8 Y), .v (.int .u16 Q)]) (u := .int .u8 Y) hp (free_of rfl) trivial (mq 2 rfl) (.inl rfl) rfl rfl (fun ρ w b h1 h2 => by simp [execOp, go_sem, h1, h2]) (sqi 5) (fun _ => rfl)
  ·exact q_one (F := fun v _ => v = .int .u8 Y) hp (free_of rfl) trivial (sqi 6) (fun ρ w hc h => ⟨.int .i64 Y, by simp [execOp, go_sem, h, IY.out], rfl⟩)
  ·exact q_move hp (free_of rfl) trivial (sqo 6)
  ·exact q_two (F := fun v _ => v = .int .i64 Y) (G := fun v _ => v = .int .i64 m) hp (free_of rfl) trivial (sqi 7) (sqi 8) (fun ρ w hc h h' => ⟨.int .i64 y, by simp [execOp, go_sem, h, h', HM0.out, TY.out], rfl⟩)
  ·exact q_call2 (F := (Fq.is (.int .i64 x)).P) (G := (Fq.is (.int .i64 y)).P) hp (free_of rfl) trivial (enq_f_algorist_algoristlaw06_at) (sqi 4) (sqi 9) (fun v v' w h h' => (by subst h h'; exact exAt (by have := HAX.out; have := HMM.out; omega) (by have := HAX.out; have := HMM.out; omega)))
  ·exact q_move hp (free_of rfl) trivial (sqo 8)
  ·exact q_addr (b := b1) (off := 0) (off' := 4) hp (free_of rfl) trivial (sqo 2) (fun ρ w h => by simp [execOp, go_sem, h]) (fun _ => rfl)
  ·exact q_load1 (off := 4) (fs := [.v (.int .u8 M9), .v (.int .u8 A), .v (.int .u8 X), .v (.int .u8 Y), .v (.int .u16 Q)]) (u := .int .u16 Q) hp (free_of rfl) trivial (mq 2 rfl) (.inl rfl) rfl rfl (fun ρ w b h1 h2 => by simp [execOp, go_sem, h1, h2]) (sqi 12) (fun _ => rfl)
  ·exact q_one (F := fun v _ => v = .int .u16 Q) hp (free_of rfl) trivial (sqi 13) (fun ρ w hc h => ⟨.int .i64 Q, by simp [execOp, go_sem, h, IQ.out], rfl⟩)
  ·exact q_move hp (free_of rfl) trivial (sqo 8)
  ·exact q_lenT_api_Point hp (free_of rfl) trivial (sqi 15) (fun _ => rfl)
  ·exact q_two (F := fun v _ => v = .int .i64 Q) (G := fun v _ => v = .int .i64 ((nl : Nat) : Int)) hp (free_of rfl) trivial (sqi 14) (sqi 16) (fun ρ w hc h h' => ⟨.int .i64 (i : Int), by simp [execOp, go_sem, h, h', HLN.out, HTQ.out], rfl⟩)
  ·exact q_index_api_Point (b := gg) (l := nl) (c := cp) (k := i) hp (free_of rfl) trivial (sqi 11) (sqi 17) HI.out (fun _ => rfl)
  ·exact q_loadSt (off := i * 5) (l := 5) (fs := rowL ps) (gs := [.n T.x, .n T.y, .v (.bool T.i)]) hp (free_of rfl) trivial (mq 0 rfl) (.inl rfl) rfl row_api_Point (rowL_sub HPI.out) (sqi 18) (fun v w h => h)
  ·exact q_move hp (free_of rfl) trivial (sqo 8)
  ·exact q_move hp (free_of rfl) trivial (sqo 1)
  ·exact q_one (F := fun v _ => v = .int .u16 K) hp (free_of rfl) trivial (sqi 21) (fun ρ w hc h => ⟨.int .i64 K, by simp [execOp, go_sem, h, IK.out], rfl⟩)
  ·exact q_move hp (free_of rfl) trivial (sqo 8)
  ·exact q_lenT_api_Point hp (free_of rfl) trivial (sqi 23) (fun _ => rfl)
  ·exact q_two (F := fun v _ => v = .int .i64 K) (G := fun v _ => v = .int .i64 ((nl : Nat) : Int)) hp (free_of rfl) trivial (sqi 22) (sqi 24) (fun ρ w hc h h' => ⟨.int .i64 (j : Int), by simp [execOp, go_sem, h, h', HLN.out, HTK.out], rfl⟩)
  ·exact q_index_api_Point (b := gg) (l := nl) (c := cp) (k := j) hp (free_of rfl) trivial (sqi 20) (sqi 25) HJ.out (fun _ => rfl)
  ·exact q_loadSt (off := j * 5) (l := 5) (fs := rowL ps) (gs := [.n R.x, .n R.y, .v (.bool R.i)]) hp (free_of rfl) trivial (mq 0 rfl) (.inl rfl) rfl row_api_Point (rowL_sub HPJ.out) (sqi 26) (fun v w h => h)
  ·exact q_allocSt (us := [.bool false, .slice none 0 0, .bool false, .slice none 0 0, .bool false]) (fs := [.n 0, .n 0, .v (.bool false)]) hp (mq 0 rfl) rfl rfl rfl (Nat.lt_of_sub_eq_succ rfl) rfl fits0_api_Point (fun ρ w => ralloc_api_Point ρ w) rfl (Nat.ne_of_beq_eq_false rfl) (fun _ _ => trivial) (old_ne rfl) (newk_ne rfl)
  ·exact q_allocSt (us := [.bool false, .slice none 0 0, .bool false, .slice none 0 0, .bool false]) (fs := [.n 0, .n 0, .v (.bool false)]) hp (mq 1 rfl) rfl rfl rfl (Nat.lt_of_sub_eq_succ rfl) rfl fits0_api_Point (fun ρ w => ralloc_api_Point ρ w) rfl (Nat.ne_of_beq_eq_false rfl) (fun _ _ => trivial) (old_ne rfl) (newk_ne rfl)
  ·exact q_allocSt (us := [.bool false, .slice none 0 0, .bool false, .slice none 0 0, .bool false]) (fs := [.n 0, .n 0, .v (.bool false)]) hp (mq 2 rfl) rfl rfl rfl (Nat.lt_of_sub_eq_succ rfl) rfl fits0_api_Point (fun ρ w => ralloc_api_Point ρ w) rfl (Nat.ne_of_beq_eq_false rfl) (fun _ _ => trivial) (old_ne rfl) (newk_ne rfl)
  ·exact q_storeNewSt (fs := [.n 0, .n 0, .v (.bool false)]) (gs := [.n x, .n y, .v (.bool false)]) hp (mq 0 rfl) rfl rfl rfl rfl size_api_Point rfl (own_ptr rfl rfl (by simp) rfl) (sq_in 10 rfl rfl (by simp) rfl (fun v w h => fitv_st h)) (fun _ _ => trivial) (old_ne rfl) (newi_ne rfl)
  ·exact q_storeNewSt (fs := [.n 0, .n 0, .v (.bool false)]) (gs := [.n T.x, .n T.y, .v (.bool T.i)]) hp (mq 1 rfl) rfl rfl rfl rfl size_api_Point rfl (own_ptr rfl rfl (by simp) rfl) (sq_in 19 rfl rfl (by simp) rfl (fun v w h => fitv_st h)) (fun _ _ => trivial) (old_ne rfl) (newi_ne rfl)
  ·exact q_storeNewSt (fs := [.n 0, .n 0, .v (.bool false)]) (gs := [.n R.x, .n R.y, .v (.bool R.i)]) hp (mq 2 rfl) rfl rfl rfl rfl size_api_Point rfl (own_ptr rfl rfl (by simp) rfl) (sq_in 27 rfl rfl (by simp) rfl (fun v w h => fitv_st h)) (fun _ _ => trivial) (old_ne rfl) (newi_ne rfl)
  intro L vs w9 nb hL hC hn E9
  have e0 : vs 0 = .pointer (some ⟨b1, 2, none⟩) := hC 0 (by simp)
  have e1 : vs 1 = .int .u8 X := hC 1 (by simp)
  have e2 : vs 2 = .int .i64 X := hC 2 (by simp)
  have e3 : vs 3 = .int .i64 m := hC 3 (by simp)
  have e4 : vs 4 = .int .i64 x := hC 4 (by simp)
  have e5 : vs 5 = .pointer (some ⟨b1, 3, none⟩) := hC 5 (by simp)
  have e6 : vs 6 = .int .u8 Y := hC 6 (by simp)
  have e7 : vs 7 = .int .i64 Y := hC 7 (by simp)
  have e8 : vs 8 = .int .i64 m := hC 8 (by simp)
  have e9 : vs 9 = .int .i64 y := hC 9 (by simp)
  have e11 : vs 11 = .slice (some ⟨gg, 0, none⟩) nl cp := hC 11 (by simp)
  have e12 : vs 12 = .pointer (some ⟨b1, 4, none⟩) := hC 12 (by simp)
  have e13 : vs 13 = .int .u16 Q := hC 13 (by simp)
  have e14 : vs 14 = .int .i64 Q := hC 14 (by simp)
  have e15 : vs 15 = .slice (some ⟨gg, 0, none⟩) nl cp := hC 15 (by simp)
  have e16 : vs 16 = .int .i64 ((nl : Nat) : Int) := hC 16 (by simp)
  have e17 : vs 17 = .int .i64 (i : Int) := hC 17 (by simp)
  have e18 : vs 18 = .pointer (some ⟨gg, i * 5, none⟩) := hC 18 (by simp)
  have e20 : vs 20 = .slice (some ⟨gg, 0, none⟩) nl cp := hC 20 (by simp)
  have e21 : vs 21 = .int .u16 K := hC 21 (by simp)
  have e22 : vs 22 = .int .i64 K := hC 22 (by simp)
  have e23 : vs 23 = .slice (some ⟨gg, 0, none⟩) nl cp := hC 23 (by simp)
  have e24 : vs 24 = .int .i64 ((nl : Nat) : Int) := hC 24 (by simp)
  have e25 : vs 25 = .int .i64 (j : Int) := hC 25 (by simp)
  have e26 : vs 26 = .pointer (some ⟨gg, j * 5, none⟩) := hC 26 (by simp)
  have e28 : vs 28 = .pointer (some ⟨nb 28, 0, none⟩) := hn _ (mq 0 rfl)
  have e29 : vs 29 = .pointer (some ⟨nb 29, 0, none⟩) := hn _ (mq 1 rfl)
  have e30 : vs 30 = .pointer (some ⟨nb 30, 0, none⟩) := hn _ (mq 2 rfl)
  have E : Fr w [(nb 28, 5, Fq.st [.n x, .n y, .v (.bool false)]), (nb 29, 5, Fq.st [.n T.x, .n T.y, .v (.bool T.i)]), (nb 30, 5, Fq.st [.n R.x, .n R.y, .v (.bool R.i)]), (gg, (nl * 5), Fq.st (rowL ps)), (b5_17, 6, Fq.st [.n a, .n b, .n m]), (b1, 5, Fq.st [.v (.int .u8 M9), .v (.int .u8 A), .v (.int .u8 X), .v (.int .u8 Y), .v (.int .u16 Q)])] w9 := E9
  rw [lay_all hL]
  simp only [putAll, dstOf, List.length_cons, List.length_nil, Nat.zero_add, Nat.reduceAdd, List.getElem?_toArray, List.getElem?_cons_zero, List.getElem?_cons_succ, Option.bind_some, Act.put, List.setIfInBounds_toArray, List.set_cons_succ, List.set_cons_zero]
  rw [e0, e1, e2, e3, e4, e5, e6, e7, e8, e9, e11, e12, e13, e14, e15, e16, e17, e18, e20, e21, e22, e23, e24, e25, e26, e28, e29, e30]
  generalize nb 28 = b9_28 at E ⊢
  generalize nb 29 = b9_29 at E ⊢
  generalize nb 30 = b9_30 at E ⊢
  generalize vs 10 = u9_10
  generalize vs 19 = u9_19
  generalize vs 27 = u9_27
  clear e0 e1 e2 e3 e4 e5 e6 e7 e8 e9 e11 e12 e13 e14 e15 e16 e17 e18 e20 e21 e22 e23 e24 e25 e26 e28 e29 e30 hC hn E9 hL vs L nb
  clear IX IY IQ IK TX TY HI HJ HNL HPS HPI HPJ HTQ HTK HLN HBR
  go_upto_region 10 with (fail)
  refine region_fr (C := [Fq.st [.n a, .n b, .n m], Fq.st [.n x, .n y, .v (.bool false)], Fq.st [.n T.x, .n T.y, .v (.bool T.i)], Fq.st [.n S.x, .n S.y, .v (.bool S.i), .n 0, .v (.int .i64 0)], Fq.st [.n a, .n b, .n m], Fq.st [.n T.x, .n T.y, .v (.bool T.i)], Fq.st [.n x, .n y, .v (.bool false)], Fq.st [.n S.x, .n S.y, .v (.bool S.i), .n 0, .v (.int .i64 0)], Fq.st [.n a, .n b, .n m], Fq.st [.n T.x, .n T.y, .v (.bool T.i)], Fq.st [.n R.x, .n R.y, .v (.bool R.i)], Fq.st [.n U.x, .n U.y, .v (.bool U.i), .n 0, .v (.int .i64 0)], Fq.any, Fq.any, Fq.any, Fq.any, Fq.any, Fq.any]) (ks := [none, none, none, none, none, none]) (new := [⟨12, 15, 8, Fq.st [.n 0, .n 0, .v (.bool false), .n 0, .v (.int .i64 0)], Fq.st [.n S.x, .n S.y, .v (.bool S.i), .n 0, .v (.int .i64 0)], none⟩, ⟨13, 16, 8, Fq.st [.n 0, .n 0, .v (.bool false), .n 0, .v (.int .i64 0)], Fq.st [.n S.x, .n S.y, .v (.bool S.i), .n 0, .v (.int .i64 0)], none⟩, ⟨14, 17, 8, Fq.st [.n 0, .n 0, .v (.bool false), .n 0, .v (.int .i64 0)], Fq.st [.n U.x, .n U.y, .v (.bool U.i), .n 0, .v (.int .i64 0)], none⟩]) E rfl (by kernel_rfl) rfl rfl (fun hp => ⟨?_, ?_, ?_, ?_, ?_, ?_, ?_, ?_, ?_, ?_, ?_, ?_, ?_, ?_, ?_, ?_, ?_, ?_, trivial⟩) ?_
  ·exact q_loadSt (off := 0) (l := 6) (fs := [.n a, .n b, .n m]) (gs := [.n a, .n b, .n m]) hp (free_of rfl) trivial (mq 4 rfl) (.inl rfl) rfl row_api_Mod rfl (sqo 7) (fun v w h => h)
  ·exact q_loadSt (off := 0) (l := 5) (fs := [.n x, .n y, .v (.bool false)]) (gs := [.n x, .n y, .v (.bool false)]) hp (free_of rfl) trivial (mq 0 rfl) (.inl rfl) rfl row_api_Point rfl (sqo 9) (fun v w h => h)
  ·exact q_loadSt (off := 0) (l := 5) (fs := [.n T.x, .n T.y, .v (.bool T.i)]) (gs := [.n T.x, .n T.y, .v (.bool T.i)]) hp (free_of rfl) trivial (mq 1 rfl) (.inl rfl) rfl row_api_Point rfl (sqo 10) (fun v w h => h)
  ·exact q_call3 (F := (Fq.st [.n a, .n b, .n m]).P) (G := (Fq.st [.n x, .n y, .v (.bool false)]).P) (F3 := (Fq.st [.n T.x, .n T.y, .v (.bool T.i)]).P) hp (free_of rfl) trivial (enq_f_algorist_algoristlaw06_add) (sqi 0) (sqi 1) (sqi 2) (fun v v' u w h h' g => exLAdd (P := (⟨x, y, false⟩ : Pt)) (Q := T) (R := (S, 0, 0)) h h' g BM.out BA.out BB.out BP.out BT.out G1.out)
  ·exact q_loadSt (off := 0) (l := 6) (fs := [.n a, .n b, .n m]) (gs := [.n a, .n b, .n m]) hp (free_of rfl) trivial (mq 4 rfl) (.inl rfl) rfl row_api_Mod rfl (sqo 7) (fun v w h => h)
  ·exact q_loadSt (off := 0) (l := 5) (fs := [.n T.x, .n T.y, .v (.bool T.i)]) (gs := [.n T.x, .n T.y, .v (.bool T.i)]) hp (free_of rfl) trivial (mq 1 rfl) (.inl rfl) rfl row_api_Point rfl (sqo 10) (fun v w h => h)
  ·exact q_loadSt (off := 0) (l := 5) (fs := [.n x, .n y, .v (.bool false)]) (gs := [.n x, .n y, .v (.bool false)]) hp (free_of rfl) trivial (mq 0 rfl) (.inl rfl) rfl row_api_Point rfl (sqo 9) (fun v w h => h)
  ·exact q_call3 (F := (Fq.st [.n a, .n b, .n m]).P) (G := (Fq.st [.n T.x, .n T.y, .v (.bool T.i)]).P) (F3 := (Fq.st [.n x, .n y, .v (.bool false)]).P) hp (free_of rfl) trivial (enq_f_algorist_algoristlaw06_add) (sqi 4) (sqi 5) (sqi 6) (fun v v' u w h h' g => exLAdd (P := T) (Q := (⟨x, y, false⟩ : Pt)) (R := (S, 0, 0)) h h' g BM.out BA.out BB.out BT.out BP.out G2.out)
  ·exact q_loadSt (off := 0) (l := 6) (fs := [.n a, .n b, .n m]) (gs := [.n a, .n b, .n m]) hp (free_of rfl) trivial (mq 4 rfl) (.inl rfl) rfl row_api_Mod rfl (sqo 7) (fun v w h => h)
  ·exact q_loadSt (off := 0) (l := 5) (fs := [.n T.x, .n T.y, .v (.bool T.i)]) (gs := [.n T.x, .n T.y, .v (.bool T.i)]) hp (free_of rfl) trivial (mq 1 rfl) (.inl rfl) rfl row_api_Point rfl (sqo 10) (fun v w h => h)
  ·exact q_loadSt (off := 0) (l := 5) (fs := [.n R.x, .n R.y, .v (.bool R.i)]) (gs := [.n R.x, .n R.y, .v (.bool R.i)]) hp (free_of rfl) trivial (mq 2 rfl) (.inl rfl) rfl row_api_Point rfl (sqo 11) (fun v w h => h)
  ·exact q_call3 (F := (Fq.st [.n a, .n b, .n m]).P) (G := (Fq.st [.n T.x, .n T.y, .v (.bool T.i)]).P) (F3 := (Fq.st [.n R.x, .n R.y, .v (.bool R.i)]).P) hp (free_of rfl) trivial (enq_f_algorist_algoristlaw06_add) (sqi 8) (sqi 9) (sqi 10) (fun v v' u w h h' g => exLAdd (P := T) (Q := R) (R := (U, 0, 0)) h h' g BM.out BA.out BB.out BT.out BR.out G3.out)
  ·exact q_allocSt (us := [.bool false, .slice none 0 0, .bool false, .slice none 0 0, .bool false, .bool false, .slice none 0 0, .int .i64 0]) (fs := [.n 0, .n 0, .v (.bool false), .n 0, .v (.int .i64 0)]) hp (mq 0 rfl) rfl rfl rfl (Nat.lt_of_sub_eq_succ rfl) rfl fits0_algoristref06_Sum (fun ρ w => ralloc_algoristref06_Sum ρ w) rfl (Nat.ne_of_beq_eq_false rfl) (fun _ _ => trivial) (old_ne rfl) (newk_ne rfl)
  ·exact q_allocSt (us := [.bool false, .slice none 0 0, .bool false, .slice none 0 0, .bool false, .bool false, .slice none 0 0, .int .i64 0]) (fs := [.n 0, .n 0, .v (.bool false), .n 0, .v (.int .i64 0)]) hp (mq 1 rfl) rfl rfl rfl (Nat.lt_of_sub_eq_succ rfl) rfl fits0_algoristref06_Sum (fun ρ w => ralloc_algoristref06_Sum ρ w) rfl (Nat.ne_of_beq_eq_false rfl) (fun _ _ => trivial) (old_ne rfl) (newk_ne rfl)
  ·exact q_allocSt (us := [.bool false, .slice none 0 0, .bool false, .slice none 0 0, .bool false, .bool false, .slice none 0 0, .int .i64 0]) (fs := [.n 0, .n 0, .v (.bool false), .n 0, .v (.int .i64 0)]) hp (mq 2 rfl) rfl rfl rfl (Nat.lt_of_sub_eq_succ rfl) rfl fits0_algoristref06_Sum (fun ρ w => ralloc_algoristref06_Sum ρ w) rfl (Nat.ne_of_beq_eq_false rfl) (fun _ _ => trivial) (old_ne rfl) (newk_ne rfl)
  ·exact q_storeNewSt (fs := [.n 0, .n 0, .v (.bool false), .n 0, .v (.int .i64 0)]) (gs := [.n S.x, .n S.y, .v (.bool S.i), .n 0, .v (.int .i64 0)]) hp (mq 0 rfl) rfl rfl rfl rfl size_algoristref06_Sum rfl (own_ptr rfl rfl (by simp) rfl) (sq_in 3 rfl rfl (by simp) rfl (fun v w h => fitv_st h)) (fun _ _ => trivial) (old_ne rfl) (newi_ne rfl)
  ·exact q_storeNewSt (fs := [.n 0, .n 0, .v (.bool false), .n 0, .v (.int .i64 0)]) (gs := [.n S.x, .n S.y, .v (.bool S.i), .n 0, .v (.int .i64 0)]) hp (mq 1 rfl) rfl rfl rfl rfl size_algoristref06_Sum rfl (own_ptr rfl rfl (by simp) rfl) (sq_in 7 rfl rfl (by simp) rfl (fun v w h => fitv_st h)) (fun _ _ => trivial) (old_ne rfl) (newi_ne rfl)
  ·exact q_storeNewSt (fs := [.n 0, .n 0, .v (.bool false), .n 0, .v (.int .i64 0)]) (gs := [.n U.x, .n U.y, .v (.bool U.i), .n 0, .v (.int .i64 0)]) hp (mq 2 rfl) rfl rfl rfl rfl size_algoristref06_Sum rfl (own_ptr rfl rfl (by simp) rfl) (sq_in 11 rfl rfl (by simp) rfl (fun v w h => fitv_st h)) (fun _ _ => trivial) (old_ne rfl) (newi_ne rfl)
  intro L vs w10 nb hL hC hn E10
  have e12 : vs 12 = .pointer (some ⟨nb 12, 0, none⟩) := hn _ (mq 0 rfl)
  have e13 : vs 13 = .pointer (some ⟨nb 13, 0, none⟩) := hn _ (mq 1 rfl)
  have e14 : vs 14 = .pointer (some ⟨nb 14, 0, none⟩) := hn _ (mq 2 rfl)
  have E : Fr w [(nb 12, 8, Fq.st [.n S.x, .n S.y, .v (.bool S.i), .n 0, .v (.int .i64 0)]), (nb 13, 8, Fq.st [.n S.x, .n S.y, .v (.bool S.i), .n 0, .v (.int .i64 0)]), (nb 14, 8, Fq.st [.n U.x, .n U.y, .v (.bool U.i), .n 0, .v (.int .i64 0)]), (b9_28, 5, Fq.st [.n x, .n y, .v (.bool false)]), (b9_29, 5, Fq.st [.n T.x, .n T.y, .v (.bool T.i)]), (b9_30, 5, Fq.st [.n R.x, .n R.y, .v (.bool R.i)]), (gg, (nl * 5), Fq.st (rowL ps)), (b5_17, 6, Fq.st [.n a, .n b, .n m]), (b1, 5, Fq.st [.v (.int .u8 M9), .v (.int .u8 A), .v (.int .u8 X), .v (.int .u8 Y), .v (.int .u16 Q)])] w10 := E10
  rw [lay_all hL]
  simp only [putAll, dstOf, List.length_cons, List.length_nil, Nat.zero_add, Nat.reduceAdd, List.getElem?_toArray, List.getElem?_cons_zero, List.getElem?_cons_succ, Option.bind_some, Act.put, List.setIfInBounds_toArray, List.set_cons_succ, List.set_cons_zero]
  rw [e12, e13, e14]
  generalize nb 12 = b10_12 at E ⊢
  generalize nb 13 = b10_13 at E ⊢
  generalize nb 14 = b10_14 at E ⊢
  generalize vs 0 = u10_0
  generalize vs 1 = u10_1
  generalize vs 2 = u10_2
  generalize vs 3 = u10_3
  generalize vs 4 = u10_4
  generalize vs 5 = u10_5
  generalize vs 6 = u10_6
  generalize vs 7 = u10_7
  generalize vs 8 = u10_8
  generalize vs 9 = u10_9
  generalize vs 10 = u10_10
  generalize vs 11 = u10_11
  clear e12 e13 e14 hC hn E10 hL vs L nb
  go_upto_region 11 with (fail)
  refine region_fr (C := [Fq.is (.pointer (some ⟨b10_12, 7, none⟩)), Fq.is (.int .i64 0), Fq.is (.bool false), Fq.is (.bool false), Fq.is (.pointer (some ⟨b10_13, 7, none⟩)), Fq.is (.int .i64 0), Fq.is (.bool false), Fq.is (.bool false), Fq.is (.bool false), Fq.is (.pointer (some ⟨b10_14, 7, none⟩)), Fq.is (.int .i64 0), Fq.is (.bool false), Fq.is (.bool false), Fq.is (.bool false), Fq.is (.pointer (some ⟨b10_12, 0, none⟩)), Fq.st [.n S.x, .n S.y, .v (.bool S.i)], Fq.is (.pointer (some ⟨b10_13, 0, none⟩)), Fq.st [.n S.x, .n S.y, .v (.bool S.i)], Fq.is (.bool true), Fq.is (.bool false), Fq.is (.bool false), Fq.is (.bool false), Fq.st [.n a, .n b, .n m], Fq.is (.pointer (some ⟨b10_12, 0, none⟩)), Fq.st [.n S.x, .n S.y, .v (.bool S.i)], Fq.is (.bool true), Fq.is (.bool false), Fq.is (.bool false)]) (ks := [none, none, none, none, none, none, none, none, none]) (new := []) E rfl (by kernel_rfl) rfl rfl (fun hp => ⟨?_, ?_, ?_, ?_, ?_, ?_, ?_, ?_, ?_, ?_, ?_, ?_, ?_, ?_, ?_, ?_, ?_, ?_, ?_, ?_, ?_, ?_, ?_, ?_, ?_, ?_, ?_, ?_, trivial⟩) ?_
  ·exact q_addr (b := b10_12) (off := 0) (off' := 7) hp (free_of rfl) trivial (sqo 12) (fun ρ w h => by simp [execOp, go_sem, h]) (fun _ => rfl)
  ·exact q_load1 (off := 7) (fs := [.n S.x, .n S.y, .v (.bool S.i), .n 0, .v (.int .i64 0)]) (u := .int .i64 0) hp (free_of rfl) trivial (mq 0 rfl) (.inl rfl) rfl rfl (fun ρ w b h1 h2 => by simp [execOp, go_sem, h1, h2]) (sqi 0) (fun _ => rfl)
  ·exact q_one (F := fun v _ => v = .int .i64 0) hp (free_of rfl) trivial (sqi 1) (fun ρ w hc h => ⟨.bool false, by simp [execOp, go_sem, h, hc], rfl⟩)
  ·exact q_move hp (free_of rfl) trivial (sqi 2)
  ·exact q_addr (b := b10_13) (off := 0) (off' := 7) hp (free_of rfl) gqi (sqo 13) (fun ρ w h => by simp [execOp, go_sem, h]) (fun _ => rfl)
  ·exact q_load1 (off := 7) (fs := [.n S.x, .n S.y, .v (.bool S.i), .n 0, .v (.int .i64 0)]) (u := .int .i64 0) hp (free_of rfl) gqi (mq 1 rfl) (.inl rfl) rfl rfl (fun ρ w b h1 h2 => by simp [execOp, go_sem, h1, h2]) (sqi 4) (fun _ => rfl)
  ·exact q_one (F := fun v _ => v = .int .i64 0) hp (free_of rfl) gqi (sqi 5) (fun ρ w hc h => ⟨.bool false, by simp [execOp, go_sem, h, hc], rfl⟩)
  ·exact q_two (F := fun v _ => v = .bool false) (G := fun v _ => v = .bool false) hp (free_of rfl) trivial (sqi 3) (sqi 6) (fun ρ w hc h h' => ⟨_, by simp [execOp, go_sem, h, h'], rfl⟩)
  ·exact q_move hp (free_of rfl) trivial (sqi 7)
  ·exact q_addr (b := b10_14) (off := 0) (off' := 7) hp (free_of rfl) gqi (sqo 14) (fun ρ w h => by simp [execOp, go_sem, h]) (fun _ => rfl)
  ·exact q_load1 (off := 7) (fs := [.n U.x, .n U.y, .v (.bool U.i), .n 0, .v (.int .i64 0)]) (u := .int .i64 0) hp (free_of rfl) gqi (mq 2 rfl) (.inl rfl) rfl rfl (fun ρ w b h1 h2 => by simp [execOp, go_sem, h1, h2]) (sqi 9) (fun _ => rfl)
  ·exact q_one (F := fun v _ => v = .int .i64 0) hp (free_of rfl) gqi (sqi 10) (fun ρ w hc h => ⟨.bool false, by simp [execOp, go_sem, h, hc], rfl⟩)
  ·exact q_two (F := fun v _ => v = .bool false) (G := fun v _ => v = .bool false) hp (free_of rfl) trivial (sqi 8) (sqi 11) (fun ρ w hc h h' => ⟨_, by simp [execOp, go_sem, h, h'], rfl⟩)
  ·exact q_move hp (free_of rfl) trivial (sqi 12)
  ·exact q_addr (b := b10_12) (off := 0) (off' := 0) hp (free_of rfl) gqi (sqo 12) (fun ρ w h => by simp [execOp, go_sem, h]) (fun _ => rfl)
  ·exact q_loadSt (off := 0) (l := 5) (fs := [.n S.x, .n S.y, .v (.bool S.i), .n 0, .v (.int .i64 0)]) (gs := [.n S.x, .n S.y, .v (.bool S.i)]) hp (free_of rfl) gqi (mq 0 rfl) (.inl rfl) rfl row_api_Point rfl (sqi 14) (fun v w h => h)
  ·exact q_addr (b := b10_13) (off := 0) (off' := 0) hp (free_of rfl) gqi (sqo 13) (fun ρ w h => by simp [execOp, go_sem, h]) (fun _ => rfl)
  ·exact q_loadSt (off := 0) (l := 5) (fs := [.n S.x, .n S.y, .v (.bool S.i), .n 0, .v (.int .i64 0)]) (gs := [.n S.x, .n S.y, .v (.bool S.i)]) hp (free_of rfl) gqi (mq 1 rfl) (.inl rfl) rfl row_api_Point rfl (sqi 16) (fun v w h => h)
  ·exact q_call2 (F := (Fq.st [.n S.x, .n S.y, .v (.bool S.i)]).P) (G := (Fq.st [.n S.x, .n S.y, .v (.bool S.i)]).P) hp (free_of rfl) gqi (enq_f_algorist_algoristref06_Same) (sqi 15) (sqi 17) (fun v v' w h h' => exPtSame (P := S) (Q := S) h h' (sameP_refl _))
  ·exact q_one (F := fun v _ => v = .bool true) hp (free_of rfl) gqi (sqi 18) (fun ρ w _ h => ⟨.bool false, by simp [execOp, go_sem, h], rfl⟩)
  ·exact q_two (F := fun v _ => v = .bool false) (G := fun v _ => v = .bool false) hp (free_of rfl) trivial (sqi 13) (sqi 19) (fun ρ w hc h h' => ⟨_, by simp [execOp, go_sem, h, h'], rfl⟩)
  ·exact q_move hp (free_of rfl) trivial (sqi 20)
  ·exact q_loadSt (off := 0) (l := 6) (fs := [.n a, .n b, .n m]) (gs := [.n a, .n b, .n m]) hp (free_of rfl) gqi (mq 7 rfl) (.inl rfl) rfl row_api_Mod rfl (sqo 7) (fun v w h => h)
  ·exact q_addr (b := b10_12) (off := 0) (off' := 0) hp (free_of rfl) gqi (sqo 12) (fun ρ w h => by simp [execOp, go_sem, h]) (fun _ => rfl)
  ·exact q_loadSt (off := 0) (l := 5) (fs := [.n S.x, .n S.y, .v (.bool S.i), .n 0, .v (.int .i64 0)]) (gs := [.n S.x, .n S.y, .v (.bool S.i)]) hp (free_of rfl) gqi (mq 0 rfl) (.inl rfl) rfl row_api_Point rfl (sqi 23) (fun v w h => h)
  ·exact q_call2 (F := (Fq.st [.n a, .n b, .n m]).P) (G := (Fq.st [.n S.x, .n S.y, .v (.bool S.i)]).P) hp (free_of rfl) gqi (enq_f_algorist_point_On) (sqi 22) (sqi 24) (fun v v' w h h' => exOn h h' BM.out BA.out BB.out BS.out.1 BS.out.2 HOS.out)
  ·exact q_one (F := fun v _ => v = .bool true) hp (free_of rfl) gqi (sqi 25) (fun ρ w _ h => ⟨.bool false, by simp [execOp, go_sem, h], rfl⟩)
  ·exact q_two (F := fun v _ => v = .bool false) (G := fun v _ => v = .bool false) hp (free_of rfl) trivial (sqi 21) (sqi 26) (fun ρ w hc h h' => ⟨_, by simp [execOp, go_sem, h, h'], rfl⟩)
  intro L vs w11 nb hL hC hn E11
  have e0 : vs 0 = .pointer (some ⟨b10_12, 7, none⟩) := hC 0 (by simp)
  have e1 : vs 1 = .int .i64 0 := hC 1 (by simp)
  have e2 : vs 2 = .bool false := hC 2 (by simp)
  have e3 : vs 3 = .bool false := hC 3 (by simp)
  have e4 : vs 4 = .pointer (some ⟨b10_13, 7, none⟩) := hC 4 (by simp)
  have e5 : vs 5 = .int .i64 0 := hC 5 (by simp)
  have e6 : vs 6 = .bool false := hC 6 (by simp)
  have e7 : vs 7 = .bool false := hC 7 (by simp)
  have e8 : vs 8 = .bool false := hC 8 (by simp)
  have e9 : vs 9 = .pointer (some ⟨b10_14, 7, none⟩) := hC 9 (by simp)
  have e10 : vs 10 = .int .i64 0 := hC 10 (by simp)
  have e11 : vs 11 = .bool false := hC 11 (by simp)
  have e12 : vs 12 = .bool false := hC 12 (by simp)
  have e13 : vs 13 = .bool false := hC 13 (by simp)
  have e14 : vs 14 = .pointer (some ⟨b10_12, 0, none⟩) := hC 14 (by simp)
  have e16 : vs 16 = .pointer (some ⟨b10_13, 0, none⟩) := hC 16 (by simp)
  have e18 : vs 18 = .bool true := hC 18 (by simp)
  have e19 : vs 19 = .bool false := hC 19 (by simp)
  have e20 : vs 20 = .bool false := hC 20 (by simp)
  have e21 : vs 21 = .bool false := hC 21 (by simp)
  have e23 : vs 23 = .pointer (some ⟨b10_12, 0, none⟩) := hC 23 (by simp)
  have e25 : vs 25 = .bool true := hC 25 (by simp)
  have e26 : vs 26 = .bool false := hC 26 (by simp)
  have e27 : vs 27 = .bool false := hC 27 (by simp)
  have E : Fr w [(b10_12, 8, Fq.st [.n S.x, .n S.y, .v (.bool S.i), .n 0, .v (.int .i64 0)]), (b10_13, 8, Fq.st [.n S.x, .n S.y, .v (.bool S.i), .n 0, .v (.int .i64 0)]), (b10_14, 8, Fq.st [.n U.x, .n U.y, .v (.bool U.i), .n 0, .v (.int .i64 0)]), (b9_28, 5, Fq.st [.n x, .n y, .v (.bool false)]), (b9_29, 5, Fq.st [.n T.x, .n T.y, .v (.bool T.i)]), (b9_30, 5, Fq.st [.n R.x, .n R.y, .v (.bool R.i)]), (gg, (nl * 5), Fq.st (rowL ps)), (b5_17, 6, Fq.st [.n a, .n b, .n m]), (b1, 5, Fq.st [.v (.int .u8 M9), .v (.int .u8 A), .v (.int .u8 X), .v (.int .u8 Y), .v (.int .u16 Q)])] w11 := E11
  rw [lay_all hL]
  simp only [putAll, dstOf, List.length_cons, List.length_nil, Nat.zero_add, Nat.reduceAdd, List.getElem?_toArray, List.getElem?_cons_zero, List.getElem?_cons_succ, Option.bind_some, Act.put, List.setIfInBounds_toArray, List.set_cons_succ, List.set_cons_zero]
  rw [e0, e1, e2, e3, e4, e5, e6, e7, e8, e9, e10, e11, e12, e13, e14, e16, e18, e19, e20, e21, e23, e25, e26, e27]
  generalize vs 15 = u11_15
  generalize vs 17 = u11_17
  generalize vs 22 = u11_22
  generalize vs 24 = u11_24
  clear e0 e1 e2 e3 e4 e5 e6 e7 e8 e9 e10 e11 e12 e13 e14 e16 e18 e19 e20 e21 e23 e25 e26 e27 hC hn E11 hL vs L nb
  go_upto_region 13 with (fail)
  refine region_fr (C := [Fq.st [.n a, .n b, .n m], Fq.is (.pointer (some ⟨b10_12, 0, none⟩)), Fq.st [.n S.x, .n S.y, .v (.bool S.i)], Fq.st [.n R.x, .n R.y, .v (.bool R.i)], Fq.st [.n V.x, .n V.y, .v (.bool V.i), .n 0, .v (.int .i64 0)], Fq.st [.n a, .n b, .n m], Fq.st [.n x, .n y, .v (.bool false)], Fq.is (.pointer (some ⟨b10_14, 0, none⟩)), Fq.st [.n U.x, .n U.y, .v (.bool U.i)], Fq.st [.n V.x, .n V.y, .v (.bool V.i), .n 0, .v (.int .i64 0)], Fq.any, Fq.any, Fq.any, Fq.any]) (ks := [none, none, none, none, none, none, none, none, none]) (new := [⟨10, 12, 8, Fq.st [.n 0, .n 0, .v (.bool false), .n 0, .v (.int .i64 0)], Fq.st [.n V.x, .n V.y, .v (.bool V.i), .n 0, .v (.int .i64 0)], none⟩, ⟨11, 13, 8, Fq.st [.n 0, .n 0, .v (.bool false), .n 0, .v (.int .i64 0)], Fq.st [.n V.x, .n V.y, .v (.bool V.i), .n 0, .v (.int .i64 0)], none⟩]) E rfl (by kernel_rfl) rfl rfl (fun hp => ⟨?_, ?_, ?_, ?_, ?_, ?_, ?_, ?_, ?_, ?_, ?_, ?_, ?_, ?_, trivial⟩) ?_
  ·exact q_loadSt (off := 0) (l := 6) (fs := [.n a, .n b, .n m]) (gs := [.n a, .n b, .n m]) hp (free_of rfl) trivial (mq 7 rfl) (.inl rfl) rfl row_api_Mod rfl (sqo 7) (fun v w h => h)
  ·exact q_addr (b := b10_12) (off := 0) (off' := 0) hp (free_of rfl) trivial (sqo 12) (fun ρ w h => by simp [execOp, go_sem, h]) (fun _ => rfl)
  ·exact q_loadSt (off := 0) (l := 5) (fs := [.n S.x, .n S.y, .v (.bool S.i), .n 0, .v (.int .i64 0)]) (gs := [.n S.x, .n S.y, .v (.bool S.i)]) hp (free_of rfl) trivial (mq 0 rfl) (.inl rfl) rfl row_api_Point rfl (sqi 1) (fun v w h => h)
  ·exact q_loadSt (off := 0) (l := 5) (fs := [.n R.x, .n R.y, .v (.bool R.i)]) (gs := [.n R.x, .n R.y, .v (.bool R.i)]) hp (free_of rfl) trivial (mq 5 rfl) (.inl rfl) rfl row_api_Point rfl (sqo 11) (fun v w h => h)
  ·exact q_call3 (F := (Fq.st [.n a, .n b, .n m]).P) (G := (Fq.st [.n S.x, .n S.y, .v (.bool S.i)]).P) (F3 := (Fq.st [.n R.x, .n R.y, .v (.bool R.i)]).P) hp (free_of rfl) trivial (enq_f_algorist_algoristlaw06_add) (sqi 0) (sqi 2) (sqi 3) (fun v v' u w h h' g => exLAdd (P := S) (Q := R) (R := (V, 0, 0)) h h' g BM.out BA.out BB.out BS.out BR.out G4.out)
  ·exact q_loadSt (off := 0) (l := 6) (fs := [.n a, .n b, .n m]) (gs := [.n a, .n b, .n m]) hp (free_of rfl) trivial (mq 7 rfl) (.inl rfl) rfl row_api_Mod rfl (sqo 7) (fun v w h => h)
  ·exact q_loadSt (off := 0) (l := 5) (fs := [.n x, .n y, .v (.bool false)]) (gs := [.n x, .n y, .v (.bool false)]) hp (free_of rfl) trivial (mq 3 rfl) (.inl rfl) rfl row_api_Point rfl (sqo 9) (fun v w h => h)
  ·exact q_addr (b := b10_14) (off := 0) (off' := 0) hp (free_of rfl) trivial (sqo 14) (fun ρ w h => by simp [execOp, go_sem, h]) (fun _ => rfl)
  ·exact q_loadSt (off := 0) (l := 5) (fs := [.n U.x, .n U.y, .v (.bool U.i), .n 0, .v (.int .i64 0)]) (gs := [.n U.x, .n U.y, .v (.bool U.i)]) hp (free_of rfl) trivial (mq 2 rfl) (.inl rfl) rfl row_api_Point rfl (sqi 7) (fun v w h => h)
  ·exact q_call3 (F := (Fq.st [.n a, .n b, .n m]).P) (G := (Fq.st [.n x, .n y, .v (.bool false)]).P) (F3 := (Fq.st [.n U.x, .n U.y, .v (.bool U.i)]).P) hp (free_of rfl) trivial (enq_f_algorist_algoristlaw06_add) (sqi 5) (sqi 6) (sqi 8) (fun v v' u w h h' g => exLAdd (P := (⟨x, y, false⟩ : Pt)) (Q := U) (R := (V, 0, 0)) h h' g BM.out BA.out BB.out BP.out BU.out G5.out)
  ·exact q_allocSt (us := [.bool false, .slice none 0 0, .bool false, .slice none 0 0, .bool false, .bool false, .slice none 0 0, .int .i64 0]) (fs := [.n 0, .n 0, .v (.bool false), .n 0, .v (.int .i64 0)]) hp (mq 0 rfl) rfl rfl rfl (Nat.lt_of_sub_eq_succ rfl) rfl fits0_algoristref06_Sum (fun ρ w => ralloc_algoristref06_Sum ρ w) rfl (Nat.ne_of_beq_eq_false rfl) (fun _ _ => trivial) (old_ne rfl) (newk_ne rfl)
  ·exact q_allocSt (us := [.bool false, .slice none 0 0, .bool false, .slice none 0 0, .bool false, .bool false, .slice none 0 0, .int .i64 0]) (fs := [.n 0, .n 0, .v (.bool false), .n 0, .v (.int .i64 0)]) hp (mq 1 rfl) rfl rfl rfl (Nat.lt_of_sub_eq_succ rfl) rfl fits0_algoristref06_Sum (fun ρ w => ralloc_algoristref06_Sum ρ w) rfl (Nat.ne_of_beq_eq_false rfl) (fun _ _ => trivial) (old_ne rfl) (newk_ne rfl)
  ·exact q_storeNewSt (fs := [.n 0, .n 0, .v (.bool false), .n 0, .v (.int .i64 0)]) (gs := [.n V.x, .n V.y, .v (.bool V.i), .n 0, .v (.int .i64 0)]) hp (mq 0 rfl) rfl rfl rfl rfl size_algoristref06_Sum rfl (own_ptr rfl rfl (by simp) rfl) (sq_in 4 rfl rfl (by simp) rfl (fun v w h => fitv_st h)) (fun _ _ => trivial) (old_ne rfl) (newi_ne rfl)
  ·exact q_storeNewSt (fs := [.n 0, .n 0, .v (.bool false), .n 0, .v (.int .i64 0)]) (gs := [.n V.x, .n V.y, .v (.bool V.i), .n 0, .v (.int .i64 0)]) hp (mq 1 rfl) rfl rfl rfl rfl size_algoristref06_Sum rfl (own_ptr rfl rfl (by simp) rfl) (sq_in 9 rfl rfl (by simp) rfl (fun v w h => fitv_st h)) (fun _ _ => trivial) (old_ne rfl) (newi_ne rfl)
  intro L vs w12 nb hL hC hn E12
  have e1 : vs 1 = .pointer (some ⟨b10_12, 0, none⟩) := hC 1 (by simp)
  have e7 : vs 7 = .pointer (some ⟨b10_14, 0, none⟩) := hC 7 (by simp)
  have e10 : vs 10 = .pointer (some ⟨nb 10, 0, none⟩) := hn _ (mq 0 rfl)
  have e11 : vs 11 = .pointer (some ⟨nb 11, 0, none⟩) := hn _ (mq 1 rfl)
  have E : Fr w [(nb 10, 8, Fq.st [.n V.x, .n V.y, .v (.bool V.i), .n 0, .v (.int .i64 0)]), (nb 11, 8, Fq.st [.n V.x, .n V.y, .v (.bool V.i), .n 0, .v (.int .i64 0)]), (b10_12, 8, Fq.st [.n S.x, .n S.y, .v (.bool S.i), .n 0, .v (.int .i64 0)]), (b10_13, 8, Fq.st [.n S.x, .n S.y, .v (.bool S.i), .n 0, .v (.int .i64 0)]), (b10_14, 8, Fq.st [.n U.x, .n U.y, .v (.bool U.i), .n 0, .v (.int .i64 0)]), (b9_28, 5, Fq.st [.n x, .n y, .v (.bool false)]), (b9_29, 5, Fq.st [.n T.x, .n T.y, .v (.bool T.i)]), (b9_30, 5, Fq.st [.n R.x, .n R.y, .v (.bool R.i)]), (gg, (nl * 5), Fq.st (rowL ps)), (b5_17, 6, Fq.st [.n a, .n b, .n m]), (b1, 5, Fq.st [.v (.int .u8 M9), .v (.int .u8 A), .v (.int .u8 X), .v (.int .u8 Y), .v (.int .u16 Q)])] w12 := E12
  rw [lay_all hL]
  simp only [putAll, dstOf, List.length_cons, List.length_nil, Nat.zero_add, Nat.reduceAdd, List.getElem?_toArray, List.getElem?_cons_zero, List.getElem?_cons_succ, Option.bind_some, Act.put, List.setIfInBounds_toArray, List.set_cons_succ, List.set_cons_zero]
  rw [e1, e7, e10, e11]
  generalize nb 10 = b12_10 at E ⊢
  generalize nb 11 = b12_11 at E ⊢
  generalize vs 0 = u12_0
  generalize vs 2 = u12_2
  generalize vs 3 = u12_3
  generalize vs 4 = u12_4
  generalize vs 5 = u12_5
  generalize vs 6 = u12_6
  generalize vs 8 = u12_8
  generalize vs 9 = u12_9
  clear e1 e7 e10 e11 hC hn E12 hL vs L nb
  go_upto_region 14 with (fail)
  refine region_fr (C := [Fq.st [.n a, .n b, .n m], Fq.st [.n R.x, .n R.y, .v (.bool R.i)], Fq.tup2 (Fq.st [.n N.x, .n N.y, .v (.bool N.i)]) (Fq.is (.int .i64 0)), Fq.tup2 (Fq.st [.n N.x, .n N.y, .v (.bool N.i)]) (Fq.is (.int .i64 0)), Fq.st [.n N.x, .n N.y, .v (.bool N.i)], Fq.is (.int .i64 0), Fq.any, Fq.any, Fq.is (.int .i64 0)]) (ks := [none, none, none, none, none, none, none, none, none, none, none]) (new := [⟨6, 7, 5, Fq.st [.n 0, .n 0, .v (.bool false)], Fq.st [.n N.x, .n N.y, .v (.bool N.i)], none⟩]) E rfl (by kernel_rfl) rfl rfl (fun hp => ⟨?_, ?_, ?_, ?_, ?_, ?_, ?_, ?_, ?_, trivial⟩) ?_
  ·exact q_loadSt (off := 0) (l := 6) (fs := [.n a, .n b, .n m]) (gs := [.n a, .n b, .n m]) hp (free_of rfl) trivial (mq 9 rfl) (.inl rfl) rfl row_api_Mod rfl (sqo 7) (fun v w h => h)
  ·exact q_loadSt (off := 0) (l := 5) (fs := [.n R.x, .n R.y, .v (.bool R.i)]) (gs := [.n R.x, .n R.y, .v (.bool R.i)]) hp (free_of rfl) trivial (mq 7 rfl) (.inl rfl) rfl row_api_Point rfl (sqo 11) (fun v w h => h)
  ·exact q_call2 (F := (Fq.st [.n a, .n b, .n m]).P) (G := (Fq.st [.n R.x, .n R.y, .v (.bool R.i)]).P) hp (free_of rfl) trivial (enq_f_algorist_point_Neg) (sqi 0) (sqi 1) (fun v v' w h h' => (by have hh := exNegN (P := R) h h' BM.out BA.out BB.out BR.out HOR.out; rw [G6.out] at hh; exact hh))
  ·exact q_move hp (free_of rfl) trivial (sqi 2)
  ·exact q_extract2 hp (free_of rfl) trivial (sqi 3) (fun v1 v2 w h1 h2 => ⟨_, rfl, h1⟩)
  ·exact q_extract2 hp (free_of rfl) trivial (sqi 3) (fun v1 v2 w h1 h2 => ⟨_, rfl, h2⟩)
  ·exact q_allocSt (us := [.bool false, .slice none 0 0, .bool false, .slice none 0 0, .bool false]) (fs := [.n 0, .n 0, .v (.bool false)]) hp (mq 0 rfl) rfl rfl rfl (Nat.lt_of_sub_eq_succ rfl) rfl fits0_api_Point (fun ρ w => ralloc_api_Point ρ w) rfl (Nat.ne_of_beq_eq_false rfl) (fun _ _ => trivial) (old_ne rfl) (newk_ne rfl)
  ·exact q_storeNewSt (fs := [.n 0, .n 0, .v (.bool false)]) (gs := [.n N.x, .n N.y, .v (.bool N.i)]) hp (mq 0 rfl) rfl rfl rfl rfl size_api_Point rfl (own_ptr rfl rfl (by simp) rfl) (sq_in 4 rfl rfl (by simp) rfl (fun v w h => fitv_st h)) (fun _ _ => trivial) (old_ne rfl) (newi_ne rfl)
  ·exact q_assign hp (free_of rfl) trivial (sqi 5)
  intro L vs w13 nb hL hC hn E13
  have e5 : vs 5 = .int .i64 0 := hC 5 (by simp)
  have e8 : vs 8 = .int .i64 0 := hC 8 (by simp)
  have e6 : vs 6 = .pointer (some ⟨nb 6, 0, none⟩) := hn _ (mq 0 rfl)
  have E : Fr w [(nb 6, 5, Fq.st [.n N.x, .n N.y, .v (.bool N.i)]), (b12_10, 8, Fq.st [.n V.x, .n V.y, .v (.bool V.i), .n 0, .v (.int .i64 0)]), (b12_11, 8, Fq.st [.n V.x, .n V.y, .v (.bool V.i), .n 0, .v (.int .i64 0)]), (b10_12, 8, Fq.st [.n S.x, .n S.y, .v (.bool S.i), .n 0, .v (.int .i64 0)]), (b10_13, 8, Fq.st [.n S.x, .n S.y, .v (.bool S.i), .n 0, .v (.int .i64 0)]), (b10_14, 8, Fq.st [.n U.x, .n U.y, .v (.bool U.i), .n 0, .v (.int .i64 0)]), (b9_28, 5, Fq.st [.n x, .n y, .v (.bool false)]), (b9_29, 5, Fq.st [.n T.x, .n T.y, .v (.bool T.i)]), (b9_30, 5, Fq.st [.n R.x, .n R.y, .v (.bool R.i)]), (gg, (nl * 5), Fq.st (rowL ps)), (b5_17, 6, Fq.st [.n a, .n b, .n m]), (b1, 5, Fq.st [.v (.int .u8 M9), .v (.int .u8 A), .v (.int .u8 X), .v (.int .u8 Y), .v (.int .u16 Q)])] w13 := E13
  rw [lay_all hL]
  simp only [putAll, dstOf, List.length_cons, List.length_nil, Nat.zero_add, Nat.reduceAdd, List.getElem?_toArray, List.getElem?_cons_zero, List.getElem?_cons_succ, Option.bind_some, Act.put, List.setIfInBounds_toArray, List.set_cons_succ, List.set_cons_zero]
  rw [e5, e8, e6]
  generalize nb 6 = b13_6 at E ⊢
  generalize vs 0 = u13_0
  generalize vs 1 = u13_1
  generalize vs 2 = u13_2
  generalize vs 3 = u13_3
  generalize vs 4 = u13_4
  clear e5 e8 e6 hC hn E13 hL vs L nb
  go_upto_region 15 with (fail)
  refine region_fr (C := [Fq.st [.n a, .n b, .n m], Fq.st [.n R.x, .n R.y, .v (.bool R.i)], Fq.st [.n N.x, .n N.y, .v (.bool N.i)], Fq.st [.n 0, .n 0, .v (.bool true), .n 0, .v (.int .i64 0)], Fq.st [.n a, .n b, .n m], Fq.st [.n 0, .n 0, .v (.bool true)], Fq.st [.n R.x, .n R.y, .v (.bool R.i)], Fq.st [.n R.x, .n R.y, .v (.bool R.i), .n 0, .v (.int .i64 0)], Fq.any, Fq.any, Fq.any, Fq.any]) (ks := [none, none, none, none, none, none, none, none, none, none, none, none]) (new := [⟨8, 10, 8, Fq.st [.n 0, .n 0, .v (.bool false), .n 0, .v (.int .i64 0)], Fq.st [.n 0, .n 0, .v (.bool true), .n 0, .v (.int .i64 0)], none⟩, ⟨9, 11, 8, Fq.st [.n 0, .n 0, .v (.bool false), .n 0, .v (.int .i64 0)], Fq.st [.n R.x, .n R.y, .v (.bool R.i), .n 0, .v (.int .i64 0)], none⟩]) E rfl (by kernel_rfl) rfl rfl (fun hp => ⟨?_, ?_, ?_, ?_, ?_, ?_, ?_, ?_, ?_, ?_, ?_, ?_, trivial⟩) ?_
  ·exact q_loadSt (off := 0) (l := 6) (fs := [.n a, .n b, .n m]) (gs := [.n a, .n b, .n m]) hp (free_of rfl) trivial (mq 10 rfl) (.inl rfl) rfl row_api_Mod rfl (sqo 7) (fun v w h => h)
  ·exact q_loadSt (off := 0) (l := 5) (fs := [.n R.x, .n R.y, .v (.bool R.i)]) (gs := [.n R.x, .n R.y, .v (.bool R.i)]) hp (free_of rfl) trivial (mq 8 rfl) (.inl rfl) rfl row_api_Point rfl (sqo 11) (fun v w h => h)
  ·exact q_loadSt (off := 0) (l := 5) (fs := [.n N.x, .n N.y, .v (.bool N.i)]) (gs := [.n N.x, .n N.y, .v (.bool N.i)]) hp (free_of rfl) trivial (mq 0 rfl) (.inl rfl) rfl row_api_Point rfl (sqo 17) (fun v w h => h)
  ·exact q_call3 (F := (Fq.st [.n a, .n b, .n m]).P) (G := (Fq.st [.n R.x, .n R.y, .v (.bool R.i)]).P) (F3 := (Fq.st [.n N.x, .n N.y, .v (.bool N.i)]).P) hp (free_of rfl) trivial (enq_f_algorist_algoristlaw06_add) (sqi 0) (sqi 1) (sqi 2) (fun v v' u w h h' g => exLAdd (P := R) (Q := N) (R := (⟨0, 0, true⟩, 0, 0)) h h' g BM.out BA.out BB.out BR.out BN.out G7.out)
  ·exact q_loadSt (off := 0) (l := 6) (fs := [.n a, .n b, .n m]) (gs := [.n a, .n b, .n m]) hp (free_of rfl) trivial (mq 10 rfl) (.inl rfl) rfl row_api_Mod rfl (sqo 7) (fun v w h => h)
  ·exact q_build_api_Point_2 (u2 := true) hp (free_of rfl) trivial (sq_const (fun _ => rfl)) (fun v w h => h)
  ·exact q_loadSt (off := 0) (l := 5) (fs := [.n R.x, .n R.y, .v (.bool R.i)]) (gs := [.n R.x, .n R.y, .v (.bool R.i)]) hp (free_of rfl) trivial (mq 8 rfl) (.inl rfl) rfl row_api_Point rfl (sqo 11) (fun v w h => h)
  ·exact q_call3 (F := (Fq.st [.n a, .n b, .n m]).P) (G := (Fq.st [.n 0, .n 0, .v (.bool true)]).P) (F3 := (Fq.st [.n R.x, .n R.y, .v (.bool R.i)]).P) hp (free_of rfl) trivial (enq_f_algorist_algoristlaw06_add) (sqi 4) (sqi 5) (sqi 6) (fun v v' u w h h' g => exLAdd (P := (⟨0, 0, true⟩ : Pt)) (Q := R) (R := (R, 0, 0)) h h' g BM.out BA.out BB.out ⟨BZ.out, BZ.out⟩ BR.out G8.out)
  ·exact q_allocSt (us := [.bool false, .slice none 0 0, .bool false, .slice none 0 0, .bool false, .bool false, .slice none 0 0, .int .i64 0]) (fs := [.n 0, .n 0, .v (.bool false), .n 0, .v (.int .i64 0)]) hp (mq 0 rfl) rfl rfl rfl (Nat.lt_of_sub_eq_succ rfl) rfl fits0_algoristref06_Sum (fun ρ w => ralloc_algoristref06_Sum ρ w) rfl (Nat.ne_of_beq_eq_false rfl) (fun _ _ => trivial) (old_ne rfl) (newk_ne rfl)
  ·exact q_allocSt (us := [.bool false, .slice none 0 0, .bool false, .slice none 0 0, .bool false, .bool false, .slice none 0 0, .int .i64 0]) (fs := [.n 0, .n 0, .v (.bool false), .n 0, .v (.int .i64 0)]) hp (mq 1 rfl) rfl rfl rfl (Nat.lt_of_sub_eq_succ rfl) rfl fits0_algoristref06_Sum (fun ρ w => ralloc_algoristref06_Sum ρ w) rfl (Nat.ne_of_beq_eq_false rfl) (fun _ _ => trivial) (old_ne rfl) (newk_ne rfl)
  ·exact q_storeNewSt (fs := [.n 0, .n 0, .v (.bool false), .n 0, .v (.int .i64 0)]) (gs := [.n 0, .n 0, .v (.bool true), .n 0, .v (.int .i64 0)]) hp (mq 0 rfl) rfl rfl rfl rfl size_algoristref06_Sum rfl (own_ptr rfl rfl (by simp) rfl) (sq_in 3 rfl rfl (by simp) rfl (fun v w h => fitv_st h)) (fun _ _ => trivial) (old_ne rfl) (newi_ne rfl)
  ·exact q_storeNewSt (fs := [.n 0, .n 0, .v (.bool false), .n 0, .v (.int .i64 0)]) (gs := [.n R.x, .n R.y, .v (.bool R.i), .n 0, .v (.int .i64 0)]) hp (mq 1 rfl) rfl rfl rfl rfl size_algoristref06_Sum rfl (own_ptr rfl rfl (by simp) rfl) (sq_in 7 rfl rfl (by simp) rfl (fun v w h => fitv_st h)) (fun _ _ => trivial) (old_ne rfl) (newi_ne rfl)
  intro L vs w14 nb hL hC hn E14
  have e8 : vs 8 = .pointer (some ⟨nb 8, 0, none⟩) := hn _ (mq 0 rfl)
  have e9 : vs 9 = .pointer (some ⟨nb 9, 0, none⟩) := hn _ (mq 1 rfl)
  have E : Fr w [(nb 8, 8, Fq.st [.n 0, .n 0, .v (.bool true), .n 0, .v (.int .i64 0)]), (nb 9, 8, Fq.st [.n R.x, .n R.y, .v (.bool R.i), .n 0, .v (.int .i64 0)]), (b13_6, 5, Fq.st [.n N.x, .n N.y, .v (.bool N.i)]), (b12_10, 8, Fq.st [.n V.x, .n V.y, .v (.bool V.i), .n 0, .v (.int .i64 0)]), (b12_11, 8, Fq.st [.n V.x, .n V.y, .v (.bool V.i), .n 0, .v (.int .i64 0)]), (b10_12, 8, Fq.st [.n S.x, .n S.y, .v (.bool S.i), .n 0, .v (.int .i64 0)]), (b10_13, 8, Fq.st [.n S.x, .n S.y, .v (.bool S.i), .n 0, .v (.int .i64 0)]), (b10_14, 8, Fq.st [.n U.x, .n U.y, .v (.bool U.i), .n 0, .v (.int .i64 0)]), (b9_28, 5, Fq.st [.n x, .n y, .v (.bool false)]), (b9_29, 5, Fq.st [.n T.x, .n T.y, .v (.bool T.i)]), (b9_30, 5, Fq.st [.n R.x, .n R.y, .v (.bool R.i)]), (gg, (nl * 5), Fq.st (rowL ps)), (b5_17, 6, Fq.st [.n a, .n b, .n m]), (b1, 5, Fq.st [.v (.int .u8 M9), .v (.int .u8 A), .v (.int .u8 X), .v (.int .u8 Y), .v (.int .u16 Q)])] w14 := E14
  rw [lay_all hL]
  simp only [putAll, dstOf, List.length_cons, List.length_nil, Nat.zero_add, Nat.reduceAdd, List.getElem?_toArray, List.getElem?_cons_zero, List.getElem?_cons_succ, Option.bind_some, Act.put, List.setIfInBounds_toArray, List.set_cons_succ, List.set_cons_zero]
  rw [e8, e9]
  generalize nb 8 = b14_8 at E ⊢
  generalize nb 9 = b14_9 at E ⊢
  generalize vs 0 = u14_0
  generalize vs 1 = u14_1
  generalize vs 2 = u14_2
  generalize vs 3 = u14_3
  generalize vs 4 = u14_4
  generalize vs 5 = u14_5
  generalize vs 6 = u14_6
  generalize vs 7 = u14_7
  clear e8 e9 hC hn E14 hL vs L nb
  go_upto_region 16 with (fail)
  refine region_fr (C := [Fq.is (.pointer (some ⟨b12_10, 7, none⟩)), Fq.is (.int .i64 0), Fq.is (.bool true), Fq.is (.bool true), Fq.is (.pointer (some ⟨b12_11, 7, none⟩)), Fq.is (.int .i64 0), Fq.is (.bool true), Fq.is (.bool true), Fq.is (.bool true), Fq.is (.pointer (some ⟨b12_10, 0, none⟩)), Fq.st [.n V.x, .n V.y, .v (.bool V.i)], Fq.is (.pointer (some ⟨b12_11, 0, none⟩)), Fq.st [.n V.x, .n V.y, .v (.bool V.i)], Fq.is (.bool true), Fq.is (.bool true), Fq.is (.bool true), Fq.is (.int .i64 0), Fq.is (.bool true), Fq.is (.bool true), Fq.is (.bool true), Fq.is (.pointer (some ⟨b14_8, 7, none⟩)), Fq.is (.int .i64 0), Fq.is (.bool true), Fq.is (.bool true), Fq.is (.bool true), Fq.is (.pointer (some ⟨b14_8, 0, none⟩)), Fq.is (.pointer (some ⟨b14_8, 4, none⟩)), Fq.is (.bool true), Fq.is (.bool true), Fq.is (.bool true), Fq.is (.pointer (some ⟨b14_9, 0, none⟩)), Fq.st [.n R.x, .n R.y, .v (.bool R.i)], Fq.st [.n R.x, .n R.y, .v (.bool R.i)], Fq.is (.bool true), Fq.is (.bool true), Fq.is (.bool true), Fq.is (.bool true), Fq.is (.bool true), Fq.is (.bool true)]) (ks := [none, none, none, none, none, none, none, none, none, none, none, none, none, none]) (new := []) E rfl (by kernel_rfl) rfl rfl (fun hp => ⟨?_, ?_, ?_, ?_, ?_, ?_, ?_, ?_, ?_, ?_, ?_, ?_, ?_, ?_, ?_, ?_, ?_, ?_, ?_, ?_, ?_, ?_, ?_, ?_, ?_, ?_, ?_, ?_, ?_, ?_, ?_, ?_, ?_, ?_, ?_, ?_, ?_, ?_, ?_, trivial⟩) ?_
  ·exact q_addr (b := b12_10) (off := 0) (off' := 7) hp (free_of rfl) trivial (sqo 15) (fun ρ w h => by simp [execOp, go_sem, h]) (fun _ => rfl)
  ·exact q_load1 (off := 7) (fs := [.n V.x, .n V.y, .v (.bool V.i), .n 0, .v (.int .i64 0)]) (u := .int .i64 0) hp (free_of rfl) trivial (mq 3 rfl) (.inl rfl) rfl rfl (fun ρ w b h1 h2 => by simp [execOp, go_sem, h1, h2]) (sqi 0) (fun _ => rfl)
  ·exact q_one (F := fun v _ => v = .int .i64 0) hp (free_of rfl) trivial (sqi 1) (fun ρ w hc h => ⟨.bool true, by simp [execOp, go_sem, h, hc], rfl⟩)
  ·exact q_move hp (free_of rfl) trivial (sqi 2)
  ·exact q_addr (b := b12_11) (off := 0) (off' := 7) hp (free_of rfl) gqi (sqo 16) (fun ρ w h => by simp [execOp, go_sem, h]) (fun _ => rfl)
  ·exact q_load1 (off := 7) (fs := [.n V.x, .n V.y, .v (.bool V.i), .n 0, .v (.int .i64 0)]) (u := .int .i64 0) hp (free_of rfl) gqi (mq 4 rfl) (.inl rfl) rfl rfl (fun ρ w b h1 h2 => by simp [execOp, go_sem, h1, h2]) (sqi 4) (fun _ => rfl)
  ·exact q_one (F := fun v _ => v = .int .i64 0) hp (free_of rfl) gqi (sqi 5) (fun ρ w hc h => ⟨.bool true, by simp [execOp, go_sem, h, hc], rfl⟩)
  ·exact q_two (F := fun v _ => v = .bool true) (G := fun v _ => v = .bool true) hp (free_of rfl) trivial (sqi 3) (sqi 6) (fun ρ w hc h h' => ⟨_, by simp [execOp, go_sem, h, h'], rfl⟩)
  ·exact q_move hp (free_of rfl) trivial (sqi 7)
  ·exact q_addr (b := b12_10) (off := 0) (off' := 0) hp (free_of rfl) gqi (sqo 15) (fun ρ w h => by simp [execOp, go_sem, h]) (fun _ => rfl)
  ·exact q_loadSt (off := 0) (l := 5) (fs := [.n V.x, .n V.y, .v (.bool V.i), .n 0, .v (.int .i64 0)]) (gs := [.n V.x, .n V.y, .v (.bool V.i)]) hp (free_of rfl) gqi (mq 3 rfl) (.inl rfl) rfl row_api_Point rfl (sqi 9) (fun v w h => h)
  ·exact q_addr (b := b12_11) (off := 0) (off' := 0) hp (free_of rfl) gqi (sqo 16) (fun ρ w h => by simp [execOp, go_sem, h]) (fun _ => rfl)
  ·exact q_loadSt (off := 0) (l := 5) (fs := [.n V.x, .n V.y, .v (.bool V.i), .n 0, .v (.int .i64 0)]) (gs := [.n V.x, .n V.y, .v (.bool V.i)]) hp (free_of rfl) gqi (mq 4 rfl) (.inl rfl) rfl row_api_Point rfl (sqi 11) (fun v w h => h)
  ·exact q_call2 (F := (Fq.st [.n V.x, .n V.y, .v (.bool V.i)]).P) (G := (Fq.st [.n V.x, .n V.y, .v (.bool V.i)]).P) hp (free_of rfl) gqi (enq_f_algorist_algoristref06_Same) (sqi 10) (sqi 12) (fun v v' w h h' => exPtSame (P := V) (Q := V) h h' (sameP_refl _))
  ·exact q_two (F := fun v _ => v = .bool true) (G := fun v _ => v = .bool true) hp (free_of rfl) trivial (sqi 8) (sqi 13) (fun ρ w hc h h' => ⟨_, by simp [execOp, go_sem, h, h'], rfl⟩)
  ·exact q_move hp (free_of rfl) trivial (sqi 14)
  ·exact q_move hp (free_of rfl) gqi (sqo 18)
  ·exact q_one (F := fun v _ => v = .int .i64 0) hp (free_of rfl) gqi (sqi 16) (fun ρ w hc h => ⟨.bool true, by simp [execOp, go_sem, h, hc], rfl⟩)
  ·exact q_two (F := fun v _ => v = .bool true) (G := fun v _ => v = .bool true) hp (free_of rfl) trivial (sqi 15) (sqi 17) (fun ρ w hc h h' => ⟨_, by simp [execOp, go_sem, h, h'], rfl⟩)
  ·exact q_move hp (free_of rfl) trivial (sqi 18)
  ·exact q_addr (b := b14_8) (off := 0) (off' := 7) hp (free_of rfl) gqi (sqo 19) (fun ρ w h => by simp [execOp, go_sem, h]) (fun _ => rfl)
  ·exact q_load1 (off := 7) (fs := [.n 0, .n 0, .v (.bool true), .n 0, .v (.int .i64 0)]) (u := .int .i64 0) hp (free_of rfl) gqi (mq 0 rfl) (.inl rfl) rfl rfl (fun ρ w b h1 h2 => by simp [execOp, go_sem, h1, h2]) (sqi 20) (fun _ => rfl)
  ·exact q_one (F := fun v _ => v = .int .i64 0) hp (free_of rfl) gqi (sqi 21) (fun ρ w hc h => ⟨.bool true, by simp [execOp, go_sem, h, hc], rfl⟩)
  ·exact q_two (F := fun v _ => v = .bool true) (G := fun v _ => v = .bool true) hp (free_of rfl) trivial (sqi 19) (sqi 22) (fun ρ w hc h h' => ⟨_, by simp [execOp, go_sem, h, h'], rfl⟩)
  ·exact q_move hp (free_of rfl) trivial (sqi 23)
  ·exact q_addr (b := b14_8) (off := 0) (off' := 0) hp (free_of rfl) gqi (sqo 19) (fun ρ w h => by simp [execOp, go_sem, h]) (fun _ => rfl)
  ·exact q_addr (b := b14_8) (off := 0) (off' := 4) hp (free_of rfl) gqi (sqi 25) (fun ρ w h => by simp [execOp, go_sem, h]) (fun _ => rfl)
  ·exact q_load1 (off := 4) (fs := [.n 0, .n 0, .v (.bool true), .n 0, .v (.int .i64 0)]) (u := .bool true) hp (free_of rfl) gqi (mq 0 rfl) (.inl rfl) rfl rfl (fun ρ w b h1 h2 => by simp [execOp, go_sem, h1, h2]) (sqi 26) (fun _ => rfl)
  ·exact q_two (F := fun v _ => v = .bool true) (G := fun v _ => v = .bool true) hp (free_of rfl) trivial (sqi 24) (sqi 27) (fun ρ w hc h h' => ⟨_, by simp [execOp, go_sem, h, h'], rfl⟩)
  ·exact q_move hp (free_of rfl) trivial (sqi 28)
  ·exact q_addr (b := b14_9) (off := 0) (off' := 0) hp (free_of rfl) gqi (sqo 20) (fun ρ w h => by simp [execOp, go_sem, h]) (fun _ => rfl)
  ·exact q_loadSt (off := 0) (l := 5) (fs := [.n R.x, .n R.y, .v (.bool R.i), .n 0, .v (.int .i64 0)]) (gs := [.n R.x, .n R.y, .v (.bool R.i)]) hp (free_of rfl) gqi (mq 1 rfl) (.inl rfl) rfl row_api_Point rfl (sqi 30) (fun v w h => h)
  ·exact q_loadSt (off := 0) (l := 5) (fs := [.n R.x, .n R.y, .v (.bool R.i)]) (gs := [.n R.x, .n R.y, .v (.bool R.i)]) hp (free_of rfl) gqi (mq 10 rfl) (.inl rfl) rfl row_api_Point rfl (sqo 11) (fun v w h => h)
  ·exact q_call2 (F := (Fq.st [.n R.x, .n R.y, .v (.bool R.i)]).P) (G := (Fq.st [.n R.x, .n R.y, .v (.bool R.i)]).P) hp (free_of rfl) gqi (enq_f_algorist_algoristref06_Same) (sqi 31) (sqi 32) (fun v v' w h h' => exPtSame (P := R) (Q := R) h h' (sameP_refl _))
  ·exact q_two (F := fun v _ => v = .bool true) (G := fun v _ => v = .bool true) hp (free_of rfl) trivial (sqi 29) (sqi 33) (fun ρ w hc h h' => ⟨_, by simp [execOp, go_sem, h, h'], rfl⟩)
  ·exact q_move hp (free_of rfl) trivial (sqi 34)
  ·exact q_move hp (free_of rfl) gqi (sqo 5)
  ·exact q_two (F := fun v _ => v = .bool true) (G := fun v _ => v = .bool true) hp (free_of rfl) trivial (sqi 35) (sqi 36) (fun ρ w hc h h' => ⟨_, by simp [execOp, go_sem, h, h'], rfl⟩)
  ·exact q_assign hp (free_of rfl) trivial (sqi 37)
  intro L vs w15 nb hL hC hn E15
  have e0 : vs 0 = .pointer (some ⟨b12_10, 7, none⟩) := hC 0 (by simp)
  have e1 : vs 1 = .int .i64 0 := hC 1 (by simp)
  have e2 : vs 2 = .bool true := hC 2 (by simp)
  have e3 : vs 3 = .bool true := hC 3 (by simp)
  have e4 : vs 4 = .pointer (some ⟨b12_11, 7, none⟩) := hC 4 (by simp)
  have e5 : vs 5 = .int .i64 0 := hC 5 (by simp)
  have e6 : vs 6 = .bool true := hC 6 (by simp)
  have e7 : vs 7 = .bool true := hC 7 (by simp)
  have e8 : vs 8 = .bool true := hC 8 (by simp)
  have e9 : vs 9 = .pointer (some ⟨b12_10, 0, none⟩) := hC 9 (by simp)
  have e11 : vs 11 = .pointer (some ⟨b12_11, 0, none⟩) := hC 11 (by simp)
  have e13 : vs 13 = .bool true := hC 13 (by simp)
  have e14 : vs 14 = .bool true := hC 14 (by simp)
  have e15 : vs 15 = .bool true := hC 15 (by simp)
  have e16 : vs 16 = .int .i64 0 := hC 16 (by simp)
  have e17 : vs 17 = .bool true := hC 17 (by simp)
  have e18 : vs 18 = .bool true := hC 18 (by simp)
  have e19 : vs 19 = .bool true := hC 19 (by simp)
  have e20 : vs 20 = .pointer (some ⟨b14_8, 7, none⟩) := hC 20 (by simp)
  have e21 : vs 21 = .int .i64 0 := hC 21 (by simp)
  have e22 : vs 22 = .bool true := hC 22 (by simp)
  have e23 : vs 23 = .bool true := hC 23 (by simp)
  have e24 : vs 24 = .bool true := hC 24 (by simp)
  have e25 : vs 25 = .pointer (some ⟨b14_8, 0, none⟩) := hC 25 (by simp)
  have e26 : vs 26 = .pointer (some ⟨b14_8, 4, none⟩) := hC 26 (by simp)
  have e27 : vs 27 = .bool true := hC 27 (by simp)
  have e28 : vs 28 = .bool true := hC 28 (by simp)
  have e29 : vs 29 = .bool true := hC 29 (by simp)
  have e30 : vs 30 = .pointer (some ⟨b14_9, 0, none⟩) := hC 30 (by simp)
  have e33 : vs 33 = .bool true := hC 33 (by simp)
  have e34 : vs 34 = .bool true := hC 34 (by simp)
  have e35 : vs 35 = .bool true := hC 35 (by simp)
  have e36 : vs 36 = .bool true := hC 36 (by simp)
  have e37 : vs 37 = .bool true := hC 37 (by simp)
  have e38 : vs 38 = .bool true := hC 38 (by simp)
  have E : Fr w [(b14_8, 8, Fq.st [.n 0, .n 0, .v (.bool true), .n 0, .v (.int .i64 0)]), (b14_9, 8, Fq.st [.n R.x, .n R.y, .v (.bool R.i), .n 0, .v (.int .i64 0)]), (b13_6, 5, Fq.st [.n N.x, .n N.y, .v (.bool N.i)]), (b12_10, 8, Fq.st [.n V.x, .n V.y, .v (.bool V.i), .n 0, .v (.int .i64 0)]), (b12_11, 8, Fq.st [.n V.x, .n V.y, .v (.bool V.i), .n 0, .v (.int .i64 0)]), (b10_12, 8, Fq.st [.n S.x, .n S.y, .v (.bool S.i), .n 0, .v (.int .i64 0)]), (b10_13, 8, Fq.st [.n S.x, .n S.y, .v (.bool S.i), .n 0, .v (.int .i64 0)]), (b10_14, 8, Fq.st [.n U.x, .n U.y, .v (.bool U.i), .n 0, .v (.int .i64 0)]), (b9_28, 5, Fq.st [.n x, .n y, .v (.bool false)]), (b9_29, 5, Fq.st [.n T.x, .n T.y, .v (.bool T.i)]), (b9_30, 5, Fq.st [.n R.x, .n R.y, .v (.bool R.i)]), (gg, (nl * 5), Fq.st (rowL ps)), (b5_17, 6, Fq.st [.n a, .n b, .n m]), (b1, 5, Fq.st [.v (.int .u8 M9), .v (.int .u8 A), .v (.int .u8 X), .v (.int .u8 Y), .v (.int .u16 Q)])] w15 := E15
  rw [lay_all hL]
  simp only [putAll, dstOf, List.length_cons, List.length_nil, Nat.zero_add, Nat.reduceAdd, List.getElem?_toArray, List.getElem?_cons_zero, List.getElem?_cons_succ, Option.bind_some, Act.put, List.setIfInBounds_toArray, List.set_cons_succ, List.set_cons_zero]
  rw [e0, e1, e2, e3, e4, e5, e6, e7, e8, e9, e11, e13, e14, e15, e16, e17, e18, e19, e20, e21, e22, e23, e24, e25, e26, e27, e28, e29, e30, e33, e34, e35, e36, e37, e38]
  generalize vs 10 = u15_10
  generalize vs 12 = u15_12
  generalize vs 31 = u15_31
  generalize vs 32 = u15_32
  clear e0 e1 e2 e3 e4 e5 e6 e7 e8 e9 e11 e13 e14 e15 e16 e17 e18 e19 e20 e21 e22 e23 e24 e25 e26 e27 e28 e29 e30 e33 e34 e35 e36 e37 e38 hC hn E15 hL vs L nb
  clear HMM HM0 HMP HAX HBB HON HOT HOR HOS G1 G2 G3 G4 G5 G6 G7 G8
  clear BM BA BB BP BT BR BZ BS BU BV BN
  go_wp2
  refine bodyPost_ret (v := .bool true) ?_ rfl ⟨_, rfl, E.below, rfl⟩
  simp [results, Try.results3, go_sem]

theorem PointGroup_row (w : World) (M9 A X Y Q : Int) (hM : 0 ≤ M9 ∧ M9 ≤ 255) (hA : 0 ≤ A ∧ A ≤ 255) (hX : 0 ≤ X ∧ X ≤ 255) (hY : 0 ≤ Y ∧ Y ≤ 255) (hQ : 0 ≤ Q ∧ Q ≤ 65535) (K : Int) (hK0 : 0 ≤ K) (hK1 : K ≤ 65535) : Calls Try.prog 3 #[.agg #[.int .u8 M9, .int .u8 A, .int .u8 X, .int .u8 Y, .int .u16 Q], .int .u16 K] w fun e w' => e = .returned (.bool true) ∧ Below w.heap.size w w' := by
 refine (PointGroup_any w (v := .agg #[.int .u8 M9, .int .u8 A, .int .u8 X, .int .u8 Y, .int .u16 Q]) ⟨[.int .u8 M9, .int .u8 A, .int .u8 X, .int .u8 Y, .int .u16 Q], rfl, _, rfl, rfl, _, rfl, rfl, _, rfl, rfl, _, rfl, rfl, _, rfl, rfl, rfl⟩ hM hA hX hY hQ ⟨hK0, hK1⟩).mono ?_
 rintro e w' ⟨v', rfl, hb, rfl⟩
 exact ⟨rfl, hb⟩

end Go.Proofs.Ytihhlaagndingaa
