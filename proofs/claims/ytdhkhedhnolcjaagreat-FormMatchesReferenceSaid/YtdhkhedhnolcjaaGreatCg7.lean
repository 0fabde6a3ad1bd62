/- Us. -/
import Derived.Test.YtdhkhedhnolcjaaGreatCg6
set_option linter.unusedSimpArgs false
set_option linter.unusedVariables false
namespace Go.Proofs.YtdhkhedhnolcjaaGreat
open Go Go.RowKit

theorem eqM_refl (a b c d : Int) : eqM a b c d a b c d = true := by simp [eqM]
def prE (d : Int) : Int := if 1 < d % 4 ∨ sqB d = true then 5 else 0
def prB (d : Int) : Int := if 1 < d % 4 ∨ sqB d = true then 0 else d % 4
def prA (d : Int) : Int := if 1 < d % 4 ∨ sqB d = true then 0 else 1
def prC (d : Int) : Int := if 1 < d % 4 ∨ sqB d = true then 0 else -(d / 4)
theorem exPPrincT {w : World} {v : Value} {d : Int} (h : Num w v d) (hd : ab d < pw 40) :
  Calls Tryz.prog 10 #[v] w fun e w' => ∃ v', e = .returned v' ∧ Below w.heap.size w w' ∧ (Fq.tup2 (Fq.st [.n (prA d), .n (prB d), .n (prC d)]) (Fq.is (.int .i64 (prE d)))).P v' w' := by
 unfold prE prA prB prC
 by_cases hr : 1 < d % 4
 ·simp only [if_pos (show 1 < d % 4 ∨ sqB d = true from .inl hr)]
  exact zNe h hd hr
 ·by_cases hq : sqB d = true
  ·simp only [if_pos (show 1 < d % 4 ∨ sqB d = true from .inr hq)]
   exact zKi h hd hr hq
  ·have hn : ¬ (1 < d % 4 ∨ sqB d = true) := fun x => x.elim hr hq
   simp only [if_neg hn]
   exact zIf h hd hr (Bool.eq_false_iff.2 hq)
theorem exQPrincT {w : World} {v : Value} {d : Int} (h : Num w v d) (hd : ab d < pw 40) :
  Calls Tryz.prog 11 #[v] w fun e w' => ∃ v', e = .returned v' ∧ Below w.heap.size w w' ∧ (Fq.tup2 (Fq.st [.n (prA d), .n (prB d), .n (prC d)]) (Fq.is (.int .i64 (prE d)))).P v' w' := by
 unfold prE prA prB prC
 by_cases hr : 1 < d % 4
 ·simp only [if_pos (show 1 < d % 4 ∨ sqB d = true from .inl hr)]
  exact zNx h hd hr
 ·by_cases hq : sqB d = true
  ·simp only [if_pos (show 1 < d % 4 ∨ sqB d = true from .inr hq)]
   exact zNy h hd hr hq
  ·have hn : ¬ (1 < d % 4 ∨ sqB d = true) := fun x => x.elim hr hq
   simp only [if_neg hn]
   have e : (d % 4 - d) / 4 = -(d / 4) := by omega
   rw [← e]
   exact zNw h hd hr (Bool.eq_false_iff.2 hq)
set_option maxRecDepth 100000 in
set_option maxHeartbeats 4000000 in
theorem zLy (w : World) (n1 : Bool) (a1 : Option Addr) (k1 c1 : Nat) (xs1 : List Int) (h1 : Sl w a1 k1 c1 xs1) (hk1 : k1 ≤ 9223372036854775807) (n2 : Bool) (a2 : Option Addr) (k2 c2 : Nat) (xs2 : List Int) (h2 : Sl w a2 k2 c2 xs2) (hk2 : k2 ≤ 9223372036854775807) (n3 : Bool) (a3 : Option Addr) (k3 c3 : Nat) (xs3 : List Int) (h3 : Sl w a3 k3 c3 xs3) (hk3 : k3 ≤ 9223372036854775807) (n4 : Bool) (a4 : Option Addr) (k4 c4 : Nat) (xs4 : List Int) (h4 : Sl w a4 k4 c4 xs4) (hk4 : k4 ≤ 9223372036854775807) (n5 : Bool) (a5 : Option Addr) (k5 c5 : Nat) (xs5 : List Int) (h5 : Sl w a5 k5 c5 xs5) (hk5 : k5 ≤ 9223372036854775807) (n6 : Bool) (a6 : Option Addr) (k6 c6 : Nat) (xs6 : List Int) (h6 : Sl w a6 k6 c6 xs6) (hk6 : k6 ≤ 9223372036854775807) (n7 : Bool) (a7 : Option Addr) (k7 c7 : Nat) (xs7 : List Int) (h7 : Sl w a7 k7 c7 xs7) (hk7 : k7 ≤ 9223372036854775807) (n8 : Bool) (a8 : Option Addr) (k8 c8 : Nat) (xs8 : List Int) (h8 : Sl w a8 k8 c8 xs8) (hk8 : k8 ≤ 9223372036854775807) (n9 : Bool) (a9 : Option Addr) (k9 c9 : Nat) (xs9 : List Int) (h9 : Sl w a9 k9 c9 xs9) (hk9 : k9 ≤ 9223372036854775807) (n10 : Bool) (a10 : Option Addr) (k10 c10 : Nat) (xs10 : List Int) (h10 : Sl w a10 k10 c10 xs10) (hk10 : k10 ≤ 9223372036854775807) (n11 : Bool) (a11 : Option Addr) (k11 c11 : Nat) (xs11 : List Int) (h11 : Sl w a11 k11 c11 xs11) (hk11 : k11 ≤ 9223372036854775807) (n12 : Bool) (a12 : Option Addr) (k12 c12 : Nat) (xs12 : List Int) (h12 : Sl w a12 k12 c12 xs12) (hk12 : k12 ≤ 9223372036854775807) (n13 : Bool) (a13 : Option Addr) (k13 c13 : Nat) (xs13 : List Int) (h13 : Sl w a13 k13 c13 xs13) (hk13 : k13 ≤ 9223372036854775807) (n14 : Bool) (a14 : Option Addr) (k14 c14 : Nat) (xs14 : List Int) (h14 : Sl w a14 k14 c14 xs14) (hk14 : k14 ≤ 9223372036854775807) :
  Calls Tryz.prog 3 #[.agg #[.bool n1, .slice a1 k1 c1, .bool n2, .slice a2 k2 c2, .bool n3, .slice a3 k3 c3, .bool n4, .slice a4 k4 c4, .bool n5, .slice a5 k5 c5, .bool n6, .slice a6 k6 c6, .bool n7, .slice a7 k7 c7], .agg #[.bool n8, .slice a8 k8 c8, .bool n9, .slice a9 k9 c9, .bool n10, .slice a10 k10 c10, .bool n11, .slice a11 k11 c11, .bool n12, .slice a12 k12 c12, .bool n13, .slice a13 k13 c13, .bool n14, .slice a14 k14 c14]] w fun e w' => ∃ v', e = .returned v' ∧ Below w.heap.size w w' ∧ v' = .bool true := by
 obtain ⟨a, ea⟩ : ∃ z, z = sgn n1 (val (xs1.take 2)) := ⟨_, rfl⟩
 have Ba : Hid (ab a < pw 3) := by show _ < _; rw [ea]; exact Int.lt_of_lt_of_le (Num.ofMade h1.digs) (zAa (by omega))
 have Ea := hidd ea
 have HK1 := hidd hk1
 clear ea hk1
 obtain ⟨b, eb⟩ : ∃ z, z = sgn n2 (val (xs2.take 2)) := ⟨_, rfl⟩
 have Bb : Hid (ab b < pw 3) := by show _ < _; rw [eb]; exact Int.lt_of_lt_of_le (Num.ofMade h2.digs) (zAa (by omega))
 have Eb := hidd eb
 have HK2 := hidd hk2
 clear eb hk2
 obtain ⟨c, ec⟩ : ∃ z, z = sgn n3 (val (xs3.take 2)) := ⟨_, rfl⟩
 have Bc : Hid (ab c < pw 3) := by show _ < _; rw [ec]; exact Int.lt_of_lt_of_le (Num.ofMade h3.digs) (zAa (by omega))
 have Ec := hidd ec
 have HK3 := hidd hk3
 clear ec hk3
 obtain ⟨x1, ex1⟩ : ∃ z, z = sgn n4 (val (xs4.take 2)) := ⟨_, rfl⟩
 have Bx1 : Hid (ab x1 < pw 3) := by show _ < _; rw [ex1]; exact Int.lt_of_lt_of_le (Num.ofMade h4.digs) (zAa (by omega))
 have Ex1 := hidd ex1
 have HK4 := hidd hk4
 clear ex1 hk4
 obtain ⟨x2, ex2⟩ : ∃ z, z = sgn n5 (val (xs5.take 2)) := ⟨_, rfl⟩
 have Bx2 : Hid (ab x2 < pw 3) := by show _ < _; rw [ex2]; exact Int.lt_of_lt_of_le (Num.ofMade h5.digs) (zAa (by omega))
 have Ex2 := hidd ex2
 have HK5 := hidd hk5
 clear ex2 hk5
 obtain ⟨x3, ex3⟩ : ∃ z, z = sgn n6 (val (xs6.take 2)) := ⟨_, rfl⟩
 have Bx3 : Hid (ab x3 < pw 3) := by show _ < _; rw [ex3]; exact Int.lt_of_lt_of_le (Num.ofMade h6.digs) (zAa (by omega))
 have Ex3 := hidd ex3
 have HK6 := hidd hk6
 clear ex3 hk6
 obtain ⟨x4, ex4⟩ : ∃ z, z = sgn n7 (val (xs7.take 2)) := ⟨_, rfl⟩
 have Bx4 : Hid (ab x4 < pw 3) := by show _ < _; rw [ex4]; exact Int.lt_of_lt_of_le (Num.ofMade h7.digs) (zAa (by omega))
 have Ex4 := hidd ex4
 have HK7 := hidd hk7
 clear ex4 hk7
 obtain ⟨y1, ey1⟩ : ∃ z, z = sgn n11 (val (xs11.take 2)) := ⟨_, rfl⟩
 have By1 : Hid (ab y1 < pw 3) := by show _ < _; rw [ey1]; exact Int.lt_of_lt_of_le (Num.ofMade h11.digs) (zAa (by omega))
 have Ey1 := hidd ey1
 have HK11 := hidd hk11
 clear ey1 hk11
 obtain ⟨y2, ey2⟩ : ∃ z, z = sgn n12 (val (xs12.take 2)) := ⟨_, rfl⟩
 have By2 : Hid (ab y2 < pw 3) := by show _ < _; rw [ey2]; exact Int.lt_of_lt_of_le (Num.ofMade h12.digs) (zAa (by omega))
 have Ey2 := hidd ey2
 have HK12 := hidd hk12
 clear ey2 hk12
 obtain ⟨y3, ey3⟩ : ∃ z, z = sgn n13 (val (xs13.take 2)) := ⟨_, rfl⟩
 have By3 : Hid (ab y3 < pw 3) := by show _ < _; rw [ey3]; exact Int.lt_of_lt_of_le (Num.ofMade h13.digs) (zAa (by omega))
 have Ey3 := hidd ey3
 have HK13 := hidd hk13
 clear ey3 hk13
 obtain ⟨y4, ey4⟩ : ∃ z, z = sgn n14 (val (xs14.take 2)) := ⟨_, rfl⟩
 have By4 : Hid (ab y4 < pw 3) := by show _ < _; rw [ey4]; exact Int.lt_of_lt_of_le (Num.ofMade h14.digs) (zAa (by omega))
 have Ey4 := hidd ey4
 have HK14 := hidd hk14
 clear ey4 hk14
 obtain ⟨I, eI⟩ : ∃ x, x = invT a b c := ⟨_, rfl⟩
 have BI := hidd (invT_RB (Int.lt_of_lt_of_le Ba.out (zAa (by omega))) (Int.lt_of_lt_of_le Bb.out (zAa (by omega))) (Int.lt_of_lt_of_le Bc.out (zAa (by omega))))
 rw [← eI] at BI
 have EI := hidd eI.symm
 obtain ⟨er, her⟩ : ∃ x, x = redE a b c := ⟨_, rfl⟩
 have HER := hidd her.symm
 obtain ⟨ce, hce⟩ : ∃ x, x = chkF a b c := ⟨_, rfl⟩
 have HCE := hidd hce.symm
 obtain ⟨tt, htt⟩ : ∃ x, x = decide (cont a b c = 1) := ⟨_, rfl⟩
 have HTT := hidd htt.symm
 obtain ⟨t2, ht2⟩ : ∃ x, x = (dfB a b c && redB a b c) := ⟨_, rfl⟩
 have HT2 := hidd ht2.symm
 obtain ⟨pa, hpa⟩ : ∃ x, x = prA b := ⟨_, rfl⟩
 obtain ⟨pb, hpb⟩ : ∃ x, x = prB b := ⟨_, rfl⟩
 obtain ⟨pc, hpc⟩ : ∃ x, x = prC b := ⟨_, rfl⟩
 obtain ⟨pe, hpe⟩ : ∃ x, x = prE b := ⟨_, rfl⟩
 have HPA := hidd hpa
 have HPB := hidd hpb
 have HPC := hidd hpc
 have HPE := hidd hpe
 have Q1 := hidd (zIc pa pb pc)
 have Q2 := hidd (zIc I.fa I.fb I.fc)
 clear eI her hce htt ht2 hpa hpb hpc hpe
 obtain ⟨w1, b1, hw1, hb1, hs1, E⟩ := zB2 w (F := Fq.odd7 n1 a1 k1 c1 xs1 n2 a2 k2 c2 xs2 n3 a3 k3 c3 xs3 n4 a4 k4 c4 xs4 n5 a5 k5 c5 xs5 n6 a6 k6 c6 xs6 n7 a7 k7 c7 xs7) (us := [.bool n1, .slice a1 k1 c1, .bool n2, .slice a2 k2 c2, .bool n3, .slice a3 k3 c3, .bool n4, .slice a4 k4 c4, .bool n5, .slice a5 k5 c5, .bool n6, .slice a6 k6 c6, .bool n7, .slice a7 k7 c7]) 28 rfl (by simp) (zHn _ _ _ _ _ _ _ _ _ _ _ _ _ _ _ _ _ _ _ _ _ _ _ _ _ _ _ _) (show (Fq.odd7 n1 a1 k1 c1 xs1 n2 a2 k2 c2 xs2 n3 a3 k3 c3 xs3 n4 a4 k4 c4 xs4 n5 a5 k5 c5 xs5 n6 a6 k6 c6 xs6 n7 a7 k7 c7 xs7).P _ w from ⟨rfl, h1, h2, h3, h4, h5, h6, h7⟩)
 obtain ⟨w2, b2, hw2, hb2, hs2, E⟩ := zCy E hs1 (F := Fq.odd7 n8 a8 k8 c8 xs8 n9 a9 k9 c9 xs9 n10 a10 k10 c10 xs10 n11 a11 k11 c11 xs11 n12 a12 k12 c12 xs12 n13 a13 k13 c13 xs13 n14 a14 k14 c14 xs14) (us := [.bool n8, .slice a8 k8 c8, .bool n9, .slice a9 k9 c9, .bool n10, .slice a10 k10 c10, .bool n11, .slice a11 k11 c11, .bool n12, .slice a12 k12 c12, .bool n13, .slice a13 k13 c13, .bool n14, .slice a14 k14 c14]) 28 rfl (by simp) (zHn _ _ _ _ _ _ _ _ _ _ _ _ _ _ _ _ _ _ _ _ _ _ _ _ _ _ _ _) ((Fq.odd7 n8 a8 k8 c8 xs8 n9 a9 k9 c9 xs9 n10 a10 k10 c10 xs10 n11 a11 k11 c11 xs11 n12 a12 k12 c12 xs12 n13 a13 k13 c13 xs13 n14 a14 k14 c14 xs14).mono (show (Fq.odd7 n8 a8 k8 c8 xs8 n9 a9 k9 c9 xs9 n10 a10 k10 c10 xs10 n11 a11 k11 c11 xs11 n12 a12 k12 c12 xs12 n13 a13 k13 c13 xs13 n14 a14 k14 c14 xs14).P _ w from ⟨rfl, h8, h9, h10, h11, h12, h13, h14⟩) E.below)
 go_enter Tryz.func3, Tryz.ntmps3
 go_upto_region 1 with (fail)
 rw [← hw1]
 rw [← hw2]
 rw [← hb2]
 rw [← hb1]
 clear hw1 hw2 hb1 hb2 hs2 hs1
 refine rg [yT, yT] N2 [] E (fun hp => ⟨?_, ?_, tv⟩) ?_
 ·exact q_call0 hp fo tv (zMc) (fun w => zMq w)
 ·exact zAh hp fo tv (sqi 0)
 intro L vs w3 nb hL hC hn E3
 have e0 := wXi hC 0
 have e1 := wXi hC 1
 have E := E3; try simp only [LM, zAc] at E
 rw [zAe hL]
 simp only [SP, Nat.zero_add, Nat.reduceAdd]
 rw [e0, e1]
 clear e0 e1 hC hn E3 hL vs L nb
 go_upto_region 2 with (fail)
 refine rg [yT, yF] N2 [] E (fun hp => ⟨?_, ?_, tv⟩) ?_
 ·exact zAd hp fo tv (sqo 5)
 ·exact zAf (F := fun v _ => v = .bool true) hp fo tv (sqi 0) (fun ρ w _ h => ⟨.bool false, by simp [execOp, go_sem, h], rfl⟩)
 intro L vs w4 nb hL hC hn E4
 have e0 := wXi hC 0
 have e1 := wXi hC 1
 have E := E4; try simp only [LM, zAc] at E
 rw [zAe hL]
 simp only [SP, Nat.zero_add, Nat.reduceAdd]
 rw [e0, e1]
 clear e0 e1 hC hn E4 hL vs L nb
 go_upto_region 4 with (fail)
 refine rg [Fq.odd7 n1 a1 k1 c1 xs1 n2 a2 k2 c2 xs2 n3 a3 k3 c3 xs3 n4 a4 k4 c4 xs4 n5 a5 k5 c5 xs5 n6 a6 k6 c6 xs6 n7 a7 k7 c7 xs7, Fq.st [.n a, .n b, .n c], Fq.odd7 n1 a1 k1 c1 xs1 n2 a2 k2 c2 xs2 n3 a3 k3 c3 xs3 n4 a4 k4 c4 xs4 n5 a5 k5 c5 xs5 n6 a6 k6 c6 xs6 n7 a7 k7 c7 xs7, Fq.st [.n x1, .n x2, .n x3, .n x4], Fq.odd7 n8 a8 k8 c8 xs8 n9 a9 k9 c9 xs9 n10 a10 k10 c10 xs10 n11 a11 k11 c11 xs11 n12 a12 k12 c12 xs12 n13 a13 k13 c13 xs13 n14 a14 k14 c14 xs14, Fq.st [.n y1, .n y2, .n y3, .n y4], Fq.any, Fq.any, Fq.any, Fq.any, Fq.any, Fq.any] N2 [⟨6, 9, 6, Fq.st [.n 0, .n 0, .n 0], Fq.st [.n a, .n b, .n c], none⟩, ⟨7, 10, 8, Fq.st [.n 0, .n 0, .n 0, .n 0], Fq.st [.n x1, .n x2, .n x3, .n x4], none⟩, ⟨8, 11, 8, Fq.st [.n 0, .n 0, .n 0, .n 0], Fq.st [.n y1, .n y2, .n y3, .n y4], none⟩] E (fun hp => ⟨?_, ?_, ?_, ?_, ?_, ?_, ?_, ?_, ?_, ?_, ?_, ?_, tv⟩) ?_
 ·exact zI8 hp fo tv (mq 1 rfl) (.inl rfl) zJd (sqo 2) (fun us w hl h => h)
 ·exact wXa (Fq.odd7 n1 a1 k1 c1 xs1 n2 a2 k2 c2 xs2 n3 a3 k3 c3 xs3 n4 a4 k4 c4 xs4 n5 a5 k5 c5 xs5 n6 a6 k6 c6 xs6 n7 a7 k7 c7 xs7) hp zMe (sqi 0) fun v w h => (by obtain ⟨rfl, h1, h2, h3, h4, h5, h6, h7⟩ := h; rw [Ea.out, Eb.out, Ec.out]; exact exQAny h1 HK1.out h2 HK2.out h3 HK3.out h4 h5 h6 h7)
 ·exact zI8 hp fo tv (mq 1 rfl) (.inl rfl) zJd (sqo 2) (fun us w hl h => h)
 ·exact wXa (Fq.odd7 n1 a1 k1 c1 xs1 n2 a2 k2 c2 xs2 n3 a3 k3 c3 xs3 n4 a4 k4 c4 xs4 n5 a5 k5 c5 xs5 n6 a6 k6 c6 xs6 n7 a7 k7 c7 xs7) hp zJ7 (sqi 2) fun v w h => (by obtain ⟨rfl, h1, h2, h3, h4, h5, h6, h7⟩ := h; rw [Ex1.out, Ex2.out, Ex3.out, Ex4.out]; exact zKj h1 h2 h3 h4 HK4.out h5 HK5.out h6 HK6.out h7 HK7.out)
 ·exact zI8 hp fo tv (mq 0 rfl) (.inl rfl) zJd (sqo 3) (fun us w hl h => h)
 ·exact wXa (Fq.odd7 n8 a8 k8 c8 xs8 n9 a9 k9 c9 xs9 n10 a10 k10 c10 xs10 n11 a11 k11 c11 xs11 n12 a12 k12 c12 xs12 n13 a13 k13 c13 xs13 n14 a14 k14 c14 xs14) hp zJ7 (sqi 4) fun v w h => (by obtain ⟨rfl, h1, h2, h3, h4, h5, h6, h7⟩ := h; rw [Ey1.out, Ey2.out, Ey3.out, Ey4.out]; exact zKj h1 h2 h3 h4 HK11.out h5 HK12.out h6 HK13.out h7 HK14.out)
 ·exact aS hp (mq 0 rfl) zA3 zCc
 ·exact aS hp (mq 1 rfl) zBw zDn
 ·exact aS hp (mq 2 rfl) zBw zDn
 ·exact sS 1 hp (mq 0 rfl) zAz
 ·exact sS 3 hp (mq 1 rfl) zBm
 ·exact sS 5 hp (mq 2 rfl) zBm
 intro L vs w5 nb hL hC hn E5
 have e6 : vs 6 = .pointer (some ⟨nb 6, 0, none⟩) := hn _ (mq 0 rfl)
 have e7 : vs 7 = .pointer (some ⟨nb 7, 0, none⟩) := hn _ (mq 1 rfl)
 have e8 : vs 8 = .pointer (some ⟨nb 8, 0, none⟩) := hn _ (mq 2 rfl)
 have E := E5; try simp only [LM, zAc] at E
 rw [zAe hL]
 simp only [SP, Nat.zero_add, Nat.reduceAdd]
 rw [e6, e7, e8]
 generalize nb 6 = b5_6 at E ⊢
 generalize nb 7 = b5_7 at E ⊢
 generalize nb 8 = b5_8 at E ⊢
 generalize vs 0 = u5_0
 generalize vs 1 = u5_1
 generalize vs 2 = u5_2
 generalize vs 3 = u5_3
 generalize vs 4 = u5_4
 generalize vs 5 = u5_5
 clear e6 e7 e8 hC hn E5 hL vs L nb
 go_upto_region 5 with (fail)
 refine rg [ip b5_6 2, Fq.num b, Fq.tup2 (Fq.st [.n pa, .n pb, .n pc]) (Fq.is (.int .i64 pe)), Fq.tup2 (Fq.st [.n pa, .n pb, .n pc]) (Fq.is (.int .i64 pe)), Fq.st [.n pa, .n pb, .n pc], Fq.is (.int .i64 pe), Fq.any, Fq.any, Fq.is (.int .i64 pe)] N5 [⟨6, 7, 6, Fq.st [.n 0, .n 0, .n 0], Fq.st [.n pa, .n pb, .n pc], none⟩] E (fun hp => ⟨?_, ?_, ?_, ?_, ?_, ?_, ?_, ?_, ?_, tv⟩) ?_
 ·exact qa b5_6 0 2 hp (sqo 6)
 ·exact lN 2 2 hp (mq 0 rfl) zAb (sqi 0)
 ·exact wXa (Fq.num b) hp zGv (sqi 1) fun v w h => (by have hh := exPPrincT h (Int.lt_of_lt_of_le Bb.out (zAa (by omega))); rw [← HPA.out, ← HPB.out, ← HPC.out, ← HPE.out] at hh; exact hh)
 ·exact zAd hp fo tv (sqi 2)
 ·exact zCb hp fo tv (sqi 3) (fun v1 v2 w h1 h2 => ⟨_, rfl, h1⟩)
 ·exact zCb hp fo tv (sqi 3) (fun v1 v2 w h1 h2 => ⟨_, rfl, h2⟩)
 ·exact aS hp (mq 0 rfl) zA3 zCc
 ·exact sS 4 hp (mq 0 rfl) zAz
 ·exact zAh hp fo tv (sqi 5)
 intro L vs w6 nb hL hC hn E6
 have e0 := wXi hC 0
 have e5 := wXi hC 5
 have e8 := wXi hC 8
 have e6 : vs 6 = .pointer (some ⟨nb 6, 0, none⟩) := hn _ (mq 0 rfl)
 have E := E6; try simp only [LM, zAc] at E
 rw [zAe hL]
 simp only [SP, Nat.zero_add, Nat.reduceAdd]
 rw [e0, e5, e8, e6]
 generalize nb 6 = b6_6 at E ⊢
 generalize vs 1 = u6_1
 generalize vs 2 = u6_2
 generalize vs 3 = u6_3
 generalize vs 4 = u6_4
 clear e0 e5 e8 e6 hC hn E6 hL vs L nb
 go_upto_region 6 with (fail)
 refine rg [ip b5_6 2, Fq.num b, Fq.tup2 (Fq.st [.n pa, .n pb, .n pc]) (Fq.is (.int .i64 pe)), Fq.tup2 (Fq.st [.n pa, .n pb, .n pc]) (Fq.is (.int .i64 pe)), Fq.st [.n pa, .n pb, .n pc], Fq.is (.int .i64 pe), Fq.any, Fq.any, Fq.is (.int .i64 pe)] N6 [⟨6, 7, 6, Fq.st [.n 0, .n 0, .n 0], Fq.st [.n pa, .n pb, .n pc], none⟩] E (fun hp => ⟨?_, ?_, ?_, ?_, ?_, ?_, ?_, ?_, ?_, tv⟩) ?_
 ·exact qa b5_6 0 2 hp (sqo 6)
 ·exact lN 2 2 hp (mq 1 rfl) zAb (sqi 0)
 ·exact wXa (Fq.num b) hp zMi (sqi 1) fun v w h => (by have hh := exQPrincT h (Int.lt_of_lt_of_le Bb.out (zAa (by omega))); rw [← HPA.out, ← HPB.out, ← HPC.out, ← HPE.out] at hh; exact hh)
 ·exact zAd hp fo tv (sqi 2)
 ·exact zCb hp fo tv (sqi 3) (fun v1 v2 w h1 h2 => ⟨_, rfl, h1⟩)
 ·exact zCb hp fo tv (sqi 3) (fun v1 v2 w h1 h2 => ⟨_, rfl, h2⟩)
 ·exact aS hp (mq 0 rfl) zA3 zCc
 ·exact sS 4 hp (mq 0 rfl) zAz
 ·exact zAh hp fo tv (sqi 5)
 intro L vs w7 nb hL hC hn E7
 have e0 := wXi hC 0
 have e5 := wXi hC 5
 have e8 := wXi hC 8
 have e6 : vs 6 = .pointer (some ⟨nb 6, 0, none⟩) := hn _ (mq 0 rfl)
 have E := E7; try simp only [LM, zAc] at E
 rw [zAe hL]
 simp only [SP, Nat.zero_add, Nat.reduceAdd]
 rw [e0, e5, e8, e6]
 generalize nb 6 = b7_6 at E ⊢
 generalize vs 1 = u7_1
 generalize vs 2 = u7_2
 generalize vs 3 = u7_3
 generalize vs 4 = u7_4
 clear e0 e5 e8 e6 hC hn E7 hL vs L nb
 go_upto_region 7 with (fail)
 refine rg [Fq.st [.n a, .n b, .n c], Fq.tup2 (Fq.st [.n I.fa, .n I.fb, .n I.fc]) (Fq.is (.int .i64 er)), Fq.tup2 (Fq.st [.n I.fa, .n I.fb, .n I.fc]) (Fq.is (.int .i64 er)), Fq.st [.n I.fa, .n I.fb, .n I.fc], Fq.is (.int .i64 er), Fq.any, Fq.any, Fq.is (.int .i64 er)] N7 [⟨5, 6, 6, Fq.st [.n 0, .n 0, .n 0], Fq.st [.n I.fa, .n I.fb, .n I.fc], none⟩] E (fun hp => ⟨?_, ?_, ?_, ?_, ?_, ?_, ?_, ?_, tv⟩) ?_
 ·exact lS 0 6 hp (mq 2 rfl) zAn (sqo 6)
 ·exact wXa (Fq.st [.n a, .n b, .n c]) hp zKa (sqi 0) fun v w h => (by have hh := zKg h (Int.lt_of_lt_of_le Ba.out (zAa (by omega))) (Int.lt_of_lt_of_le Bb.out (zAa (by omega))) (Int.lt_of_lt_of_le Bc.out (zAa (by omega))); rw [EI.out, HER.out] at hh; exact hh)
 ·exact zAd hp fo tv (sqi 1)
 ·exact zCb hp fo tv (sqi 2) (fun v1 v2 w h1 h2 => ⟨_, rfl, h1⟩)
 ·exact zCb hp fo tv (sqi 2) (fun v1 v2 w h1 h2 => ⟨_, rfl, h2⟩)
 ·exact aS hp (mq 0 rfl) zA3 zCc
 ·exact sS 3 hp (mq 0 rfl) zAz
 ·exact zAh hp fo tv (sqi 4)
 intro L vs w8 nb hL hC hn E8
 have e4 := wXi hC 4
 have e7 := wXi hC 7
 have e5 : vs 5 = .pointer (some ⟨nb 5, 0, none⟩) := hn _ (mq 0 rfl)
 have E := E8; try simp only [LM, zAc] at E
 rw [zAe hL]
 simp only [SP, Nat.zero_add, Nat.reduceAdd]
 rw [e4, e7, e5]
 generalize nb 5 = b8_5 at E ⊢
 generalize vs 0 = u8_0
 generalize vs 1 = u8_1
 generalize vs 2 = u8_2
 generalize vs 3 = u8_3
 clear e4 e7 e5 hC hn E8 hL vs L nb
 go_upto_region 8 with (fail)
 refine rg [Fq.st [.n a, .n b, .n c], Fq.tup2 (Fq.st [.n I.fa, .n I.fb, .n I.fc]) (Fq.is (.int .i64 er)), Fq.tup2 (Fq.st [.n I.fa, .n I.fb, .n I.fc]) (Fq.is (.int .i64 er)), Fq.st [.n I.fa, .n I.fb, .n I.fc], Fq.is (.int .i64 er), Fq.any, Fq.any, Fq.is (.int .i64 er)] N8 [⟨5, 6, 6, Fq.st [.n 0, .n 0, .n 0], Fq.st [.n I.fa, .n I.fb, .n I.fc], none⟩] E (fun hp => ⟨?_, ?_, ?_, ?_, ?_, ?_, ?_, ?_, tv⟩) ?_
 ·exact lS 0 6 hp (mq 3 rfl) zAn (sqo 6)
 ·exact wXa (Fq.st [.n a, .n b, .n c]) hp zMg (sqi 0) fun v w h => (by have hh := zNu h (Int.lt_of_lt_of_le Ba.out (zAa (by omega))) (Int.lt_of_lt_of_le Bb.out (zAa (by omega))) (Int.lt_of_lt_of_le Bc.out (zAa (by omega))); rw [EI.out, HER.out] at hh; exact hh)
 ·exact zAd hp fo tv (sqi 1)
 ·exact zCb hp fo tv (sqi 2) (fun v1 v2 w h1 h2 => ⟨_, rfl, h1⟩)
 ·exact zCb hp fo tv (sqi 2) (fun v1 v2 w h1 h2 => ⟨_, rfl, h2⟩)
 ·exact aS hp (mq 0 rfl) zA3 zCc
 ·exact sS 3 hp (mq 0 rfl) zAz
 ·exact zAh hp fo tv (sqi 4)
 intro L vs w9 nb hL hC hn E9
 have e4 := wXi hC 4
 have e7 := wXi hC 7
 have e5 : vs 5 = .pointer (some ⟨nb 5, 0, none⟩) := hn _ (mq 0 rfl)
 have E := E9; try simp only [LM, zAc] at E
 rw [zAe hL]
 simp only [SP, Nat.zero_add, Nat.reduceAdd]
 rw [e4, e7, e5]
 generalize nb 5 = b9_5 at E ⊢
 generalize vs 0 = u9_0
 generalize vs 1 = u9_1
 generalize vs 2 = u9_2
 generalize vs 3 = u9_3
 clear e4 e7 e5 hC hn E9 hL vs L nb
 go_upto_region 9 with (fail)
 refine rg [Fq.st [.n a, .n b, .n c], Fq.is (.int .i64 ce), Fq.st [.n a, .n b, .n c], Fq.is (.int .i64 ce), yF, yF, Fq.is (.int .i64 pe), Fq.is (.int .i64 pe), yF, yF, yF, Fq.is (.int .i64 er), Fq.is (.int .i64 er), yF, yF, yF, Fq.st [.n pa, .n pb, .n pc], Fq.st [.n pa, .n pb, .n pc], yT, yF, yF, yF, Fq.st [.n I.fa, .n I.fb, .n I.fc], Fq.st [.n I.fa, .n I.fb, .n I.fc], yT, yF, yF] N9 [] E (fun hp => ⟨?_, ?_, ?_, ?_, ?_, ?_, ?_, ?_, ?_, ?_, ?_, ?_, ?_, ?_, ?_, ?_, ?_, ?_, ?_, ?_, ?_, ?_, ?_, ?_, ?_, ?_, ?_, tv⟩) ?_
 ·exact lS 0 6 hp (mq 4 rfl) zAn (sqo 6)
 ·exact wXa (Fq.st [.n a, .n b, .n c]) hp zE2 (sqi 0) fun v w h => zE6 h (Int.lt_of_lt_of_le Ba.out (zAa (by omega))) (Int.lt_of_lt_of_le Bb.out (zAa (by omega))) (Int.lt_of_lt_of_le Bc.out (zAa (by omega))) HCE.out
 ·exact lS 0 6 hp (mq 4 rfl) zAn (sqo 6)
 ·exact wXa (Fq.st [.n a, .n b, .n c]) hp zD5 (sqi 2) fun v w h => zD9 h (Int.lt_of_lt_of_le Ba.out (zAa (by omega))) (Int.lt_of_lt_of_le Bb.out (zAa (by omega))) (Int.lt_of_lt_of_le Bc.out (zAa (by omega))) HCE.out
 ·exact zAg (F := fun v _ => v = .int .i64 ce) (G := fun v _ => v = .int .i64 ce) hp fo tv (sqi 1) (sqi 3) (fun ρ w hc h h' => ⟨.bool false, by simp [execOp, go_sem, h, h'], rfl⟩)
 ·exact zAd hp fo tv (sqi 4)
 ·exact zAd hp fo gqi (sqo 10)
 ·exact zAd hp fo gqi (sqo 12)
 ·exact zAg (F := fun v _ => v = .int .i64 pe) (G := fun v _ => v = .int .i64 pe) hp fo gqi (sqi 6) (sqi 7) (fun ρ w hc h h' => ⟨.bool false, by simp [execOp, go_sem, h, h'], rfl⟩)
 ·exact zAg (F := fun v _ => v = .bool false) (G := fun v _ => v = .bool false) hp fo tv (sqi 5) (sqi 8) (fun ρ w hc h h' => ⟨_, by simp [execOp, go_sem, h, h'], rfl⟩)
 ·exact zAd hp fo tv (sqi 9)
 ·exact zAd hp fo gqi (sqo 14)
 ·exact zAd hp fo gqi (sqo 16)
 ·exact zAg (F := fun v _ => v = .int .i64 er) (G := fun v _ => v = .int .i64 er) hp fo gqi (sqi 11) (sqi 12) (fun ρ w hc h h' => ⟨.bool false, by simp [execOp, go_sem, h, h'], rfl⟩)
 ·exact zAg (F := fun v _ => v = .bool false) (G := fun v _ => v = .bool false) hp fo tv (sqi 10) (sqi 13) (fun ρ w hc h h' => ⟨_, by simp [execOp, go_sem, h, h'], rfl⟩)
 ·exact zAd hp fo tv (sqi 14)
 ·exact lG 0 6 hp gqi (mq 3 rfl) zAn (sqo 9) fun v w h => h
 ·exact lG 0 6 hp gqi (mq 2 rfl) zAn (sqo 11) fun v w h => h
 ·exact zAs (F := (Fq.st [.n pa, .n pb, .n pc]).P) (G := (Fq.st [.n pa, .n pb, .n pc]).P) hp fo gqi (zEk) (sqi 16) (sqi 17) (fun v v' w h h' => zEl h h' Q1.out)
 ·exact zAf (F := fun v _ => v = .bool true) hp fo gqi (sqi 18) (fun ρ w _ h => ⟨.bool false, by simp [execOp, go_sem, h], rfl⟩)
 ·exact zAg (F := fun v _ => v = .bool false) (G := fun v _ => v = .bool false) hp fo tv (sqi 15) (sqi 19) (fun ρ w hc h h' => ⟨_, by simp [execOp, go_sem, h, h'], rfl⟩)
 ·exact zAd hp fo tv (sqi 20)
 ·exact lG 0 6 hp gqi (mq 1 rfl) zAn (sqo 13) fun v w h => h
 ·exact lG 0 6 hp gqi (mq 0 rfl) zAn (sqo 15) fun v w h => h
 ·exact zAs (F := (Fq.st [.n I.fa, .n I.fb, .n I.fc]).P) (G := (Fq.st [.n I.fa, .n I.fb, .n I.fc]).P) hp fo gqi (zEk) (sqi 22) (sqi 23) (fun v v' w h h' => zEl h h' Q2.out)
 ·exact zAf (F := fun v _ => v = .bool true) hp fo gqi (sqi 24) (fun ρ w _ h => ⟨.bool false, by simp [execOp, go_sem, h], rfl⟩)
 ·exact zAg (F := fun v _ => v = .bool false) (G := fun v _ => v = .bool false) hp fo tv (sqi 21) (sqi 25) (fun ρ w hc h h' => ⟨_, by simp [execOp, go_sem, h, h'], rfl⟩)
 intro L vs w10 nb hL hC hn E10
 have e1 := wXi hC 1
 have e3 := wXi hC 3
 have e4 := wXi hC 4
 have e5 := wXi hC 5
 have e6 := wXi hC 6
 have e7 := wXi hC 7
 have e8 := wXi hC 8
 have e9 := wXi hC 9
 have e10 := wXi hC 10
 have e11 := wXi hC 11
 have e12 := wXi hC 12
 have e13 := wXi hC 13
 have e14 := wXi hC 14
 have e15 := wXi hC 15
 have e18 := wXi hC 18
 have e19 := wXi hC 19
 have e20 := wXi hC 20
 have e21 := wXi hC 21
 have e24 := wXi hC 24
 have e25 := wXi hC 25
 have e26 := wXi hC 26
 have E := E10; try simp only [LM, zAc] at E
 rw [zAe hL]
 simp only [SP, Nat.zero_add, Nat.reduceAdd]
 rw [e1, e3, e4, e5, e6, e7, e8, e9, e10, e11, e12, e13, e14, e15, e18, e19, e20, e21, e24, e25, e26]
 generalize vs 0 = u10_0
 generalize vs 2 = u10_2
 generalize vs 16 = u10_16
 generalize vs 17 = u10_17
 generalize vs 22 = u10_22
 generalize vs 23 = u10_23
 clear e1 e3 e4 e5 e6 e7 e8 e9 e10 e11 e12 e13 e14 e15 e18 e19 e20 e21 e24 e25 e26 hC hn E10 hL vs L nb
 go_upto_region 11 with (fail)
 have B11 : Hid (ab (4) < pw 3) := (zAw (by decide) (by decide))
 have B12 : Hid (ab ((b * b)) < pw 6) := zAr Bb.out Bb.out (by omega)
 have B13 : Hid (ab ((a * c)) < pw 6) := zAr Ba.out Bc.out (by omega)
 have B14 : Hid (ab ((4 * (a * c))) < pw 9) := zAr B11.out B13.out (by omega)
 have B15 : Hid (ab (((b * b) - (4 * (a * c)))) < pw 10) := zCe B12.out B14.out (by omega) (by omega)
 refine rg [Fq.st [.n a, .n b, .n c], Fq.num ((b * b) - (4 * (a * c))), Fq.st [.n a, .n b, .n c], Fq.num ((b * b) - (4 * (a * c))), yT, yF, yF, Fq.st [.n a, .n b, .n c], Fq.is (.bool tt), Fq.st [.n a, .n b, .n c], Fq.is (.bool tt), yF, yF, yF, Fq.st [.n a, .n b, .n c], Fq.is (.bool t2), Fq.st [.n a, .n b, .n c], Fq.is (.bool t2), yF, yF, yF, Fq.st [.n a, .n b, .n c], ip b5_7 0, Fq.num x1, ip b5_7 2, Fq.num x2, Fq.num (qv a b c x1 x2), Fq.st [.n a, .n b, .n c], ip b5_7 0, Fq.num x1, ip b5_7 2, Fq.num x2, Fq.num (qv a b c x1 x2), yT, yF, yF] N9 [] E (fun hp => ⟨?_, ?_, ?_, ?_, ?_, ?_, ?_, ?_, ?_, ?_, ?_, ?_, ?_, ?_, ?_, ?_, ?_, ?_, ?_, ?_, ?_, ?_, ?_, ?_, ?_, ?_, ?_, ?_, ?_, ?_, ?_, ?_, ?_, ?_, ?_, ?_, tv⟩) ?_
 ·exact lS 0 6 hp (mq 4 rfl) zAn (sqo 6)
 ·exact wXa (Fq.st [.n a, .n b, .n c]) hp zD7 (sqi 0) fun v w h => zD8 h (Int.lt_of_lt_of_le Ba.out (zAa (by omega))) (Int.lt_of_lt_of_le Bb.out (zAa (by omega))) (Int.lt_of_lt_of_le Bc.out (zAa (by omega)))
 ·exact lS 0 6 hp (mq 4 rfl) zAn (sqo 6)
 ·exact wXa (Fq.st [.n a, .n b, .n c]) hp zDv (sqi 2) fun v w h => zDx h (Int.lt_of_lt_of_le Ba.out (zAa (by omega))) (Int.lt_of_lt_of_le Bb.out (zAa (by omega))) (Int.lt_of_lt_of_le Bc.out (zAa (by omega)))
 ·exact wXb (Fq.num ((b * b) - (4 * (a * c)))) (Fq.num ((b * b) - (4 * (a * c)))) hp zBc (sqi 1) (sqi 3) fun v v' w h h' => zBd h h' (decide_eq_true rfl)
 ·exact zAf (F := fun v _ => v = .bool true) hp fo tv (sqi 4) (fun ρ w _ h => ⟨.bool false, by simp [execOp, go_sem, h], rfl⟩)
 ·exact zAd hp fo tv (sqi 5)
 ·exact lG 0 6 hp gqi (mq 4 rfl) zAn (sqo 6) fun v w h => h
 ·exact zAm (F := (Fq.st [.n a, .n b, .n c]).P) hp fo gqi (zMk) (sqi 7) (fun v w h => zNd h (Int.lt_of_lt_of_le Ba.out (zAa (by omega))) (Int.lt_of_lt_of_le Bb.out (zAa (by omega))) (Int.lt_of_lt_of_le Bc.out (zAa (by omega))) HTT.out)
 ·exact lG 0 6 hp gqi (mq 4 rfl) zAn (sqo 6) fun v w h => h
 ·exact zAm (F := (Fq.st [.n a, .n b, .n c]).P) hp fo gqi (zMh) (sqi 9) (fun v w h => zNv h (Int.lt_of_lt_of_le Ba.out (zAa (by omega))) (Int.lt_of_lt_of_le Bb.out (zAa (by omega))) (Int.lt_of_lt_of_le Bc.out (zAa (by omega))) HTT.out)
 ·exact zAg (F := fun v _ => v = .bool tt) (G := fun v _ => v = .bool tt) hp fo gqi (sqi 8) (sqi 10) (fun ρ w hc h h' => ⟨.bool false, by simp [execOp, go_sem, h, h'], rfl⟩)
 ·exact zAg (F := fun v _ => v = .bool false) (G := fun v _ => v = .bool false) hp fo tv (sqi 6) (sqi 11) (fun ρ w hc h h' => ⟨_, by simp [execOp, go_sem, h, h'], rfl⟩)
 ·exact zAd hp fo tv (sqi 12)
 ·exact lG 0 6 hp gqi (mq 4 rfl) zAn (sqo 6) fun v w h => h
 ·exact zAm (F := (Fq.st [.n a, .n b, .n c]).P) hp fo gqi (zH6) (sqi 14) (fun v w h => zIh h (Int.lt_of_lt_of_le Ba.out (zAa (by omega))) (Int.lt_of_lt_of_le Bb.out (zAa (by omega))) (Int.lt_of_lt_of_le Bc.out (zAa (by omega))) HT2.out)
 ·exact lG 0 6 hp gqi (mq 4 rfl) zAn (sqo 6) fun v w h => h
 ·exact zAm (F := (Fq.st [.n a, .n b, .n c]).P) hp fo gqi (zFm) (sqi 16) (fun v w h => zFn h (Int.lt_of_lt_of_le Ba.out (zAa (by omega))) (Int.lt_of_lt_of_le Bb.out (zAa (by omega))) (Int.lt_of_lt_of_le Bc.out (zAa (by omega))) HT2.out)
 ·exact zAg (F := fun v _ => v = .bool t2) (G := fun v _ => v = .bool t2) hp fo gqi (sqi 15) (sqi 17) (fun ρ w hc h h' => ⟨.bool false, by simp [execOp, go_sem, h, h'], rfl⟩)
 ·exact zAg (F := fun v _ => v = .bool false) (G := fun v _ => v = .bool false) hp fo tv (sqi 13) (sqi 18) (fun ρ w hc h h' => ⟨_, by simp [execOp, go_sem, h, h'], rfl⟩)
 ·exact zAd hp fo tv (sqi 19)
 ·exact lG 0 6 hp gqi (mq 4 rfl) zAn (sqo 6) fun v w h => h
 ·exact zAl (b := b5_7) (off := 0) (off' := 0) hp fo gqi (sqo 7) (fun ρ w h => by simp [execOp, go_sem, h]) (fun _ => rfl)
 ·exact lG 0 2 hp gqi (mq 5 rfl) zAb (sqi 22) fun v w h => zAk h
 ·exact zAl (b := b5_7) (off := 0) (off' := 2) hp fo gqi (sqo 7) (fun ρ w h => by simp [execOp, go_sem, h]) (fun _ => rfl)
 ·exact lG 2 2 hp gqi (mq 5 rfl) zAb (sqi 24) fun v w h => zAk h
 ·exact zCj (F := (Fq.st [.n a, .n b, .n c]).P) (G := (Fq.num x1).P) (F3 := (Fq.num x2).P) hp fo gqi (zH8) (sqi 21) (sqi 23) (sqi 25) (fun v v' u w h h' g => zIk h h' g (Int.lt_of_lt_of_le Ba.out (zAa (by omega))) (Int.lt_of_lt_of_le Bb.out (zAa (by omega))) (Int.lt_of_lt_of_le Bc.out (zAa (by omega))) (Int.lt_of_lt_of_le Bx1.out (zAa (by omega))) (Int.lt_of_lt_of_le Bx2.out (zAa (by omega))))
 ·exact lG 0 6 hp gqi (mq 4 rfl) zAn (sqo 6) fun v w h => h
 ·exact zAl (b := b5_7) (off := 0) (off' := 0) hp fo gqi (sqo 7) (fun ρ w h => by simp [execOp, go_sem, h]) (fun _ => rfl)
 ·exact lG 0 2 hp gqi (mq 5 rfl) zAb (sqi 28) fun v w h => zAk h
 ·exact zAl (b := b5_7) (off := 0) (off' := 2) hp fo gqi (sqo 7) (fun ρ w h => by simp [execOp, go_sem, h]) (fun _ => rfl)
 ·exact lG 2 2 hp gqi (mq 5 rfl) zAb (sqi 30) fun v w h => zAk h
 ·exact zCj (F := (Fq.st [.n a, .n b, .n c]).P) (G := (Fq.num x1).P) (F3 := (Fq.num x2).P) hp fo gqi (zH3) (sqi 27) (sqi 29) (sqi 31) (fun v v' u w h h' g => zIn h h' g (Int.lt_of_lt_of_le Ba.out (zAa (by omega))) (Int.lt_of_lt_of_le Bb.out (zAa (by omega))) (Int.lt_of_lt_of_le Bc.out (zAa (by omega))) (Int.lt_of_lt_of_le Bx1.out (zAa (by omega))) (Int.lt_of_lt_of_le Bx2.out (zAa (by omega))))
 ·exact zAs (F := (Fq.num (qv a b c x1 x2)).P) (G := (Fq.num (qv a b c x1 x2)).P) hp fo gqi (zBc) (sqi 26) (sqi 32) (fun v v' w h h' => zBd h h' (decide_eq_true rfl))
 ·exact zAf (F := fun v _ => v = .bool true) hp fo gqi (sqi 33) (fun ρ w _ h => ⟨.bool false, by simp [execOp, go_sem, h], rfl⟩)
 ·exact zAg (F := fun v _ => v = .bool false) (G := fun v _ => v = .bool false) hp fo tv (sqi 20) (sqi 34) (fun ρ w hc h h' => ⟨_, by simp [execOp, go_sem, h, h'], rfl⟩)
 intro L vs w16 nb hL hC hn E16
 have e4 := wXi hC 4
 have e5 := wXi hC 5
 have e6 := wXi hC 6
 have e8 := wXi hC 8
 have e10 := wXi hC 10
 have e11 := wXi hC 11
 have e12 := wXi hC 12
 have e13 := wXi hC 13
 have e15 := wXi hC 15
 have e17 := wXi hC 17
 have e18 := wXi hC 18
 have e19 := wXi hC 19
 have e20 := wXi hC 20
 have e22 := wXi hC 22
 have e24 := wXi hC 24
 have e28 := wXi hC 28
 have e30 := wXi hC 30
 have e33 := wXi hC 33
 have e34 := wXi hC 34
 have e35 := wXi hC 35
 have E := E16; try simp only [LM, zAc] at E
 rw [zAe hL]
 simp only [SP, Nat.zero_add, Nat.reduceAdd]
 rw [e4, e5, e6, e8, e10, e11, e12, e13, e15, e17, e18, e19, e20, e22, e24, e28, e30, e33, e34, e35]
 generalize vs 0 = u16_0
 generalize vs 1 = u16_1
 generalize vs 2 = u16_2
 generalize vs 3 = u16_3
 generalize vs 7 = u16_7
 generalize vs 9 = u16_9
 generalize vs 14 = u16_14
 generalize vs 16 = u16_16
 generalize vs 21 = u16_21
 generalize vs 23 = u16_23
 generalize vs 25 = u16_25
 generalize vs 26 = u16_26
 generalize vs 27 = u16_27
 generalize vs 29 = u16_29
 generalize vs 31 = u16_31
 generalize vs 32 = u16_32
 clear e4 e5 e6 e8 e10 e11 e12 e13 e15 e17 e18 e19 e20 e22 e24 e28 e30 e33 e34 e35 hC hn E16 hL vs L nb
 go_upto_region 13 with (fail)
 have B17 : Hid (ab ((x1 * x4)) < pw 6) := zAr Bx1.out Bx4.out (by omega)
 have B18 : Hid (ab ((x2 * x3)) < pw 6) := zAr Bx2.out Bx3.out (by omega)
 have B19 : Hid (ab (((x1 * x4) - (x2 * x3))) < pw 7) := zCe B17.out B18.out (by omega) (by omega)
 have B20 : Hid (ab ((x1 * y1)) < pw 6) := zAr Bx1.out By1.out (by omega)
 have B21 : Hid (ab ((x2 * y3)) < pw 6) := zAr Bx2.out By3.out (by omega)
 have B22 : Hid (ab (((x1 * y1) + (x2 * y3))) < pw 7) := zA9 B20.out B21.out (by omega) (by omega)
 have B23 : Hid (ab ((x1 * y2)) < pw 6) := zAr Bx1.out By2.out (by omega)
 have B24 : Hid (ab ((x2 * y4)) < pw 6) := zAr Bx2.out By4.out (by omega)
 have B25 : Hid (ab (((x1 * y2) + (x2 * y4))) < pw 7) := zA9 B23.out B24.out (by omega) (by omega)
 have B26 : Hid (ab ((x3 * y1)) < pw 6) := zAr Bx3.out By1.out (by omega)
 have B27 : Hid (ab ((x4 * y3)) < pw 6) := zAr Bx4.out By3.out (by omega)
 have B28 : Hid (ab (((x3 * y1) + (x4 * y3))) < pw 7) := zA9 B26.out B27.out (by omega) (by omega)
 have B29 : Hid (ab ((x3 * y2)) < pw 6) := zAr Bx3.out By2.out (by omega)
 have B30 : Hid (ab ((x4 * y4)) < pw 6) := zAr Bx4.out By4.out (by omega)
 have B31 : Hid (ab (((x3 * y2) + (x4 * y4))) < pw 7) := zA9 B29.out B30.out (by omega) (by omega)
 refine rg [Fq.st [.n a, .n b, .n c], Fq.st [.n x1, .n x2, .n x3, .n x4], Fq.st [.n (qv a b c x1 x3), .n (qm a b c x1 x2 x3 x4), .n (qv a b c x2 x4)], Fq.st [.n a, .n b, .n c], Fq.st [.n x1, .n x2, .n x3, .n x4], Fq.st [.n (qv a b c x1 x3), .n (qm a b c x1 x2 x3 x4), .n (qv a b c x2 x4)], yT, yT, Fq.st [.n x1, .n x2, .n x3, .n x4], Fq.num ((x1 * x4) - (x2 * x3)), Fq.st [.n x1, .n x2, .n x3, .n x4], Fq.num ((x1 * x4) - (x2 * x3)), yT, yT, yT, Fq.st [.n x1, .n x2, .n x3, .n x4], Fq.st [.n y1, .n y2, .n y3, .n y4], Fq.st [.n ((x1 * y1) + (x2 * y3)), .n ((x1 * y2) + (x2 * y4)), .n ((x3 * y1) + (x4 * y3)), .n ((x3 * y2) + (x4 * y4))], Fq.st [.n x1, .n x2, .n x3, .n x4], Fq.st [.n y1, .n y2, .n y3, .n y4], Fq.st [.n ((x1 * y1) + (x2 * y3)), .n ((x1 * y2) + (x2 * y4)), .n ((x3 * y1) + (x4 * y3)), .n ((x3 * y2) + (x4 * y4))], yT, yT, yT, yT, yT, yT] N9 [] E (fun hp => ⟨?_, ?_, ?_, ?_, ?_, ?_, ?_, ?_, ?_, ?_, ?_, ?_, ?_, ?_, ?_, ?_, ?_, ?_, ?_, ?_, ?_, ?_, ?_, ?_, ?_, ?_, ?_, tv⟩) ?_
 ·exact lS 0 6 hp (mq 4 rfl) zAn (sqo 6)
 ·exact lS 0 8 hp (mq 5 rfl) zBj (sqo 7)
 ·exact wXb (Fq.st [.n a, .n b, .n c]) (Fq.st [.n x1, .n x2, .n x3, .n x4]) hp zH4 (sqi 0) (sqi 1) fun v v' w h h' => zId h h' (Int.lt_of_lt_of_le Ba.out (zAa (by omega))) (Int.lt_of_lt_of_le Bb.out (zAa (by omega))) (Int.lt_of_lt_of_le Bc.out (zAa (by omega))) (Int.lt_of_lt_of_le Bx1.out (zAa (by omega))) (Int.lt_of_lt_of_le Bx2.out (zAa (by omega))) (Int.lt_of_lt_of_le Bx3.out (zAa (by omega))) (Int.lt_of_lt_of_le Bx4.out (zAa (by omega)))
 ·exact lS 0 6 hp (mq 4 rfl) zAn (sqo 6)
 ·exact lS 0 8 hp (mq 5 rfl) zBj (sqo 7)
 ·exact wXb (Fq.st [.n a, .n b, .n c]) (Fq.st [.n x1, .n x2, .n x3, .n x4]) hp zH0 (sqi 3) (sqi 4) fun v v' w h h' => zIl h h' (Int.lt_of_lt_of_le Ba.out (zAa (by omega))) (Int.lt_of_lt_of_le Bb.out (zAa (by omega))) (Int.lt_of_lt_of_le Bc.out (zAa (by omega))) (Int.lt_of_lt_of_le Bx1.out (zAa (by omega))) (Int.lt_of_lt_of_le Bx2.out (zAa (by omega))) (Int.lt_of_lt_of_le Bx3.out (zAa (by omega))) (Int.lt_of_lt_of_le Bx4.out (zAa (by omega)))
 ·exact wXb (Fq.st [.n (qv a b c x1 x3), .n (qm a b c x1 x2 x3 x4), .n (qv a b c x2 x4)]) (Fq.st [.n (qv a b c x1 x3), .n (qm a b c x1 x2 x3 x4), .n (qv a b c x2 x4)]) hp zEk (sqi 2) (sqi 5) fun v v' w h h' => zEl h h' (zIc ..)
 ·exact zAd hp fo tv (sqi 6)
 ·exact lG 0 8 hp gqi (mq 5 rfl) zBj (sqo 7) fun v w h => h
 ·exact zAm (F := (Fq.st [.n x1, .n x2, .n x3, .n x4]).P) hp fo gqi (zMj) (sqi 8) (fun v w h => exPDet h (Int.lt_of_lt_of_le Bx1.out (zAa (by omega))) (Int.lt_of_lt_of_le Bx2.out (zAa (by omega))) (Int.lt_of_lt_of_le Bx3.out (zAa (by omega))) (Int.lt_of_lt_of_le Bx4.out (zAa (by omega))))
 ·exact lG 0 8 hp gqi (mq 5 rfl) zBj (sqo 7) fun v w h => h
 ·exact zAm (F := (Fq.st [.n x1, .n x2, .n x3, .n x4]).P) hp fo gqi (zJ8) (sqi 10) (fun v w h => exQDet h (Int.lt_of_lt_of_le Bx1.out (zAa (by omega))) (Int.lt_of_lt_of_le Bx2.out (zAa (by omega))) (Int.lt_of_lt_of_le Bx3.out (zAa (by omega))) (Int.lt_of_lt_of_le Bx4.out (zAa (by omega))))
 ·exact zAs (F := (Fq.num ((x1 * x4) - (x2 * x3))).P) (G := (Fq.num ((x1 * x4) - (x2 * x3))).P) hp fo gqi (zBc) (sqi 9) (sqi 11) (fun v v' w h h' => zBd h h' (decide_eq_true rfl))
 ·exact zAg (F := fun v _ => v = .bool true) (G := fun v _ => v = .bool true) hp fo tv (sqi 7) (sqi 12) (fun ρ w hc h h' => ⟨_, by simp [execOp, go_sem, h, h'], rfl⟩)
 ·exact zAd hp fo tv (sqi 13)
 ·exact lG 0 8 hp gqi (mq 5 rfl) zBj (sqo 7) fun v w h => h
 ·exact lG 0 8 hp gqi (mq 6 rfl) zBj (sqo 8) fun v w h => h
 ·exact zAs (F := (Fq.st [.n x1, .n x2, .n x3, .n x4]).P) (G := (Fq.st [.n y1, .n y2, .n y3, .n y4]).P) hp fo gqi (zH7) (sqi 15) (sqi 16) (fun v v' w h h' => zIi h h' (Int.lt_of_lt_of_le Bx1.out (zAa (by omega))) (Int.lt_of_lt_of_le Bx2.out (zAa (by omega))) (Int.lt_of_lt_of_le Bx3.out (zAa (by omega))) (Int.lt_of_lt_of_le Bx4.out (zAa (by omega))) (Int.lt_of_lt_of_le By1.out (zAa (by omega))) (Int.lt_of_lt_of_le By2.out (zAa (by omega))) (Int.lt_of_lt_of_le By3.out (zAa (by omega))) (Int.lt_of_lt_of_le By4.out (zAa (by omega))))
 ·exact lG 0 8 hp gqi (mq 5 rfl) zBj (sqo 7) fun v w h => h
 ·exact lG 0 8 hp gqi (mq 6 rfl) zBj (sqo 8) fun v w h => h
 ·exact zAs (F := (Fq.st [.n x1, .n x2, .n x3, .n x4]).P) (G := (Fq.st [.n y1, .n y2, .n y3, .n y4]).P) hp fo gqi (zH2) (sqi 18) (sqi 19) (fun v v' w h h' => zIm h h' (Int.lt_of_lt_of_le Bx1.out (zAa (by omega))) (Int.lt_of_lt_of_le Bx2.out (zAa (by omega))) (Int.lt_of_lt_of_le Bx3.out (zAa (by omega))) (Int.lt_of_lt_of_le Bx4.out (zAa (by omega))) (Int.lt_of_lt_of_le By1.out (zAa (by omega))) (Int.lt_of_lt_of_le By2.out (zAa (by omega))) (Int.lt_of_lt_of_le By3.out (zAa (by omega))) (Int.lt_of_lt_of_le By4.out (zAa (by omega))))
 ·exact zAs (F := (Fq.st [.n ((x1 * y1) + (x2 * y3)), .n ((x1 * y2) + (x2 * y4)), .n ((x3 * y1) + (x4 * y3)), .n ((x3 * y2) + (x4 * y4))]).P) (G := (Fq.st [.n ((x1 * y1) + (x2 * y3)), .n ((x1 * y2) + (x2 * y4)), .n ((x3 * y1) + (x4 * y3)), .n ((x3 * y2) + (x4 * y4))]).P) hp fo gqi (zMd) (sqi 17) (sqi 20) (fun v v' w h h' => exSameMat h h' (eqM_refl ..))
 ·exact zAg (F := fun v _ => v = .bool true) (G := fun v _ => v = .bool true) hp fo tv (sqi 14) (sqi 21) (fun ρ w hc h h' => ⟨_, by simp [execOp, go_sem, h, h'], rfl⟩)
 ·exact zAd hp fo tv (sqi 22)
 ·exact zAd hp fo gqi (sqo 5)
 ·exact zAg (F := fun v _ => v = .bool true) (G := fun v _ => v = .bool true) hp fo tv (sqi 23) (sqi 24) (fun ρ w hc h h' => ⟨_, by simp [execOp, go_sem, h, h'], rfl⟩)
 ·exact zAh hp fo tv (sqi 25)
 intro L vs w32 nb hL hC hn E32
 have e6 := wXi hC 6
 have e7 := wXi hC 7
 have e12 := wXi hC 12
 have e13 := wXi hC 13
 have e14 := wXi hC 14
 have e21 := wXi hC 21
 have e22 := wXi hC 22
 have e23 := wXi hC 23
 have e24 := wXi hC 24
 have e25 := wXi hC 25
 have e26 := wXi hC 26
 have E := E32; try simp only [LM, zAc] at E
 rw [zAe hL]
 simp only [SP, Nat.zero_add, Nat.reduceAdd]
 rw [e6, e7, e12, e13, e14, e21, e22, e23, e24, e25, e26]
 generalize vs 0 = u32_0
 generalize vs 1 = u32_1
 generalize vs 2 = u32_2
 generalize vs 3 = u32_3
 generalize vs 4 = u32_4
 generalize vs 5 = u32_5
 generalize vs 8 = u32_8
 generalize vs 9 = u32_9
 generalize vs 10 = u32_10
 generalize vs 11 = u32_11
 generalize vs 15 = u32_15
 generalize vs 16 = u32_16
 generalize vs 17 = u32_17
 generalize vs 18 = u32_18
 generalize vs 19 = u32_19
 generalize vs 20 = u32_20
 clear e6 e7 e12 e13 e14 e21 e22 e23 e24 e25 e26 hC hn E32 hL vs L nb
 clear Ea HK1 Eb HK2 Ec HK3 Ex1 HK4 Ex2 HK5 Ex3 HK6 Ex4 HK7 Ey1 HK11 Ey2 HK12 Ey3 HK13 Ey4 HK14 EI HER HCE HTT HT2 HPA HPB HPC HPE Q1 Q2
 clear B11 B12 B13 B14 B15 B17 B18 B19 B20 B21 B22 B23 B24 B25 B26 B27 B28 B29 B30 B31 Ba Bb Bc Bx1 Bx2 Bx3 Bx4 By1 By2 By3 By4 BI
 go_wp2
 refine bodyPost_ret (v := .bool true) ?_ rfl ⟨_, rfl, E.below, rfl⟩
 simp [results, Tryz.results3, go_sem]

theorem zLz (w : World) (n1 : Bool) (a1 : Option Addr) (k1 c1 : Nat) (xs1 : List Int) (h1 : Sl w a1 k1 c1 xs1) (hk1 : k1 ≤ 9223372036854775807) (n2 : Bool) (a2 : Option Addr) (k2 c2 : Nat) (xs2 : List Int) (h2 : Sl w a2 k2 c2 xs2) (hk2 : k2 ≤ 9223372036854775807) (n3 : Bool) (a3 : Option Addr) (k3 c3 : Nat) (xs3 : List Int) (h3 : Sl w a3 k3 c3 xs3) (hk3 : k3 ≤ 9223372036854775807) (n4 : Bool) (a4 : Option Addr) (k4 c4 : Nat) (xs4 : List Int) (h4 : Sl w a4 k4 c4 xs4) (hk4 : k4 ≤ 9223372036854775807) (n5 : Bool) (a5 : Option Addr) (k5 c5 : Nat) (xs5 : List Int) (h5 : Sl w a5 k5 c5 xs5) (hk5 : k5 ≤ 9223372036854775807) (n6 : Bool) (a6 : Option Addr) (k6 c6 : Nat) (xs6 : List Int) (h6 : Sl w a6 k6 c6 xs6) (hk6 : k6 ≤ 9223372036854775807) (n7 : Bool) (a7 : Option Addr) (k7 c7 : Nat) (xs7 : List Int) (h7 : Sl w a7 k7 c7 xs7) (hk7 : k7 ≤ 9223372036854775807) (n8 : Bool) (a8 : Option Addr) (k8 c8 : Nat) (xs8 : List Int) (h8 : Sl w a8 k8 c8 xs8) (hk8 : k8 ≤ 9223372036854775807) (n9 : Bool) (a9 : Option Addr) (k9 c9 : Nat) (xs9 : List Int) (h9 : Sl w a9 k9 c9 xs9) (hk9 : k9 ≤ 9223372036854775807) (n10 : Bool) (a10 : Option Addr) (k10 c10 : Nat) (xs10 : List Int) (h10 : Sl w a10 k10 c10 xs10) (hk10 : k10 ≤ 9223372036854775807) (n11 : Bool) (a11 : Option Addr) (k11 c11 : Nat) (xs11 : List Int) (h11 : Sl w a11 k11 c11 xs11) (hk11 : k11 ≤ 9223372036854775807) (n12 : Bool) (a12 : Option Addr) (k12 c12 : Nat) (xs12 : List Int) (h12 : Sl w a12 k12 c12 xs12) (hk12 : k12 ≤ 9223372036854775807) (n13 : Bool) (a13 : Option Addr) (k13 c13 : Nat) (xs13 : List Int) (h13 : Sl w a13 k13 c13 xs13) (hk13 : k13 ≤ 9223372036854775807) (n14 : Bool) (a14 : Option Addr) (k14 c14 : Nat) (xs14 : List Int) (h14 : Sl w a14 k14 c14 xs14) (hk14 : k14 ≤ 9223372036854775807) : Calls Tryz.prog 3 #[.agg #[.bool n1, .slice a1 k1 c1, .bool n2, .slice a2 k2 c2, .bool n3, .slice a3 k3 c3, .bool n4, .slice a4 k4 c4, .bool n5, .slice a5 k5 c5, .bool n6, .slice a6 k6 c6, .bool n7, .slice a7 k7 c7], .agg #[.bool n8, .slice a8 k8 c8, .bool n9, .slice a9 k9 c9, .bool n10, .slice a10 k10 c10, .bool n11, .slice a11 k11 c11, .bool n12, .slice a12 k12 c12, .bool n13, .slice a13 k13 c13, .bool n14, .slice a14 k14 c14]] w fun e w' => e = .returned (.bool true) ∧ Below w.heap.size w w' := by
 refine (zLy w n1 a1 k1 c1 xs1 h1 hk1 n2 a2 k2 c2 xs2 h2 hk2 n3 a3 k3 c3 xs3 h3 hk3 n4 a4 k4 c4 xs4 h4 hk4 n5 a5 k5 c5 xs5 h5 hk5 n6 a6 k6 c6 xs6 h6 hk6 n7 a7 k7 c7 xs7 h7 hk7 n8 a8 k8 c8 xs8 h8 hk8 n9 a9 k9 c9 xs9 h9 hk9 n10 a10 k10 c10 xs10 h10 hk10 n11 a11 k11 c11 xs11 h11 hk11 n12 a12 k12 c12 xs12 h12 hk12 n13 a13 k13 c13 xs13 h13 hk13 n14 a14 k14 c14 xs14 h14 hk14).mono ?_
 rintro e w' ⟨v', rfl, hb, rfl⟩
 exact ⟨rfl, hb⟩

end Go.Proofs.YtdhkhedhnolcjaaGreat
