/- Up. -/
import Derived.Test.YtdhkhedhnolcjaaCe5
set_option linter.unusedSimpArgs false
set_option linter.unusedVariables false
namespace Go.Proofs.Ytdhkhedhnolcjaa
open Go Go.RowKit

theorem six {us : List Value} (h : us.length = 6) : ∃ a b c d e f, us = [a, b, c, d, e, f] := by
 match us, h with
 | [a, b, c, d, e, f], _ => exact ⟨a, b, c, d, e, f, rfl⟩
section
variable {os : List Oper} {Q : Exit → Act → World → Prop} {a : Act} {p : Pq} {B B0 : Nat} {w0 : World}
variable {i s : Nat} {d : Option Tmp} {ty : TypeId} {ps : String} {af : Array Edge} {gd : Option (Nat × Bool)}
theorem zLa {n0 : Nb} {o1 o2 o3 o4 : Operand} {f1 f2 f3 f4 : List Fd} (hp : p.Ok B B0) (hg : GdQ os a p B B0 w0 af gd) (hi : n0 ∈ p.new) (hii : n0.i = i) (hki : n0.k = i) (hsl : n0.s = some 4) (hm : n0.m = 24) (hF1 : n0.F1 = Fq.st (f1 ++ (f2 ++ (f3 ++ f4)))) (l1 : sz f1 = 6) (l2 : sz f2 = 6) (l3 : sz f3 = 6) (l4 : sz f4 = 6)
  (g1 : SrcQ os a p B B0 w0 af o1 (Fq.st f1).P) (g2 : SrcQ os a p B B0 w0 af o2 (Fq.st f2).P) (g3 : SrcQ os a p B B0 w0 af o3 (Fq.st f3).P) (g4 : SrcQ os a p B B0 w0 af o4 (Fq.st f4).P)
  (hC : ∀ v w', (p.c i).P v w') (h1 : ∀ o ∈ p.old, o.k ≠ i) (h2 : ∀ n ∈ p.new, n.i ≠ i → n.k ≠ i) :
  zAm os Q a p B B0 w0 i { dst := d, op := .buildSlice 77 4 #[(0, o1), (1, o2), (2, o3), (3, o4)], type := ty, pos := ps, after := af, guard := gd } := by
 intro hio L vs w hG hL hd hc
 obtain ⟨us1, E1, z1⟩ := g1 L vs w hG hd
 have y1 := z1.length
 rw [l1] at y1
 obtain ⟨c1a, c1b, c1c, c1d, c1e, c1f, rfl⟩ := six y1
 obtain ⟨us2, E2, z2⟩ := g2 L vs w hG hd
 have y2 := z2.length
 rw [l2] at y2
 obtain ⟨c2a, c2b, c2c, c2d, c2e, c2f, rfl⟩ := six y2
 obtain ⟨us3, E3, z3⟩ := g3 L vs w hG hd
 have y3 := z3.length
 rw [l3] at y3
 obtain ⟨c3a, c3b, c3c, c3d, c3e, c3f, rfl⟩ := six y3
 obtain ⟨us4, E4, z4⟩ := g4 L vs w hG hd
 have y4 := z4.length
 rw [l4] at y4
 obtain ⟨c4a, c4b, c4c, c4d, c4e, c4f, rfl⟩ := six y4
 obtain ⟨us, hus⟩ : ∃ us : List Value, us = [c1a, c1b, c1c, c1d, c1e, c1f, c2a, c2b, c2c, c2d, c2e, c2f, c3a, c3b, c3c, c3d, c3e, c3f, c4a, c4b, c4c, c4d, c4e, c4f] := ⟨_, rfl⟩
 refine wpOp_step hio fun K' hK => ?_
 rw [if_pos (zEp (o := { dst := d, op := .buildSlice 77 4 #[(0, o1), (1, o2), (2, o3), (3, o4)], type := ty, pos := ps, after := af, guard := gd }) hg hG hd)]
 have e : (execOp (lay os.toArray L vs os.toArray.size a).eval ({ dst := d, op := .buildSlice 77 4 #[(0, o1), (1, o2), (2, o3), (3, o4)], type := ty, pos := ps, after := af, guard := gd } : Oper)).run Try.prog w = .ok (.value (.slice (some ⟨w.heap.size, 0, none⟩) 4 4)) (w.alloc (.cells us.toArray 33)) := by
  generalize (lay os.toArray L vs os.toArray.size a).eval = ρ at E1 E2 E3 E4
  simp [execOp, go_sem, E1, E2, E3, E4, hus]
 unfold Oper.wp
 rw [e]
 have hb := zBb w (.cells us.toArray 33)
 have hfit : Fits w (f1 ++ (f2 ++ (f3 ++ f4))) us := by rw [hus]; exact z1.append (z2.append (z3.append z4))
 subst hii
 have hnow : n0.now (up L n0.i true) = n0.F1 := by
  unfold Nb.now
  rw [hsl]
  rfl
 have hlay := hG.lay hp hi (F := n0.F1) hnow hC h1 h2 33 (us := us) (by rw [hus, hm]; rfl) (by omega) hfit.tame (by rw [hF1]; exact ⟨us, rfl, hfit.mono hb⟩)
 have hptr : n0.ptr w.heap.size = .slice (some ⟨w.heap.size, 0, none⟩) 4 4 := by unfold Nb.ptr; rw [hsl]
 rw [hptr] at hlay
 exact hK _ _ ⟨_, rfl, hlay⟩
theorem zK9 {n0 : Nb} {z1 z2 z3 z4 : Int} (hp : p.Ok B B0) (hg : GdQ os a p B B0 w0 af gd) (hi : n0 ∈ p.new) (hii : n0.i = i) (hki : n0.k = i) (hsl : n0.s = some 4) (hm : n0.m = 4) (hF1 : n0.F1 = Fq.st [.v (.int .i64 z1), .v (.int .i64 z2), .v (.int .i64 z3), .v (.int .i64 z4)])
  (hC : ∀ v w', (p.c i).P v w') (h1 : ∀ o ∈ p.old, o.k ≠ i) (h2 : ∀ n ∈ p.new, n.i ≠ i → n.k ≠ i) :
  zAm os Q a p B B0 w0 i { dst := d, op := .buildSlice 78 4 #[(0, .const (.int .i64 z1)), (1, .const (.int .i64 z2)), (2, .const (.int .i64 z3)), (3, .const (.int .i64 z4))], type := ty, pos := ps, after := af, guard := gd } := by
 intro hio L vs w hG hL hd hc
 obtain ⟨us, hus⟩ : ∃ us : List Value, us = [.int .i64 z1, .int .i64 z2, .int .i64 z3, .int .i64 z4] := ⟨_, rfl⟩
 refine wpOp_step hio fun K' hK => ?_
 rw [if_pos (zEp (o := { dst := d, op := .buildSlice 78 4 #[(0, .const (.int .i64 z1)), (1, .const (.int .i64 z2)), (2, .const (.int .i64 z3)), (3, .const (.int .i64 z4))], type := ty, pos := ps, after := af, guard := gd }) hg hG hd)]
 have e : (execOp (lay os.toArray L vs os.toArray.size a).eval ({ dst := d, op := .buildSlice 78 4 #[(0, .const (.int .i64 z1)), (1, .const (.int .i64 z2)), (2, .const (.int .i64 z3)), (3, .const (.int .i64 z4))], type := ty, pos := ps, after := af, guard := gd } : Oper)).run Try.prog w = .ok (.value (.slice (some ⟨w.heap.size, 0, none⟩) 4 4)) (w.alloc (.cells us.toArray 47)) := by
  simp [execOp, go_sem, hus]
 unfold Oper.wp
 rw [e]
 have hfit : ∀ w : World, Fits w [.v (.int .i64 z1), .v (.int .i64 z2), .v (.int .i64 z3), .v (.int .i64 z4)] us := fun w => by rw [hus]; exact ⟨_, rfl, rfl, _, rfl, rfl, _, rfl, rfl, _, rfl, rfl, rfl⟩
 subst hii
 have hnow : n0.now (up L n0.i true) = n0.F1 := by
  unfold Nb.now
  rw [hsl]
  rfl
 have hlay := hG.lay hp hi (F := n0.F1) hnow hC h1 h2 47 (us := us) (by rw [hus, hm]; rfl) (by omega) (hfit w).tame (by rw [hF1]; exact ⟨us, rfl, hfit _⟩)
 have hptr : n0.ptr w.heap.size = .slice (some ⟨w.heap.size, 0, none⟩) 4 4 := by unfold Nb.ptr; rw [hsl]
 rw [hptr] at hlay
 exact hK _ _ ⟨_, rfl, hlay⟩
theorem zLb (hp : p.Ok B B0) (hF : p.Free i) (hg : GdQ os a p B B0 w0 af gd) (hC : ∀ v w, (Fq.st [.v (.bool true), .v (.slice none 0 0)]).P v w → (p.c i).P v w) :
  zAm os Q a p B B0 w0 i { dst := d, op := .build 31 #[(0, .const (.bool true))], type := ty, pos := ps, after := af, guard := gd } := by
 refine zBf hp hF hg fun L vs w hG hL hc hd => ⟨.agg #[.bool true, .slice none 0 0], ?_, hC _ _ ⟨[.bool true, .slice none 0 0], rfl, _, rfl, rfl, _, rfl, rfl, rfl⟩⟩
 simp [execOp, go_sem]
theorem zLi {x0 x1 x2 : Operand} {z0 z2 : Int} (hp : p.Ok B B0) (hF : p.Free i) (hg : GdQ os a p B B0 w0 af gd) (h0 : SrcQ os a p B B0 w0 af x0 fun v w => Num w v z0) (h1 : SrcQ os a p B B0 w0 af x1 (Fq.st [.v (.bool true), .v (.slice none 0 0)]).P) (h2 : SrcQ os a p B B0 w0 af x2 fun v w => Num w v z2) (hC : ∀ v w, (Fq.st [.n z0, .v (.bool true), .v (.slice none 0 0), .n z2]).P v w → (p.c i).P v w) :
  zAm os Q a p B B0 w0 i { dst := d, op := .build 33 #[(0, x0), (1, x1), (2, x2)], type := ty, pos := ps, after := af, guard := gd } := by
 refine zBf hp hF hg fun L vs w hG hL hc hd => ?_
 have g0 := h0 L vs w hG hd
 obtain ⟨n0, ao0, k0, c0, e0⟩ := g0.parts
 have m0 : Num w (.agg #[.bool n0, .slice ao0 k0 c0]) z0 := by rw [← e0]; exact g0
 obtain ⟨_, e1, _, rfl, _, _, rfl, _, rfl⟩ := h1 L vs w hG hd
 have g2 := h2 L vs w hG hd
 obtain ⟨n2, ao2, k2, c2, e2⟩ := g2.parts
 have m2 : Num w (.agg #[.bool n2, .slice ao2 k2 c2]) z2 := by rw [← e2]; exact g2
 refine ⟨.agg #[.bool n0, .slice ao0 k0 c0, .bool true, .slice none 0 0, .bool n2, .slice ao2 k2 c2], ?_, hC _ _ ⟨_, rfl, _, _, _, rfl, m0, _, rfl, rfl, _, rfl, rfl, _, _, _, rfl, m2, rfl⟩⟩
 generalize (lay os.toArray L vs os.toArray.size a).eval = ρ at e0 e1 e2
 simp [execOp, go_sem, e0, e1, e2]
theorem zEj {x : Operand} {ad : Option Addr} {k c : Nat} (hp : p.Ok B B0) (hF : p.Free i) (hg : GdQ os a p B B0 w0 af gd) (hx : SrcQ os a p B B0 w0 af x fun v _ => v = .slice ad k c) (hC : ∀ w, (p.c i).P (.int .i64 k) w) :
  zAm os Q a p B B0 w0 i { dst := d, op := .call { callee := .builtin .len, args := #[x], argTypes := #[77] }, type := ty, pos := ps, after := af, guard := gd } :=
 zAf hp hF hg hx fun ρ w _ h => ⟨.int .i64 k, by simp [go_sem, h], hC w⟩
end
theorem exPValidW {w : World} {v : Value} (h : (Fq.st [.v (.bool true), .v (.slice none 0 0)]).P v w) : Calls Try.prog 71 #[v] w fun e w' => ∃ v', e = .returned v' ∧ Below w.heap.size w w' ∧ v' = .bool false := by
 obtain ⟨_, rfl, _, rfl, _, _, rfl, _, rfl⟩ := h
 refine (zHc w true none 0 0 [] (Sl.nil w) (by omega)).mono ?_
 rintro e w' ⟨rfl, hb⟩
 exact ⟨_, rfl, hb, rfl⟩
theorem zGv {a b c e : Int} (h : chkF a b c = e) (hn : ¬ e = 0) : redE a b c = e := by
 unfold redE
 rw [if_neg (fun x => hn (h.symm.trans x.1)), h]
theorem zFn {a b c e : Int} (h : redE a b c = e) (hn : ¬ e = 0) : (dfB a b c && redB a b c) = false ∧ redT a b c = ⟨0, 0, 0, 0, 0, 0, 0⟩ ∧ invT a b c = ⟨0, 0, 0, 0, 0, 0, 0⟩ ∧ sameB a b c a b c = false := by
 have h0 : ¬ redE a b c = 0 := by rw [h]; exact hn
 refine ⟨?_, zFm h0, ?_, ?_⟩
 ·rw [zFk, decide_eq_false h0]; rfl
 ·unfold invT; rw [if_neg h0]
 ·unfold sameB; rw [decide_eq_false h0]; rfl
theorem two_ab {z : Int} {k : Nat} (h : ab z < pw k) : ab (2 * z) < pw (k + 1) := Int.lt_of_lt_of_le (zBp (show ab (2 : Int) < pw 1 by decide) h) (zAb (by omega))
theorem succ_ab {z : Int} {k : Nat} (h : ab z < pw k) (hk : 0 < k) : ab (z + 1) < pw (k + 1) := zBr h (show ab (1 : Int) < pw 1 by decide) (by omega) (by omega)
theorem zJr (a b : Int) : chkF (a * a) (2 * (a * b)) (b * b) = 5 := by
 have e : (2 * (a * b)) * (2 * (a * b)) - 4 * ((a * a) * (b * b)) = 0 := by
  have e1 : (2 * (a * b)) * (2 * (a * b)) = 4 * ((a * b) * (a * b)) := by
   rw [Int.mul_assoc, Int.mul_left_comm (a * b) 2, ← Int.mul_assoc]
   rfl
  have e2 : (a * a) * (b * b) = (a * b) * (a * b) := by rw [Int.mul_assoc, Int.mul_left_comm a b b, ← Int.mul_assoc]
  rw [e1, e2]
  omega
 unfold chkF
 rw [e, if_pos (show sqB 0 = true from sqB_iff.2 ⟨0, rfl⟩)]
theorem chk_split (b c : Int) : chkF 0 b c = 5 := by
 unfold chkF
 rw [Int.zero_mul, Int.mul_zero, Int.sub_zero, if_pos (show sqB (b * b) = true from sqB_iff.2 ⟨b, rfl⟩)]
theorem zJq {p q : Int} (hp : 0 < p) (hq : 0 < q) : chkF (-p) 0 (-q) = 1 := by
 have h := Int.mul_pos hp hq
 refine zHl ?_ (by omega)
 rw [Int.neg_mul_neg]
 omega
set_option maxRecDepth 100000 in
set_option maxHeartbeats 4000000 in
theorem exPCheckW {w : World} {v : Value} {P : Int} (h : (Fq.st [.n P, .v (.bool true), .v (.slice none 0 0), .n P]).P v w) (hP : ab P < pw 15) :
  Calls Try.prog 36 #[v] w fun e w' => ∃ v', e = .returned v' ∧ Below w.heap.size w w' ∧ v' = .int .i64 1 := by
 replace hP := hidd hP
 obtain ⟨_, rfl, hf0⟩ := h
 have hF0 := hf0
 obtain ⟨y0_p0, y0_q0, _, rfl, _y0_n0, _, rfl, _, _, rfl, _, y0_p3, y0_q3, _, rfl, _y0_n3, rfl⟩ := hf0
 obtain ⟨w1, b1, hw1, hb1, hs1, E⟩ := gS w 33 hF0
 go_enter Try.func36, Try.ntmps36
 go_upto_region 1 with (fail)
 rw [← hw1]
 rw [← hb1]
 clear hw1 hb1 hs1
 refine rg [ip b1 0, Fq.num P, yT, yF, yF, ip b1 2, Fq.st [.v (.bool true), .v (.slice none 0 0)], yF, yT, yT, yT, Fq.is (undef), Fq.is (undef), Fq.is (undef), Fq.is (undef), yT] [none] [] E (fun hp => ⟨?_, ?_, ?_, ?_, ?_, ?_, ?_, ?_, ?_, ?_, ?_, ?_, ?_, ?_, ?_, ?_, tv⟩) ?_
 ·exact qa b1 0 0 hp (sqo 1)
 ·exact lN 0 2 hp (mq 0 rfl) zAg (sqi 0)
 ·exact wXa (Fq.num P) hp zBz (sqi 1) fun v w h => zB4 h
 ·exact zAf (F := fun v _ => v = .bool true) hp fo tv (sqi 2) (fun ρ w _ h => ⟨.bool false, by simp [execOp, go_sem, h], rfl⟩)
 ·exact zAa hp fo tv (sqi 3)
 ·exact zAv (b := b1) (off := 0) (off' := 2) hp fo gqi (sqo 1) (fun ρ w h => by simp [execOp, go_sem, h]) (fun _ => rfl)
 ·exact lG 2 2 hp gqi (mq 0 rfl) zAg (sqi 5) fun v w h => h
 ·exact zAn (F := (Fq.st [.v (.bool true), .v (.slice none 0 0)]).P) hp fo gqi (zBz) (sqi 6) (fun v w h => exPValidW h)
 ·exact zAf (F := fun v _ => v = .bool false) hp fo gqi (sqi 7) (fun ρ w _ h => ⟨.bool true, by simp [execOp, go_sem, h], rfl⟩)
 ·exact zAe (F := fun v _ => v = .bool false) (G := fun v _ => v = .bool true) hp fo tv (sqi 4) (sqi 8) (fun ρ w hc h h' => ⟨_, by simp [execOp, go_sem, h, h'], rfl⟩)
 ·exact zAa hp fo tv (sqi 9)
 ·exact zAj hp fo rfl gqi (fun _ => rfl)
 ·exact zAj hp fo rfl gqi (fun _ => rfl)
 ·exact zAj hp fo rfl gqi (fun _ => rfl)
 ·exact zAj hp fo rfl gqi (fun _ => rfl)
 ·exact zAe (F := fun v _ => v = .bool true) (G := fun v _ => v = .bool true) hp fo tv (sqi 10) (zAi (fun _ => rfl)) (fun ρ w hc h h' => ⟨_, by simp [execOp, go_sem, h, h'], rfl⟩)
 intro L vs w2 nb hL hC hn E2
 have e0 := wXi hC 0
 have e2 := wXi hC 2
 have e3 := wXi hC 3
 have e4 := wXi hC 4
 have e5 := wXi hC 5
 have e7 := wXi hC 7
 have e8 := wXi hC 8
 have e9 := wXi hC 9
 have e10 := wXi hC 10
 have e11 := wXi hC 11
 have e12 := wXi hC 12
 have e13 := wXi hC 13
 have e14 := wXi hC 14
 have e15 := wXi hC 15
 have E := E2; try simp only [LM, zAc] at E
 rw [zAd hL]
 simp only [SP, Nat.zero_add, Nat.reduceAdd]
 rw [e0, e2, e3, e4, e5, e7, e8, e9, e10, e11, e12, e13, e14, e15]
 generalize vs 1 = u2_1
 generalize vs 6 = u2_6
 clear e0 e2 e3 e4 e5 e7 e8 e9 e10 e11 e12 e13 e14 e15 hC hn E2 hL vs L nb
 go_upto_region 2 with (fail)
 refine rg [Fq.is (.int .i64 1)] [none] [] E (fun hp => ⟨?_, tv⟩) ?_
 ·exact zAh hp fo tv (zAi (fun _ => rfl))
 intro L vs w3 nb hL hC hn E3
 have e0 := wXi hC 0
 have E := E3; try simp only [LM, zAc] at E
 rw [zAd hL]
 simp only [SP, Nat.zero_add, Nat.reduceAdd]
 rw [e0]
 clear e0 hC hn E3 hL vs L nb
 clear hP
 go_wp2
 refine bodyPost_ret (v := .int .i64 1) ?_ rfl ⟨_, rfl, E.below, rfl⟩
 simp [results, Try.results36, go_sem]

set_option maxRecDepth 100000 in
set_option maxHeartbeats 4000000 in
theorem zJj (w : World) (n1 : Bool) (a1 : Option Addr) (k1 c1 : Nat) (xs1 : List Int) (h1 : Sl w a1 k1 c1 xs1) (hk1 : k1 ≤ 9223372036854775807) (n2 : Bool) (a2 : Option Addr) (k2 c2 : Nat) (xs2 : List Int) (h2 : Sl w a2 k2 c2 xs2) (hk2 : k2 ≤ 9223372036854775807) (n3 : Bool) (a3 : Option Addr) (k3 c3 : Nat) (xs3 : List Int) (h3 : Sl w a3 k3 c3 xs3) (hk3 : k3 ≤ 9223372036854775807) :
  Calls Try.prog 8 #[.agg #[.bool n1, .slice a1 k1 c1], .agg #[.bool n2, .slice a2 k2 c2], .agg #[.bool n3, .slice a3 k3 c3]] w fun e w' => ∃ v', e = .returned v' ∧ Below w.heap.size w w' ∧ v' = .bool true := by
 obtain ⟨a, ea⟩ : ∃ z, z = sgn n1 (val (xs1.take 2)) := ⟨_, rfl⟩
 have Ba : Hid (ab a < pw 2) := by show _ < _; rw [ea]; exact Int.lt_of_lt_of_le (Num.ofMade h1.digs) (zAb (by omega))
 have Ea := hidd ea
 have HK1 := hidd hk1
 clear ea hk1
 obtain ⟨b, eb⟩ : ∃ z, z = sgn n2 (val (xs2.take 2)) := ⟨_, rfl⟩
 have Bb : Hid (ab b < pw 2) := by show _ < _; rw [eb]; exact Int.lt_of_lt_of_le (Num.ofMade h2.digs) (zAb (by omega))
 have Eb := hidd eb
 have HK2 := hidd hk2
 clear eb hk2
 obtain ⟨c, ec⟩ : ∃ z, z = sgn n3 (val (xs3.take 2)) := ⟨_, rfl⟩
 have Bc : Hid (ab c < pw 2) := by show _ < _; rw [ec]; exact Int.lt_of_lt_of_le (Num.ofMade h3.digs) (zAb (by omega))
 have Ec := hidd ec
 have HK3 := hidd hk3
 clear ec hk3
 obtain ⟨A, eA⟩ : ∃ z, z = (a * a) := ⟨_, rfl⟩
 have BA : Hid (ab A < pw 4) := by show _ < _; rw [eA]; exact Int.lt_of_lt_of_le (zBp Ba.out Ba.out) (zAb (by omega))
 have EA := hidd eA
 clear eA
 obtain ⟨B, eB⟩ : ∃ z, z = (2 * (a * b)) := ⟨_, rfl⟩
 have BB : Hid (ab B < pw 5) := by show _ < _; rw [eB]; exact Int.lt_of_lt_of_le (two_ab (zBp Ba.out Bb.out)) (zAb (by omega))
 have EB := hidd eB
 clear eB
 obtain ⟨C, eC⟩ : ∃ z, z = (b * b) := ⟨_, rfl⟩
 have BC : Hid (ab C < pw 4) := by show _ < _; rw [eC]; exact Int.lt_of_lt_of_le (zBp Bb.out Bb.out) (zAb (by omega))
 have EC := hidd eC
 clear eC
 obtain ⟨P, eP⟩ : ∃ z, z = ((Int.natAbs a : Int) + 1) := ⟨_, rfl⟩
 have BP : Hid (ab P < pw 3) := by show _ < _; rw [eP]; exact succ_ab (zB2 Ba.out) (by omega)
 have EP := hidd eP
 clear eP
 obtain ⟨R, eR⟩ : ∃ z, z = ((Int.natAbs c : Int) + 1) := ⟨_, rfl⟩
 have BR : Hid (ab R < pw 3) := by show _ < _; rw [eR]; exact succ_ab (zB2 Bc.out) (by omega)
 have ER := hidd eR
 clear eR
 obtain ⟨N1, eN1⟩ : ∃ z, z = (-P) := ⟨_, rfl⟩
 have BN1 : Hid (ab N1 < pw 3) := by show _ < _; rw [eN1]; exact zC9 BP.out
 have EN1 := hidd eN1
 clear eN1
 obtain ⟨N2, eN2⟩ : ∃ z, z = (-R) := ⟨_, rfl⟩
 have BN2 : Hid (ab N2 < pw 3) := by show _ < _; rw [eN2]; exact zC9 BR.out
 have EN2 := hidd eN2
 clear eN2
 have K0 : Hid (chkF A B C = 5) := by show _ = _; rw [EA.out, EB.out, EC.out]; exact zJr a b
 have K1 : Hid (chkF 0 b c = 5) := chk_split b c
 have K2 : Hid (chkF N1 0 N2 = 1) := by show _ = _; rw [EN1.out, EN2.out]; exact zJq (by rw [EP.out]; omega) (by rw [ER.out]; omega)
 have J0 := hidd (zGv K0.out (by decide))
 have J1 := hidd (zGv K1.out (by decide))
 have J2 := hidd (zGv K2.out (by decide))
 have U0 := hidd (zFn J0.out (by decide))
 have U1 := hidd (zFn J1.out (by decide))
 have U2 := hidd (zFn J2.out (by decide))
 obtain ⟨w1, b1, hw1, hb1, hs1, E⟩ := zCv w (F := Fq.raw n1 a1 k1 c1 xs1) (us := [.bool n1, .slice a1 k1 c1]) 24 rfl (by simp) (zBq _ _ _ _) (show (Fq.raw n1 a1 k1 c1 xs1).P _ w from ⟨rfl, h1⟩)
 obtain ⟨w2, b2, hw2, hb2, hs2, E⟩ := zCb E hs1 (F := Fq.raw n2 a2 k2 c2 xs2) (us := [.bool n2, .slice a2 k2 c2]) 24 rfl (by simp) (zBq _ _ _ _) ((Fq.raw n2 a2 k2 c2 xs2).mono (show (Fq.raw n2 a2 k2 c2 xs2).P _ w from ⟨rfl, h2⟩) E.below)
 obtain ⟨w3, b3, hw3, hb3, hs3, E⟩ := zCb E hs2 (F := Fq.raw n3 a3 k3 c3 xs3) (us := [.bool n3, .slice a3 k3 c3]) 24 rfl (by simp) (zBq _ _ _ _) ((Fq.raw n3 a3 k3 c3 xs3).mono (show (Fq.raw n3 a3 k3 c3 xs3).P _ w from ⟨rfl, h3⟩) E.below)
 go_enter Try.func8, Try.ntmps8
 go_upto_region 1 with (fail)
 rw [← hw1]
 rw [← hw2]
 rw [← hw3]
 rw [← hb3]
 rw [← hb2]
 rw [← hb1]
 clear hw1 hw2 hw3 hb1 hb2 hb3 hs3 hs1 hs2
 refine rg [yT, yT] N3 [] E (fun hp => ⟨?_, ?_, tv⟩) ?_
 ·exact q_call0 hp fo tv (zJu) (fun w => zJ0 w)
 ·exact zAh hp fo tv (sqi 0)
 intro L vs w4 nb hL hC hn E4
 have e0 := wXi hC 0
 have e1 := wXi hC 1
 have E := E4; try simp only [LM, zAc] at E
 rw [zAd hL]
 simp only [SP, Nat.zero_add, Nat.reduceAdd]
 rw [e0, e1]
 clear e0 e1 hC hn E4 hL vs L nb
 go_upto_region 2 with (fail)
 refine rg [yT, yF] N3 [] E (fun hp => ⟨?_, ?_, tv⟩) ?_
 ·exact zAa hp fo tv (sqo 7)
 ·exact zAf (F := fun v _ => v = .bool true) hp fo tv (sqi 0) (fun ρ w _ h => ⟨.bool false, by simp [execOp, go_sem, h], rfl⟩)
 intro L vs w5 nb hL hC hn E5
 have e0 := wXi hC 0
 have e1 := wXi hC 1
 have E := E5; try simp only [LM, zAc] at E
 rw [zAd hL]
 simp only [SP, Nat.zero_add, Nat.reduceAdd]
 rw [e0, e1]
 clear e0 e1 hC hn E5 hL vs L nb
 go_upto_region 4 with (fail)
 refine rg [Fq.raw n1 a1 k1 c1 xs1, Fq.num a, Fq.raw n2 a2 k2 c2 xs2, Fq.num b, Fq.raw n3 a3 k3 c3 xs3, Fq.num c, Fq.any, Fq.any, Fq.any, Fq.any, Fq.any, Fq.any] N3 [⟨6, 9, 2, Fq.num 0, Fq.num a, none⟩, ⟨7, 10, 2, Fq.num 0, Fq.num b, none⟩, ⟨8, 11, 2, Fq.num 0, Fq.num c, none⟩] E (fun hp => ⟨?_, ?_, ?_, ?_, ?_, ?_, ?_, ?_, ?_, ?_, ?_, ?_, tv⟩) ?_
 ·exact zGt (off := 0) hp fo tv (mq 2 rfl) (.inl rfl) (Nat.le_of_ble_eq_true rfl) (sqo 3) (fun us w hl h => ld_raw hl h)
 ·exact zBh (F := (Fq.raw n1 a1 k1 c1 xs1).P) (G := (Fq.is (.int .i64 2)).P) hp fo tv (zF0) (sqi 0) (zAi (fun _ => rfl)) (fun v v' w h h' => (by rw [Ea.out]; exact zF9 (j := 2) h h' HK1.out (by omega)))
 ·exact zGt (off := 0) hp fo tv (mq 1 rfl) (.inl rfl) (Nat.le_of_ble_eq_true rfl) (sqo 4) (fun us w hl h => ld_raw hl h)
 ·exact zBh (F := (Fq.raw n2 a2 k2 c2 xs2).P) (G := (Fq.is (.int .i64 2)).P) hp fo tv (zF0) (sqi 2) (zAi (fun _ => rfl)) (fun v v' w h h' => (by rw [Eb.out]; exact zF9 (j := 2) h h' HK2.out (by omega)))
 ·exact zGt (off := 0) hp fo tv (mq 0 rfl) (.inl rfl) (Nat.le_of_ble_eq_true rfl) (sqo 5) (fun us w hl h => ld_raw hl h)
 ·exact zBh (F := (Fq.raw n3 a3 k3 c3 xs3).P) (G := (Fq.is (.int .i64 2)).P) hp fo tv (zF0) (sqi 4) (zAi (fun _ => rfl)) (fun v v' w h h' => (by rw [Ec.out]; exact zF9 (j := 2) h h' HK3.out (by omega)))
 ·exact aN hp (mq 0 rfl)
 ·exact aN hp (mq 1 rfl)
 ·exact aN hp (mq 2 rfl)
 ·exact sN 1 hp (mq 0 rfl)
 ·exact sN 3 hp (mq 1 rfl)
 ·exact sN 5 hp (mq 2 rfl)
 intro L vs w6 nb hL hC hn E6
 have e6 : vs 6 = .pointer (some ⟨nb 6, 0, none⟩) := hn _ (mq 0 rfl)
 have e7 : vs 7 = .pointer (some ⟨nb 7, 0, none⟩) := hn _ (mq 1 rfl)
 have e8 : vs 8 = .pointer (some ⟨nb 8, 0, none⟩) := hn _ (mq 2 rfl)
 have E := E6; try simp only [LM, zAc] at E
 rw [zAd hL]
 simp only [SP, Nat.zero_add, Nat.reduceAdd]
 rw [e6, e7, e8]
 generalize nb 6 = b6_6 at E ⊢
 generalize nb 7 = b6_7 at E ⊢
 generalize nb 8 = b6_8 at E ⊢
 generalize vs 0 = u6_0
 generalize vs 1 = u6_1
 generalize vs 2 = u6_2
 generalize vs 3 = u6_3
 generalize vs 4 = u6_4
 generalize vs 5 = u6_5
 clear e6 e7 e8 hC hn E6 hL vs L nb
 go_upto_region 5 with (fail)
 have B7 : Hid (ab ((a * a)) < pw 4) := zA0 Ba.out Ba.out (by omega)
 have B8 : Hid (ab ((2)) < pw 3) := zBa (by decide)
 have B9 : Hid (ab ((a * b)) < pw 4) := zA0 Ba.out Bb.out (by omega)
 have B10 : Hid (ab (((2) * (a * b))) < pw 7) := zA0 B8.out B9.out (by omega)
 have B11 : Hid (ab ((b * b)) < pw 4) := zA0 Bb.out Bb.out (by omega)
 refine rg [Fq.num a, Fq.num a, Fq.num A, Fq.num (2), Fq.num a, Fq.num b, Fq.num (a * b), Fq.num B, Fq.num b, Fq.num b, Fq.num C, Fq.st [.n A, .n B, .n C], Fq.any, Fq.any] N6 [⟨12, 13, 6, Fq.st [.n 0, .n 0, .n 0], Fq.st [.n A, .n B, .n C], none⟩] E (fun hp => ⟨?_, ?_, ?_, ?_, ?_, ?_, ?_, ?_, ?_, ?_, ?_, ?_, ?_, ?_, tv⟩) ?_
 ·exact lI 0 hp (mq 0 rfl) (sqo 8) fun us w hl h => zAp hl h
 ·exact lI 0 hp (mq 0 rfl) (sqo 8) fun us w hl h => zAp hl h
 ·exact wXb (Fq.num a) (Fq.num a) hp zDs (sqi 0) (sqi 1) fun v v' w h h' => (by have hh := exK (zDn h h') B7.out (by omega); rw [← EA.out] at hh; exact hh)
 ·exact zAn (F := (Fq.is (.int .i64 2)).P) hp fo tv (zB3) (zAi (fun _ => rfl)) (fun v w h => (by subst h; exact rOfK w (2) (by omega) (by omega)))
 ·exact lI 0 hp (mq 0 rfl) (sqo 8) fun us w hl h => zAp hl h
 ·exact lI 0 hp (mq 1 rfl) (sqo 9) fun us w hl h => zAp hl h
 ·exact wXb (Fq.num a) (Fq.num b) hp zDs (sqi 4) (sqi 5) fun v v' w h h' => exK (zDn h h') B9.out (by omega)
 ·exact wXb (Fq.num (2)) (Fq.num (a * b)) hp zDs (sqi 3) (sqi 6) fun v v' w h h' => (by have hh := exK (zDn h h') B10.out (by omega); rw [← EB.out] at hh; exact hh)
 ·exact lI 0 hp (mq 1 rfl) (sqo 9) fun us w hl h => zAp hl h
 ·exact lI 0 hp (mq 1 rfl) (sqo 9) fun us w hl h => zAp hl h
 ·exact wXb (Fq.num b) (Fq.num b) hp zDs (sqi 8) (sqi 9) fun v v' w h h' => (by have hh := exK (zDn h h') B11.out (by omega); rw [← EC.out] at hh; exact hh)
 ·exact zDz (z0 := A) (z1 := B) (z2 := C) hp fo tv (sqi 2) (sqi 7) (sqi 10) (fun v w h => h)
 ·exact aS hp (mq 0 rfl) zAy zA9
 ·exact sS 11 hp (mq 0 rfl) zAx
 intro L vs w12 nb hL hC hn E12
 have e12 : vs 12 = .pointer (some ⟨nb 12, 0, none⟩) := hn _ (mq 0 rfl)
 have E := E12; try simp only [LM, zAc] at E
 rw [zAd hL]
 simp only [SP, Nat.zero_add, Nat.reduceAdd]
 rw [e12]
 generalize nb 12 = b12_12 at E ⊢
 generalize vs 0 = u12_0
 generalize vs 1 = u12_1
 generalize vs 2 = u12_2
 generalize vs 3 = u12_3
 generalize vs 4 = u12_4
 generalize vs 5 = u12_5
 generalize vs 6 = u12_6
 generalize vs 7 = u12_7
 generalize vs 8 = u12_8
 generalize vs 9 = u12_9
 generalize vs 10 = u12_10
 generalize vs 11 = u12_11
 clear e12 hC hn E12 hL vs L nb
 go_upto_region 6 with (fail)
 have B13 : Hid (ab ((0)) < pw 3) := zBa (by decide)
 refine rg [Fq.num (0), Fq.num b, Fq.num c, Fq.st [.n (0), .n b, .n c], Fq.any, Fq.any] N7 [⟨4, 5, 6, Fq.st [.n 0, .n 0, .n 0], Fq.st [.n (0), .n b, .n c], none⟩] E (fun hp => ⟨?_, ?_, ?_, ?_, ?_, ?_, tv⟩) ?_
 ·exact zAn (F := (Fq.is (.int .i64 0)).P) hp fo tv (zB3) (zAi (fun _ => rfl)) (fun v w h => (by subst h; exact rOfK w (0) (by omega) (by omega)))
 ·exact lI 0 hp (mq 2 rfl) (sqo 9) fun us w hl h => zAp hl h
 ·exact lI 0 hp (mq 3 rfl) (sqo 10) fun us w hl h => zAp hl h
 ·exact zDz (z0 := (0)) (z1 := b) (z2 := c) hp fo tv (sqi 0) (sqi 1) (sqi 2) (fun v w h => h)
 ·exact aS hp (mq 0 rfl) zAy zA9
 ·exact sS 3 hp (mq 0 rfl) zAx
 intro L vs w14 nb hL hC hn E14
 have e4 : vs 4 = .pointer (some ⟨nb 4, 0, none⟩) := hn _ (mq 0 rfl)
 have E := E14; try simp only [LM, zAc] at E
 rw [zAd hL]
 simp only [SP, Nat.zero_add, Nat.reduceAdd]
 rw [e4]
 generalize nb 4 = b14_4 at E ⊢
 generalize vs 0 = u14_0
 generalize vs 1 = u14_1
 generalize vs 2 = u14_2
 generalize vs 3 = u14_3
 clear e4 hC hn E14 hL vs L nb
 go_upto_region 7 with (fail)
 have B15 : Hid (ab ((Int.natAbs a : Int)) < pw 2) := zB2 Ba.out
 have B16 : Hid (ab ((1)) < pw 3) := zBa (by decide)
 have B17 : Hid (ab (((Int.natAbs a : Int) + (1))) < pw 4) := zBr B15.out B16.out (by omega) (by omega)
 refine rg [Fq.num a, Fq.num (Int.natAbs a : Int), Fq.num (1), Fq.num P, Fq.any, Fq.any] N8 [⟨4, 5, 2, Fq.num 0, Fq.num P, none⟩] E (fun hp => ⟨?_, ?_, ?_, ?_, ?_, ?_, tv⟩) ?_
 ·exact lI 0 hp (mq 2 rfl) (sqo 8) fun us w hl h => zAp hl h
 ·exact wXa (Fq.num a) hp zHo (sqi 0) fun v w h => exK (RAbsV h) B15.out (by omega)
 ·exact zAn (F := (Fq.is (.int .i64 1)).P) hp fo tv (zB3) (zAi (fun _ => rfl)) (fun v w h => (by subst h; exact rOfK w (1) (by omega) (by omega)))
 ·exact wXb (Fq.num (Int.natAbs a : Int)) (Fq.num (1)) hp zFz (sqi 1) (sqi 2) fun v v' w h h' => (by have hh := exK (RAddV h h') B17.out (by omega); rw [← EP.out] at hh; exact hh)
 ·exact aN hp (mq 0 rfl)
 ·exact sN 3 hp (mq 0 rfl)
 intro L vs w18 nb hL hC hn E18
 have e4 : vs 4 = .pointer (some ⟨nb 4, 0, none⟩) := hn _ (mq 0 rfl)
 have E := E18; try simp only [LM, zAc] at E
 rw [zAd hL]
 simp only [SP, Nat.zero_add, Nat.reduceAdd]
 rw [e4]
 generalize nb 4 = b18_4 at E ⊢
 generalize vs 0 = u18_0
 generalize vs 1 = u18_1
 generalize vs 2 = u18_2
 generalize vs 3 = u18_3
 clear e4 hC hn E18 hL vs L nb
 go_upto_region 8 with (fail)
 have B19 : Hid (ab ((-P)) < pw 3) := zC9 BP.out
 have B20 : Hid (ab ((Int.natAbs c : Int)) < pw 2) := zB2 Bc.out
 have B21 : Hid (ab (((Int.natAbs c : Int) + (1))) < pw 4) := zBr B20.out B16.out (by omega) (by omega)
 have B22 : Hid (ab ((-R)) < pw 3) := zC9 BR.out
 refine rg [Fq.num P, Fq.num N1, Fq.num (0), Fq.num c, Fq.num (Int.natAbs c : Int), Fq.num (1), Fq.num R, Fq.num N2, Fq.st [.n N1, .n (0), .n N2], Fq.any, Fq.any] N9 [⟨9, 10, 6, Fq.st [.n 0, .n 0, .n 0], Fq.st [.n N1, .n (0), .n N2], none⟩] E (fun hp => ⟨?_, ?_, ?_, ?_, ?_, ?_, ?_, ?_, ?_, ?_, ?_, tv⟩) ?_
 ·exact lI 0 hp (mq 0 rfl) (sqo 13) fun us w hl h => zAp hl h
 ·exact wXa (Fq.num P) hp zF1 (sqi 0) fun v w h => (by have hh := exK (RNegV h) B19.out (by omega); rw [← EN1.out] at hh; exact hh)
 ·exact zAn (F := (Fq.is (.int .i64 0)).P) hp fo tv (zB3) (zAi (fun _ => rfl)) (fun v w h => (by subst h; exact rOfK w (0) (by omega) (by omega)))
 ·exact lI 0 hp (mq 5 rfl) (sqo 10) fun us w hl h => zAp hl h
 ·exact wXa (Fq.num c) hp zHo (sqi 3) fun v w h => exK (RAbsV h) B20.out (by omega)
 ·exact zAn (F := (Fq.is (.int .i64 1)).P) hp fo tv (zB3) (zAi (fun _ => rfl)) (fun v w h => (by subst h; exact rOfK w (1) (by omega) (by omega)))
 ·exact wXb (Fq.num (Int.natAbs c : Int)) (Fq.num (1)) hp zFz (sqi 4) (sqi 5) fun v v' w h h' => (by have hh := exK (RAddV h h') B21.out (by omega); rw [← ER.out] at hh; exact hh)
 ·exact wXa (Fq.num R) hp zF1 (sqi 6) fun v w h => (by have hh := exK (RNegV h) B22.out (by omega); rw [← EN2.out] at hh; exact hh)
 ·exact zDz (z0 := N1) (z1 := (0)) (z2 := N2) hp fo tv (sqi 1) (sqi 2) (sqi 7) (fun v w h => h)
 ·exact aS hp (mq 0 rfl) zAy zA9
 ·exact sS 8 hp (mq 0 rfl) zAx
 intro L vs w23 nb hL hC hn E23
 have e9 : vs 9 = .pointer (some ⟨nb 9, 0, none⟩) := hn _ (mq 0 rfl)
 have E := E23; try simp only [LM, zAc] at E
 rw [zAd hL]
 simp only [SP, Nat.zero_add, Nat.reduceAdd]
 rw [e9]
 generalize nb 9 = b23_9 at E ⊢
 generalize vs 0 = u23_0
 generalize vs 1 = u23_1
 generalize vs 2 = u23_2
 generalize vs 3 = u23_3
 generalize vs 4 = u23_4
 generalize vs 5 = u23_5
 generalize vs 6 = u23_6
 generalize vs 7 = u23_7
 generalize vs 8 = u23_8
 clear e9 hC hn E23 hL vs L nb
 go_upto_region 9 with (fail)
 refine rg [Fq.num P, Fq.st [.v (.bool true), .v (.slice none 0 0)], Fq.num P, Fq.st [.n P, .v (.bool true), .v (.slice none 0 0), .n P], Fq.any, Fq.any] N10 [⟨4, 5, 6, Fq.st [.n 0, .n 0, .n 0], Fq.st [.n P, .v (.bool true), .v (.slice none 0 0), .n P], none⟩] E (fun hp => ⟨?_, ?_, ?_, ?_, ?_, ?_, tv⟩) ?_
 ·exact lI 0 hp (mq 1 rfl) (sqo 13) fun us w hl h => zAp hl h
 ·exact zLb hp fo tv (fun v w h => h)
 ·exact lI 0 hp (mq 1 rfl) (sqo 13) fun us w hl h => zAp hl h
 ·exact zLi hp fo tv (sqi 0) (sqi 1) (sqi 2) (fun v w h => h)
 ·exact aS hp (mq 0 rfl) zAy zA9
 ·exact sS 3 hp (mq 0 rfl) zAx
 intro L vs w24 nb hL hC hn E24
 have e4 : vs 4 = .pointer (some ⟨nb 4, 0, none⟩) := hn _ (mq 0 rfl)
 have E := E24; try simp only [LM, zAc] at E
 rw [zAd hL]
 simp only [SP, Nat.zero_add, Nat.reduceAdd]
 rw [e4]
 generalize nb 4 = b24_4 at E ⊢
 generalize vs 0 = u24_0
 generalize vs 1 = u24_1
 generalize vs 2 = u24_2
 generalize vs 3 = u24_3
 clear e4 hC hn E24 hL vs L nb
 go_upto_region 10 with (fail)
 refine zI5 (same := [(5, 4)]) (C := [Fq.st [.n A, .n B, .n C], Fq.st [.n (0), .n b, .n c], Fq.st [.n N1, .n (0), .n N2], Fq.st [.n P, .v (.bool true), .v (.slice none 0 0), .n P], Fq.any, Fq.any]) (ks := [none, none, none, none, none, none, none, none, none, none, none]) (new := [⟨4, 4, 24, Fq.st [.n A, .n B, .n C, .n (0), .n b, .n c, .n N1, .n (0), .n N2, .n P, .v (.bool true), .v (.slice none 0 0), .n P], Fq.st [.n A, .n B, .n C, .n (0), .n b, .n c, .n N1, .n (0), .n N2, .n P, .v (.bool true), .v (.slice none 0 0), .n P], (some 4)⟩]) E rfl (by kernel_rfl) rfl rfl (fun hp => ⟨?_, ?_, ?_, ?_, ?_, ?_, tv⟩) ?_
 ·exact zDk (lS 0 6 hp (mq 4 rfl) zAl (sqo 11)) rfl
 ·exact zDk (lS 0 6 hp (mq 3 rfl) zAl (sqo 12)) rfl
 ·exact zDk (lS 0 6 hp (mq 1 rfl) zAl (sqo 14)) rfl
 ·exact zDk (lS 0 6 hp (mq 0 rfl) zAl (sqo 15)) rfl
 ·exact zDk (zLa (f1 := [.n A, .n B, .n C]) (f2 := [.n (0), .n b, .n c]) (f3 := [.n N1, .n (0), .n N2]) (f4 := [.n P, .v (.bool true), .v (.slice none 0 0), .n P]) hp trivial (mq 0 rfl) rfl rfl rfl rfl rfl rfl rfl rfl rfl (sqi 0) (sqi 1) (sqi 2) (sqi 3) (fun _ _ => trivial) (zDg rfl) (zId rfl)) rfl
 ·exact zJb hp fo rfl (j := 4) rfl (by simp) rfl (fun _ _ => trivial) rfl (Nat.ne_of_beq_eq_false rfl)
 intro L vs w25 nb hsm hL hC hn E25
 have e4 : vs 4 = .slice (some ⟨nb 4, 0, none⟩) 4 4 := hn _ (mq 0 rfl)
 have e5 : vs 5 = .slice (some ⟨nb 4, 0, none⟩) 4 4 := (hsm (5, 4) (by simp) (Nat.lt_of_sub_eq_succ rfl)).trans e4
 have E := E25; try simp only [LM, zAc] at E
 rw [zAd hL]
 simp only [SP, Nat.zero_add, Nat.reduceAdd]
 rw [e4, e5]
 generalize nb 4 = b25_4 at E ⊢
 generalize vs 0 = u25_0
 generalize vs 1 = u25_1
 generalize vs 2 = u25_2
 generalize vs 3 = u25_3
 clear e4 e5 hsm hC hn E25 hL vs L nb
 go_upto_region 11 with (fail)
 refine zI5 (same := [(1, 0)]) (C := [Fq.any, Fq.any]) (ks := [none, none, none, none, none, none, none, none, none, none, none, none]) (new := [⟨0, 0, 4, Fq.st [.v (.int .i64 5), .v (.int .i64 5), .v (.int .i64 1), .v (.int .i64 1)], Fq.st [.v (.int .i64 5), .v (.int .i64 5), .v (.int .i64 1), .v (.int .i64 1)], (some 4)⟩]) E rfl (by kernel_rfl) rfl rfl (fun hp => ⟨?_, ?_, tv⟩) ?_
 ·exact zDk (zK9 hp trivial (mq 0 rfl) rfl rfl rfl rfl rfl (fun _ _ => trivial) (zDg rfl) (zId rfl)) rfl
 ·exact zJb hp fo rfl (j := 0) rfl (by simp) rfl (fun _ _ => trivial) rfl (Nat.ne_of_beq_eq_false rfl)
 intro L vs w26 nb hsm hL hC hn E26
 have e0 : vs 0 = .slice (some ⟨nb 0, 0, none⟩) 4 4 := hn _ (mq 0 rfl)
 have e1 : vs 1 = .slice (some ⟨nb 0, 0, none⟩) 4 4 := (hsm (1, 0) (by simp) (Nat.lt_of_sub_eq_succ rfl)).trans e0
 have E := E26; try simp only [LM, zAc] at E
 rw [zAd hL]
 simp only [SP, Nat.zero_add, Nat.reduceAdd]
 rw [e0, e1]
 generalize nb 0 = b26_0 at E ⊢
 clear e0 e1 hsm hC hn E26 hL vs L nb
 clear Ea Eb Ec EA EB EC EP ER EN1 EN2 HK1 HK2 HK3 B7 B8 B9 B10 B11 B13 B15 B16 B17 B19 B20 B21 B22
 have HE := hidd E
 clear E
 obtain ⟨W0, rfl⟩ : ∃ W0, W0 = w26 := ⟨_, rfl⟩
 go_wp2_with (fail)
 go_loopw [18] (fun vi W => ∃ i : Int, vi = .int .i64 i ∧ 0 ≤ i ∧ i ≤ 4 ∧ Fr w [(b26_0, 4, Fq.st [.v (.int .i64 5), .v (.int .i64 5), .v (.int .i64 1), .v (.int .i64 1)]), (b25_4, 24, Fq.st [.n A, .n B, .n C, .n (0), .n b, .n c, .n N1, .n (0), .n N2, .n P, .v (.bool true), .v (.slice none 0 0), .n P]), (b24_4, 6, Fq.st [.n P, .v (.bool true), .v (.slice none 0 0), .n P]), (b23_9, 6, Fq.st [.n N1, .n (0), .n N2]), (b18_4, 2, Fq.num P), (b14_4, 6, Fq.st [.n (0), .n b, .n c]), (b12_12, 6, Fq.st [.n A, .n B, .n C]), (b6_6, 2, Fq.num a), (b6_7, 2, Fq.num b), (b6_8, 2, Fq.num c), (b3, 2, Fq.raw n3 a3 k3 c3 xs3), (b2, 2, Fq.raw n2 a2 k2 c2 xs2), (b1, 2, Fq.raw n1 a1 k1 c1 xs1)] W) (fun vi _ => (4 - intOf vi).toNat)
 case atStart => exact ⟨0, rfl, by omega, by omega, HE.out⟩
 case round =>
  clear HE
  obtain ⟨V2, rfl⟩ : ∃ V2, V2 = wr := ⟨_, rfl⟩
  obtain ⟨i, rfl, hi0, hi4, E⟩ := hrel
  have hic : i = 0 ∨ i = 1 ∨ i = 2 ∨ i = 3 ∨ i = 4 := by omega
  clear hi0 hi4
  rcases hic with rfl | rfl | rfl | rfl | rfl
  ·go_upto_region 13 with (fail)
   refine rg [Fq.is (.int .i64 0), Fq.is (.slice (some ⟨b25_4, 0, none⟩) 4 4), Fq.is (.int .i64 ((4 : Nat) : Int)), yT] N13 [] E (fun hp => ⟨?_, ?_, ?_, ?_, tv⟩) ?_
   ·exact zAa hp fo tv (sqo 18)
   ·exact zAa hp fo tv (sqo 16)
   ·exact zEj hp fo tv (sqi 1) (fun _ => rfl)
   ·exact zAe (F := fun v _ => v = .int .i64 0) (G := fun v _ => v = .int .i64 ((4 : Nat) : Int)) hp fo tv (sqi 0) (sqi 2) (fun ρ w hc h h' => ⟨.bool true, by simp [execOp, go_sem, h, h'], rfl⟩)
   intro L vs w27 nb hL hC hn E27
   have e0 := wXi hC 0
   have e1 := wXi hC 1
   have e2 := wXi hC 2
   have e3 := wXi hC 3
   have E := E27; try simp only [LM, zAc] at E
   rw [zAd hL]
   simp only [SP, Nat.zero_add, Nat.reduceAdd]
   rw [e0, e1, e2, e3]
   clear e0 e1 e2 e3 hC hn E27 hL vs L nb
   go_upto_region 15 with (fail)
   refine rg [Fq.is (.slice (some ⟨b25_4, 0, none⟩) 4 4), Fq.is (.int .i64 0), ip b25_4 0, Fq.st [.n A, .n B, .n C], Fq.is (.int .i64 5), Fq.is (.slice (some ⟨b26_0, 0, none⟩) 4 4), Fq.is (.int .i64 0), ip b26_0 0, Fq.is (.int .i64 5), yF, yF, Fq.is (.int .i64 0), yT, yT, Fq.is (.slice (some ⟨b25_4, 0, none⟩) 4 4), Fq.is (.int .i64 0), ip b25_4 0, Fq.st [.n A, .n B, .n C], yF, yF, yF] N13 [] E (fun hp => ⟨?_, ?_, ?_, ?_, ?_, ?_, ?_, ?_, ?_, ?_, ?_, ?_, ?_, ?_, ?_, ?_, ?_, ?_, ?_, ?_, ?_, tv⟩) ?_
   ·exact zAa hp fo tv (sqo 16)
   ·exact zAa hp fo tv (sqo 18)
   ·exact zAe (F := fun v _ => v = .slice (some ⟨b25_4, 0, none⟩) 4 4) (G := fun v _ => v = .int .i64 0) hp fo tv (sqi 0) (sqi 1) (fun ρ w hc h h' => ⟨_, by simp [execOp, go_sem, h, h', hc], rfl⟩)
   ·exact lS 0 6 hp (mq 1 rfl) zAl (sqi 2)
   ·exact wXa (Fq.st [.n A, .n B, .n C]) hp zCt (sqi 3) fun v w h => zC4 h (Int.lt_of_lt_of_le BA.out (zAb (by omega))) (Int.lt_of_lt_of_le BB.out (zAb (by omega))) (Int.lt_of_lt_of_le BC.out (zAb (by omega))) K0.out
   ·exact zAa hp fo tv (sqo 17)
   ·exact zAa hp fo tv (sqo 18)
   ·exact zAe (F := fun v _ => v = .slice (some ⟨b26_0, 0, none⟩) 4 4) (G := fun v _ => v = .int .i64 0) hp fo tv (sqi 5) (sqi 6) (fun ρ w hc h h' => ⟨_, by simp [execOp, go_sem, h, h', hc], rfl⟩)
   ·exact wXc 0 hp (mq 0 rfl) (sqi 7)
   ·exact zAe (F := fun v _ => v = .int .i64 5) (G := fun v _ => v = .int .i64 5) hp fo tv (sqi 4) (sqi 8) (fun ρ w hc h h' => ⟨.bool false, by simp [execOp, go_sem, h, h'], rfl⟩)
   ·exact zAa hp fo tv (sqi 9)
   ·exact zAa hp fo gqi (sqo 18)
   ·exact zAf (F := fun v _ => v = .int .i64 0) hp fo gqi (sqi 11) (fun ρ w hc h => ⟨.bool true, by simp [execOp, go_sem, h, hc], rfl⟩)
   ·exact zAa hp fo gqi (sqi 12)
   ·exact zAa hp fo gqi (sqo 16)
   ·exact zAa hp fo gqi (sqo 18)
   ·exact zAe (F := fun v _ => v = .slice (some ⟨b25_4, 0, none⟩) 4 4) (G := fun v _ => v = .int .i64 0) hp fo gqi (sqi 14) (sqi 15) (fun ρ w hc h h' => ⟨_, by simp [execOp, go_sem, h, h', hc], rfl⟩)
   ·exact lG 0 6 hp gqi (mq 1 rfl) zAl (sqi 16) fun v w h => h
   ·exact zAn (F := (Fq.st [.n A, .n B, .n C]).P) hp fo gqi (zD6) (sqi 17) (fun v w h => zD7 h (Int.lt_of_lt_of_le BA.out (zAb (by omega))) (Int.lt_of_lt_of_le BB.out (zAb (by omega))) (Int.lt_of_lt_of_le BC.out (zAb (by omega))) U0.out.1)
   ·exact zAe (F := fun v _ => v = .bool true) (G := fun v _ => v = .bool false) hp fo gqi (sqi 13) (sqi 18) (fun ρ w hc h h' => ⟨_, by simp [execOp, go_sem, h, h'], rfl⟩)
   ·exact zAe (F := fun v _ => v = .bool false) (G := fun v _ => v = .bool false) hp fo tv (sqi 10) (sqi 19) (fun ρ w hc h h' => ⟨_, by simp [execOp, go_sem, h, h'], rfl⟩)
   intro L vs w28 nb hL hC hn E28
   have e0 := wXi hC 0
   have e1 := wXi hC 1
   have e2 := wXi hC 2
   have e4 := wXi hC 4
   have e5 := wXi hC 5
   have e6 := wXi hC 6
   have e7 := wXi hC 7
   have e8 := wXi hC 8
   have e9 := wXi hC 9
   have e10 := wXi hC 10
   have e11 := wXi hC 11
   have e12 := wXi hC 12
   have e13 := wXi hC 13
   have e14 := wXi hC 14
   have e15 := wXi hC 15
   have e16 := wXi hC 16
   have e18 := wXi hC 18
   have e19 := wXi hC 19
   have e20 := wXi hC 20
   have E := E28; try simp only [LM, zAc] at E
   rw [zAd hL]
   simp only [SP, Nat.zero_add, Nat.reduceAdd]
   rw [e0, e1, e2, e4, e5, e6, e7, e8, e9, e10, e11, e12, e13, e14, e15, e16, e18, e19, e20]
   generalize vs 3 = u28_3
   generalize vs 17 = u28_17
   clear e0 e1 e2 e4 e5 e6 e7 e8 e9 e10 e11 e12 e13 e14 e15 e16 e18 e19 e20 hC hn E28 hL vs L nb
   go_upto_region 17 with (fail)
   refine rg [Fq.is (.int .i64 0), yF] N13 [] E (fun hp => ⟨?_, ?_, tv⟩) ?_
   ·exact zAa hp fo tv (sqo 18)
   ·exact zAf (F := fun v _ => v = .int .i64 0) hp fo tv (sqi 0) (fun ρ w hc h => ⟨.bool false, by simp [execOp, go_sem, h, hc], rfl⟩)
   intro L vs w29 nb hL hC hn E29
   have e0 := wXi hC 0
   have e1 := wXi hC 1
   have E := E29; try simp only [LM, zAc] at E
   rw [zAd hL]
   simp only [SP, Nat.zero_add, Nat.reduceAdd]
   rw [e0, e1]
   clear e0 e1 hC hn E29 hL vs L nb
   go_upto_region 18 with (fail)
   refine rg [Fq.is (.slice (some ⟨b25_4, 0, none⟩) 4 4), Fq.is (.int .i64 0), ip b25_4 0, Fq.st [.n A, .n B, .n C], Fq.tup3 (Fq.st [.n 0, .n 0, .n 0]) (Fq.st [.n 0, .n 0, .n 0, .n 0]) (Fq.is (.int .i64 5)), Fq.tup3 (Fq.st [.n 0, .n 0, .n 0]) (Fq.st [.n 0, .n 0, .n 0, .n 0]) (Fq.is (.int .i64 5)), Fq.st [.n 0, .n 0, .n 0], Fq.st [.n 0, .n 0, .n 0, .n 0], Fq.is (.int .i64 5), Fq.any, Fq.any, Fq.any, Fq.any, Fq.is (.int .i64 5)] N13 [⟨9, 11, 6, Fq.st [.n 0, .n 0, .n 0], Fq.st [.n 0, .n 0, .n 0], none⟩, ⟨10, 12, 8, Fq.st [.n 0, .n 0, .n 0, .n 0], Fq.st [.n 0, .n 0, .n 0, .n 0], none⟩] E (fun hp => ⟨?_, ?_, ?_, ?_, ?_, ?_, ?_, ?_, ?_, ?_, ?_, ?_, ?_, ?_, tv⟩) ?_
   ·exact zAa hp fo tv (sqo 16)
   ·exact zAa hp fo tv (sqo 18)
   ·exact zAe (F := fun v _ => v = .slice (some ⟨b25_4, 0, none⟩) 4 4) (G := fun v _ => v = .int .i64 0) hp fo tv (sqi 0) (sqi 1) (fun ρ w hc h h' => ⟨_, by simp [execOp, go_sem, h, h', hc], rfl⟩)
   ·exact lS 0 6 hp (mq 1 rfl) zAl (sqi 2)
   ·exact wXa (Fq.st [.n A, .n B, .n C]) hp zB9 (sqi 3) fun v w h => (by have hh := zCa h (Int.lt_of_lt_of_le BA.out (zAb (by omega))) (Int.lt_of_lt_of_le BB.out (zAb (by omega))) (Int.lt_of_lt_of_le BC.out (zAb (by omega))); rw [U0.out.2.1, J0.out] at hh; exact hh)
   ·exact zAa hp fo tv (sqi 4)
   ·exact zAo hp fo tv (sqi 5) (fun v1 v2 v3 w h1 h2 h3 => ⟨_, rfl, h1⟩)
   ·exact zAo hp fo tv (sqi 5) (fun v1 v2 v3 w h1 h2 h3 => ⟨_, rfl, h2⟩)
   ·exact zAo hp fo tv (sqi 5) (fun v1 v2 v3 w h1 h2 h3 => ⟨_, rfl, h3⟩)
   ·exact aS hp (mq 0 rfl) zAy zA9
   ·exact aS hp (mq 1 rfl) zBe zBw
   ·exact sS 6 hp (mq 0 rfl) zAx
   ·exact sS 7 hp (mq 1 rfl) zBc
   ·exact zAh hp fo tv (sqi 8)
   intro L vs w30 nb hL hC hn E30
   have e0 := wXi hC 0
   have e1 := wXi hC 1
   have e2 := wXi hC 2
   have e8 := wXi hC 8
   have e13 := wXi hC 13
   have e9 : vs 9 = .pointer (some ⟨nb 9, 0, none⟩) := hn _ (mq 0 rfl)
   have e10 : vs 10 = .pointer (some ⟨nb 10, 0, none⟩) := hn _ (mq 1 rfl)
   have E := E30; try simp only [LM, zAc] at E
   rw [zAd hL]
   simp only [SP, Nat.zero_add, Nat.reduceAdd]
   rw [e0, e1, e2, e8, e13, e9, e10]
   generalize nb 9 = b30_9 at E ⊢
   generalize nb 10 = b30_10 at E ⊢
   generalize vs 3 = u30_3
   generalize vs 4 = u30_4
   generalize vs 5 = u30_5
   generalize vs 6 = u30_6
   generalize vs 7 = u30_7
   clear e0 e1 e2 e8 e13 e9 e10 hC hn E30 hL vs L nb
   go_upto_region 19 with (fail)
   refine rg [Fq.is (.slice (some ⟨b25_4, 0, none⟩) 4 4), Fq.is (.int .i64 0), ip b25_4 0, Fq.st [.n A, .n B, .n C], Fq.tup2 (Fq.st [.n 0, .n 0, .n 0]) (Fq.is (.int .i64 5)), Fq.tup2 (Fq.st [.n 0, .n 0, .n 0]) (Fq.is (.int .i64 5)), Fq.st [.n 0, .n 0, .n 0], Fq.is (.int .i64 5), Fq.any, Fq.any, Fq.is (.int .i64 5)] N15 [⟨8, 9, 6, Fq.st [.n 0, .n 0, .n 0], Fq.st [.n 0, .n 0, .n 0], none⟩] E (fun hp => ⟨?_, ?_, ?_, ?_, ?_, ?_, ?_, ?_, ?_, ?_, ?_, tv⟩) ?_
   ·exact zAa hp fo tv (sqo 16)
   ·exact zAa hp fo tv (sqo 18)
   ·exact zAe (F := fun v _ => v = .slice (some ⟨b25_4, 0, none⟩) 4 4) (G := fun v _ => v = .int .i64 0) hp fo tv (sqi 0) (sqi 1) (fun ρ w hc h h' => ⟨_, by simp [execOp, go_sem, h, h', hc], rfl⟩)
   ·exact lS 0 6 hp (mq 3 rfl) zAl (sqi 2)
   ·exact wXa (Fq.st [.n A, .n B, .n C]) hp zE4 (sqi 3) fun v w h => (by have hh := zE5 h (Int.lt_of_lt_of_le BA.out (zAb (by omega))) (Int.lt_of_lt_of_le BB.out (zAb (by omega))) (Int.lt_of_lt_of_le BC.out (zAb (by omega))); rw [U0.out.2.2.1, J0.out] at hh; exact hh)
   ·exact zAa hp fo tv (sqi 4)
   ·exact zBi hp fo tv (sqi 5) (fun v1 v2 w h1 h2 => ⟨_, rfl, h1⟩)
   ·exact zBi hp fo tv (sqi 5) (fun v1 v2 w h1 h2 => ⟨_, rfl, h2⟩)
   ·exact aS hp (mq 0 rfl) zAy zA9
   ·exact sS 6 hp (mq 0 rfl) zAx
   ·exact zAh hp fo tv (sqi 7)
   intro L vs w31 nb hL hC hn E31
   have e0 := wXi hC 0
   have e1 := wXi hC 1
   have e2 := wXi hC 2
   have e7 := wXi hC 7
   have e10 := wXi hC 10
   have e8 : vs 8 = .pointer (some ⟨nb 8, 0, none⟩) := hn _ (mq 0 rfl)
   have E := E31; try simp only [LM, zAc] at E
   rw [zAd hL]
   simp only [SP, Nat.zero_add, Nat.reduceAdd]
   rw [e0, e1, e2, e7, e10, e8]
   generalize nb 8 = b31_8 at E ⊢
   generalize vs 3 = u31_3
   generalize vs 4 = u31_4
   generalize vs 5 = u31_5
   generalize vs 6 = u31_6
   clear e0 e1 e2 e7 e10 e8 hC hn E31 hL vs L nb
   go_upto_region 20 with (fail)
   refine rg [Fq.is (.slice (some ⟨b25_4, 0, none⟩) 4 4), Fq.is (.int .i64 0), ip b25_4 0, Fq.st [.n A, .n B, .n C], Fq.is (.slice (some ⟨b25_4, 0, none⟩) 4 4), Fq.is (.int .i64 0), ip b25_4 0, Fq.st [.n A, .n B, .n C], Fq.tup2 (Fq.st [.n 0, .n 0, .n 0, .n 0]) (yF), Fq.tup2 (Fq.st [.n 0, .n 0, .n 0, .n 0]) (yF), Fq.st [.n 0, .n 0, .n 0, .n 0], yF, Fq.any, Fq.any, yF] N16 [⟨12, 13, 8, Fq.st [.n 0, .n 0, .n 0, .n 0], Fq.st [.n 0, .n 0, .n 0, .n 0], none⟩] E (fun hp => ⟨?_, ?_, ?_, ?_, ?_, ?_, ?_, ?_, ?_, ?_, ?_, ?_, ?_, ?_, ?_, tv⟩) ?_
   ·exact zAa hp fo tv (sqo 16)
   ·exact zAa hp fo tv (sqo 18)
   ·exact zAe (F := fun v _ => v = .slice (some ⟨b25_4, 0, none⟩) 4 4) (G := fun v _ => v = .int .i64 0) hp fo tv (sqi 0) (sqi 1) (fun ρ w hc h h' => ⟨_, by simp [execOp, go_sem, h, h', hc], rfl⟩)
   ·exact lS 0 6 hp (mq 4 rfl) zAl (sqi 2)
   ·exact zAa hp fo tv (sqo 16)
   ·exact zAa hp fo tv (sqo 18)
   ·exact zAe (F := fun v _ => v = .slice (some ⟨b25_4, 0, none⟩) 4 4) (G := fun v _ => v = .int .i64 0) hp fo tv (sqi 4) (sqi 5) (fun ρ w hc h h' => ⟨_, by simp [execOp, go_sem, h, h', hc], rfl⟩)
   ·exact lS 0 6 hp (mq 4 rfl) zAl (sqi 6)
   ·exact wXb (Fq.st [.n A, .n B, .n C]) (Fq.st [.n A, .n B, .n C]) hp zF3 (sqi 3) (sqi 7) fun v v' w h h' => zF7 h h' (Int.lt_of_lt_of_le BA.out (zAb (by omega))) (Int.lt_of_lt_of_le BB.out (zAb (by omega))) (Int.lt_of_lt_of_le BC.out (zAb (by omega))) (Int.lt_of_lt_of_le BA.out (zAb (by omega))) (Int.lt_of_lt_of_le BB.out (zAb (by omega))) (Int.lt_of_lt_of_le BC.out (zAb (by omega))) U0.out.2.2.2
   ·exact zAa hp fo tv (sqi 8)
   ·exact zBi hp fo tv (sqi 9) (fun v1 v2 w h1 h2 => ⟨_, rfl, h1⟩)
   ·exact zBi hp fo tv (sqi 9) (fun v1 v2 w h1 h2 => ⟨_, rfl, h2⟩)
   ·exact aS hp (mq 0 rfl) zBe zBw
   ·exact sS 10 hp (mq 0 rfl) zBc
   ·exact zAh hp fo tv (sqi 11)
   intro L vs w32 nb hL hC hn E32
   have e0 := wXi hC 0
   have e1 := wXi hC 1
   have e2 := wXi hC 2
   have e4 := wXi hC 4
   have e5 := wXi hC 5
   have e6 := wXi hC 6
   have e11 := wXi hC 11
   have e14 := wXi hC 14
   have e12 : vs 12 = .pointer (some ⟨nb 12, 0, none⟩) := hn _ (mq 0 rfl)
   have E := E32; try simp only [LM, zAc] at E
   rw [zAd hL]
   simp only [SP, Nat.zero_add, Nat.reduceAdd]
   rw [e0, e1, e2, e4, e5, e6, e11, e14, e12]
   generalize nb 12 = b32_12 at E ⊢
   generalize vs 3 = u32_3
   generalize vs 7 = u32_7
   generalize vs 8 = u32_8
   generalize vs 9 = u32_9
   generalize vs 10 = u32_10
   clear e0 e1 e2 e4 e5 e6 e11 e14 e12 hC hn E32 hL vs L nb
   go_upto_region 21 with (fail)
   refine rg [Fq.is (.int .i64 5), Fq.is (.slice (some ⟨b26_0, 0, none⟩) 4 4), Fq.is (.int .i64 0), ip b26_0 0, Fq.is (.int .i64 5), yF, yF, Fq.is (.int .i64 5), Fq.is (.slice (some ⟨b26_0, 0, none⟩) 4 4), Fq.is (.int .i64 0), ip b26_0 0, Fq.is (.int .i64 5), yF, yF, yF, yF, yF] N17 [] E (fun hp => ⟨?_, ?_, ?_, ?_, ?_, ?_, ?_, ?_, ?_, ?_, ?_, ?_, ?_, ?_, ?_, ?_, ?_, tv⟩) ?_
   ·exact zAa hp fo tv (sqo 21)
   ·exact zAa hp fo tv (sqo 17)
   ·exact zAa hp fo tv (sqo 18)
   ·exact zAe (F := fun v _ => v = .slice (some ⟨b26_0, 0, none⟩) 4 4) (G := fun v _ => v = .int .i64 0) hp fo tv (sqi 1) (sqi 2) (fun ρ w hc h h' => ⟨_, by simp [execOp, go_sem, h, h', hc], rfl⟩)
   ·exact wXc 0 hp (mq 4 rfl) (sqi 3)
   ·exact zAe (F := fun v _ => v = .int .i64 5) (G := fun v _ => v = .int .i64 5) hp fo tv (sqi 0) (sqi 4) (fun ρ w hc h h' => ⟨.bool false, by simp [execOp, go_sem, h, h'], rfl⟩)
   ·exact zAa hp fo tv (sqi 5)
   ·exact zAa hp fo gqi (sqo 23)
   ·exact zAa hp fo gqi (sqo 17)
   ·exact zAa hp fo gqi (sqo 18)
   ·exact zAe (F := fun v _ => v = .slice (some ⟨b26_0, 0, none⟩) 4 4) (G := fun v _ => v = .int .i64 0) hp fo gqi (sqi 8) (sqi 9) (fun ρ w hc h h' => ⟨_, by simp [execOp, go_sem, h, h', hc], rfl⟩)
   ·exact zFi (off := 0) (fs := [.v (.int .i64 5), .v (.int .i64 5), .v (.int .i64 1), .v (.int .i64 1)]) (u := .int .i64 5) hp fo gqi (mq 4 rfl) (.inl rfl) rfl rfl (fun ρ w b h1 h2 => by simp [execOp, go_sem, h1, h2]) (sqi 10) (fun _ => rfl)
   ·exact zAe (F := fun v _ => v = .int .i64 5) (G := fun v _ => v = .int .i64 5) hp fo gqi (sqi 7) (sqi 11) (fun ρ w hc h h' => ⟨.bool false, by simp [execOp, go_sem, h, h'], rfl⟩)
   ·exact zAe (F := fun v _ => v = .bool false) (G := fun v _ => v = .bool false) hp fo tv (sqi 6) (sqi 12) (fun ρ w hc h h' => ⟨_, by simp [execOp, go_sem, h, h'], rfl⟩)
   ·exact zAa hp fo tv (sqi 13)
   ·exact zAa hp fo gqi (sqo 25)
   ·exact zAe (F := fun v _ => v = .bool false) (G := fun v _ => v = .bool false) hp fo tv (sqi 14) (sqi 15) (fun ρ w hc h h' => ⟨_, by simp [execOp, go_sem, h, h'], rfl⟩)
   intro L vs w33 nb hL hC hn E33
   have e0 := wXi hC 0
   have e1 := wXi hC 1
   have e2 := wXi hC 2
   have e3 := wXi hC 3
   have e4 := wXi hC 4
   have e5 := wXi hC 5
   have e6 := wXi hC 6
   have e7 := wXi hC 7
   have e8 := wXi hC 8
   have e9 := wXi hC 9
   have e10 := wXi hC 10
   have e11 := wXi hC 11
   have e12 := wXi hC 12
   have e13 := wXi hC 13
   have e14 := wXi hC 14
   have e15 := wXi hC 15
   have e16 := wXi hC 16
   have E := E33; try simp only [LM, zAc] at E
   rw [zAd hL]
   simp only [SP, Nat.zero_add, Nat.reduceAdd]
   rw [e0, e1, e2, e3, e4, e5, e6, e7, e8, e9, e10, e11, e12, e13, e14, e15, e16]
   clear e0 e1 e2 e3 e4 e5 e6 e7 e8 e9 e10 e11 e12 e13 e14 e15 e16 hC hn E33 hL vs L nb
   clear Ba Bb Bc BA BB BC BP BR BN1 BN2 K0 K1 K2 J0 J1 J2 U0 U1 U2
   replace E := E.drop.drop.drop.drop
   go_wp2
   go_roundw
   case rel => exact ⟨1, by first | rfl | go_num, by omega, by omega, E⟩
   case measure => first | (simp [intOf]; omega) | simp [intOf] | decide
  ·go_upto_region 13 with (fail)
   refine rg [Fq.is (.int .i64 1), Fq.is (.slice (some ⟨b25_4, 0, none⟩) 4 4), Fq.is (.int .i64 ((4 : Nat) : Int)), yT] N13 [] E (fun hp => ⟨?_, ?_, ?_, ?_, tv⟩) ?_
   ·exact zAa hp fo tv (sqo 18)
   ·exact zAa hp fo tv (sqo 16)
   ·exact zEj hp fo tv (sqi 1) (fun _ => rfl)
   ·exact zAe (F := fun v _ => v = .int .i64 1) (G := fun v _ => v = .int .i64 ((4 : Nat) : Int)) hp fo tv (sqi 0) (sqi 2) (fun ρ w hc h h' => ⟨.bool true, by simp [execOp, go_sem, h, h'], rfl⟩)
   intro L vs w34 nb hL hC hn E34
   have e0 := wXi hC 0
   have e1 := wXi hC 1
   have e2 := wXi hC 2
   have e3 := wXi hC 3
   have E := E34; try simp only [LM, zAc] at E
   rw [zAd hL]
   simp only [SP, Nat.zero_add, Nat.reduceAdd]
   rw [e0, e1, e2, e3]
   clear e0 e1 e2 e3 hC hn E34 hL vs L nb
   go_upto_region 15 with (fail)
   refine rg [Fq.is (.slice (some ⟨b25_4, 0, none⟩) 4 4), Fq.is (.int .i64 1), ip b25_4 6, Fq.st [.n (0), .n b, .n c], Fq.is (.int .i64 5), Fq.is (.slice (some ⟨b26_0, 0, none⟩) 4 4), Fq.is (.int .i64 1), ip b26_0 1, Fq.is (.int .i64 5), yF, yF, Fq.is (.int .i64 1), yT, yT, Fq.is (.slice (some ⟨b25_4, 0, none⟩) 4 4), Fq.is (.int .i64 1), ip b25_4 6, Fq.st [.n (0), .n b, .n c], yF, yF, yF] N13 [] E (fun hp => ⟨?_, ?_, ?_, ?_, ?_, ?_, ?_, ?_, ?_, ?_, ?_, ?_, ?_, ?_, ?_, ?_, ?_, ?_, ?_, ?_, ?_, tv⟩) ?_
   ·exact zAa hp fo tv (sqo 16)
   ·exact zAa hp fo tv (sqo 18)
   ·exact zAe (F := fun v _ => v = .slice (some ⟨b25_4, 0, none⟩) 4 4) (G := fun v _ => v = .int .i64 1) hp fo tv (sqi 0) (sqi 1) (fun ρ w hc h h' => ⟨_, by simp [execOp, go_sem, h, h', hc], rfl⟩)
   ·exact lS 6 6 hp (mq 1 rfl) zAl (sqi 2)
   ·exact wXa (Fq.st [.n (0), .n b, .n c]) hp zCt (sqi 3) fun v w h => zC4 h (Int.lt_of_lt_of_le (zAt (by decide) (by decide)) (zAb (by omega))) (Int.lt_of_lt_of_le Bb.out (zAb (by omega))) (Int.lt_of_lt_of_le Bc.out (zAb (by omega))) K1.out
   ·exact zAa hp fo tv (sqo 17)
   ·exact zAa hp fo tv (sqo 18)
   ·exact zAe (F := fun v _ => v = .slice (some ⟨b26_0, 0, none⟩) 4 4) (G := fun v _ => v = .int .i64 1) hp fo tv (sqi 5) (sqi 6) (fun ρ w hc h h' => ⟨_, by simp [execOp, go_sem, h, h', hc], rfl⟩)
   ·exact wXc 1 hp (mq 0 rfl) (sqi 7)
   ·exact zAe (F := fun v _ => v = .int .i64 5) (G := fun v _ => v = .int .i64 5) hp fo tv (sqi 4) (sqi 8) (fun ρ w hc h h' => ⟨.bool false, by simp [execOp, go_sem, h, h'], rfl⟩)
   ·exact zAa hp fo tv (sqi 9)
   ·exact zAa hp fo gqi (sqo 18)
   ·exact zAf (F := fun v _ => v = .int .i64 1) hp fo gqi (sqi 11) (fun ρ w hc h => ⟨.bool true, by simp [execOp, go_sem, h, hc], rfl⟩)
   ·exact zAa hp fo gqi (sqi 12)
   ·exact zAa hp fo gqi (sqo 16)
   ·exact zAa hp fo gqi (sqo 18)
   ·exact zAe (F := fun v _ => v = .slice (some ⟨b25_4, 0, none⟩) 4 4) (G := fun v _ => v = .int .i64 1) hp fo gqi (sqi 14) (sqi 15) (fun ρ w hc h h' => ⟨_, by simp [execOp, go_sem, h, h', hc], rfl⟩)
   ·exact lG 6 6 hp gqi (mq 1 rfl) zAl (sqi 16) fun v w h => h
   ·exact zAn (F := (Fq.st [.n (0), .n b, .n c]).P) hp fo gqi (zD6) (sqi 17) (fun v w h => zD7 h (Int.lt_of_lt_of_le (zAt (by decide) (by decide)) (zAb (by omega))) (Int.lt_of_lt_of_le Bb.out (zAb (by omega))) (Int.lt_of_lt_of_le Bc.out (zAb (by omega))) U1.out.1)
   ·exact zAe (F := fun v _ => v = .bool true) (G := fun v _ => v = .bool false) hp fo gqi (sqi 13) (sqi 18) (fun ρ w hc h h' => ⟨_, by simp [execOp, go_sem, h, h'], rfl⟩)
   ·exact zAe (F := fun v _ => v = .bool false) (G := fun v _ => v = .bool false) hp fo tv (sqi 10) (sqi 19) (fun ρ w hc h h' => ⟨_, by simp [execOp, go_sem, h, h'], rfl⟩)
   intro L vs w35 nb hL hC hn E35
   have e0 := wXi hC 0
   have e1 := wXi hC 1
   have e2 := wXi hC 2
   have e4 := wXi hC 4
   have e5 := wXi hC 5
   have e6 := wXi hC 6
   have e7 := wXi hC 7
   have e8 := wXi hC 8
   have e9 := wXi hC 9
   have e10 := wXi hC 10
   have e11 := wXi hC 11
   have e12 := wXi hC 12
   have e13 := wXi hC 13
   have e14 := wXi hC 14
   have e15 := wXi hC 15
   have e16 := wXi hC 16
   have e18 := wXi hC 18
   have e19 := wXi hC 19
   have e20 := wXi hC 20
   have E := E35; try simp only [LM, zAc] at E
   rw [zAd hL]
   simp only [SP, Nat.zero_add, Nat.reduceAdd]
   rw [e0, e1, e2, e4, e5, e6, e7, e8, e9, e10, e11, e12, e13, e14, e15, e16, e18, e19, e20]
   generalize vs 3 = u35_3
   generalize vs 17 = u35_17
   clear e0 e1 e2 e4 e5 e6 e7 e8 e9 e10 e11 e12 e13 e14 e15 e16 e18 e19 e20 hC hn E35 hL vs L nb
   go_upto_region 17 with (fail)
   refine rg [Fq.is (.int .i64 1), yF] N13 [] E (fun hp => ⟨?_, ?_, tv⟩) ?_
   ·exact zAa hp fo tv (sqo 18)
   ·exact zAf (F := fun v _ => v = .int .i64 1) hp fo tv (sqi 0) (fun ρ w hc h => ⟨.bool false, by simp [execOp, go_sem, h, hc], rfl⟩)
   intro L vs w36 nb hL hC hn E36
   have e0 := wXi hC 0
   have e1 := wXi hC 1
   have E := E36; try simp only [LM, zAc] at E
   rw [zAd hL]
   simp only [SP, Nat.zero_add, Nat.reduceAdd]
   rw [e0, e1]
   clear e0 e1 hC hn E36 hL vs L nb
   go_upto_region 18 with (fail)
   refine rg [Fq.is (.slice (some ⟨b25_4, 0, none⟩) 4 4), Fq.is (.int .i64 1), ip b25_4 6, Fq.st [.n (0), .n b, .n c], Fq.tup3 (Fq.st [.n 0, .n 0, .n 0]) (Fq.st [.n 0, .n 0, .n 0, .n 0]) (Fq.is (.int .i64 5)), Fq.tup3 (Fq.st [.n 0, .n 0, .n 0]) (Fq.st [.n 0, .n 0, .n 0, .n 0]) (Fq.is (.int .i64 5)), Fq.st [.n 0, .n 0, .n 0], Fq.st [.n 0, .n 0, .n 0, .n 0], Fq.is (.int .i64 5), Fq.any, Fq.any, Fq.any, Fq.any, Fq.is (.int .i64 5)] N13 [⟨9, 11, 6, Fq.st [.n 0, .n 0, .n 0], Fq.st [.n 0, .n 0, .n 0], none⟩, ⟨10, 12, 8, Fq.st [.n 0, .n 0, .n 0, .n 0], Fq.st [.n 0, .n 0, .n 0, .n 0], none⟩] E (fun hp => ⟨?_, ?_, ?_, ?_, ?_, ?_, ?_, ?_, ?_, ?_, ?_, ?_, ?_, ?_, tv⟩) ?_
   ·exact zAa hp fo tv (sqo 16)
   ·exact zAa hp fo tv (sqo 18)
   ·exact zAe (F := fun v _ => v = .slice (some ⟨b25_4, 0, none⟩) 4 4) (G := fun v _ => v = .int .i64 1) hp fo tv (sqi 0) (sqi 1) (fun ρ w hc h h' => ⟨_, by simp [execOp, go_sem, h, h', hc], rfl⟩)
   ·exact lS 6 6 hp (mq 1 rfl) zAl (sqi 2)
   ·exact wXa (Fq.st [.n (0), .n b, .n c]) hp zB9 (sqi 3) fun v w h => (by have hh := zCa h (Int.lt_of_lt_of_le (zAt (by decide) (by decide)) (zAb (by omega))) (Int.lt_of_lt_of_le Bb.out (zAb (by omega))) (Int.lt_of_lt_of_le Bc.out (zAb (by omega))); rw [U1.out.2.1, J1.out] at hh; exact hh)
   ·exact zAa hp fo tv (sqi 4)
   ·exact zAo hp fo tv (sqi 5) (fun v1 v2 v3 w h1 h2 h3 => ⟨_, rfl, h1⟩)
   ·exact zAo hp fo tv (sqi 5) (fun v1 v2 v3 w h1 h2 h3 => ⟨_, rfl, h2⟩)
   ·exact zAo hp fo tv (sqi 5) (fun v1 v2 v3 w h1 h2 h3 => ⟨_, rfl, h3⟩)
   ·exact aS hp (mq 0 rfl) zAy zA9
   ·exact aS hp (mq 1 rfl) zBe zBw
   ·exact sS 6 hp (mq 0 rfl) zAx
   ·exact sS 7 hp (mq 1 rfl) zBc
   ·exact zAh hp fo tv (sqi 8)
   intro L vs w37 nb hL hC hn E37
   have e0 := wXi hC 0
   have e1 := wXi hC 1
   have e2 := wXi hC 2
   have e8 := wXi hC 8
   have e13 := wXi hC 13
   have e9 : vs 9 = .pointer (some ⟨nb 9, 0, none⟩) := hn _ (mq 0 rfl)
   have e10 : vs 10 = .pointer (some ⟨nb 10, 0, none⟩) := hn _ (mq 1 rfl)
   have E := E37; try simp only [LM, zAc] at E
   rw [zAd hL]
   simp only [SP, Nat.zero_add, Nat.reduceAdd]
   rw [e0, e1, e2, e8, e13, e9, e10]
   generalize nb 9 = b37_9 at E ⊢
   generalize nb 10 = b37_10 at E ⊢
   generalize vs 3 = u37_3
   generalize vs 4 = u37_4
   generalize vs 5 = u37_5
   generalize vs 6 = u37_6
   generalize vs 7 = u37_7
   clear e0 e1 e2 e8 e13 e9 e10 hC hn E37 hL vs L nb
   go_upto_region 19 with (fail)
   refine rg [Fq.is (.slice (some ⟨b25_4, 0, none⟩) 4 4), Fq.is (.int .i64 1), ip b25_4 6, Fq.st [.n (0), .n b, .n c], Fq.tup2 (Fq.st [.n 0, .n 0, .n 0]) (Fq.is (.int .i64 5)), Fq.tup2 (Fq.st [.n 0, .n 0, .n 0]) (Fq.is (.int .i64 5)), Fq.st [.n 0, .n 0, .n 0], Fq.is (.int .i64 5), Fq.any, Fq.any, Fq.is (.int .i64 5)] N15 [⟨8, 9, 6, Fq.st [.n 0, .n 0, .n 0], Fq.st [.n 0, .n 0, .n 0], none⟩] E (fun hp => ⟨?_, ?_, ?_, ?_, ?_, ?_, ?_, ?_, ?_, ?_, ?_, tv⟩) ?_
   ·exact zAa hp fo tv (sqo 16)
   ·exact zAa hp fo tv (sqo 18)
   ·exact zAe (F := fun v _ => v = .slice (some ⟨b25_4, 0, none⟩) 4 4) (G := fun v _ => v = .int .i64 1) hp fo tv (sqi 0) (sqi 1) (fun ρ w hc h h' => ⟨_, by simp [execOp, go_sem, h, h', hc], rfl⟩)
   ·exact lS 6 6 hp (mq 3 rfl) zAl (sqi 2)
   ·exact wXa (Fq.st [.n (0), .n b, .n c]) hp zE4 (sqi 3) fun v w h => (by have hh := zE5 h (Int.lt_of_lt_of_le (zAt (by decide) (by decide)) (zAb (by omega))) (Int.lt_of_lt_of_le Bb.out (zAb (by omega))) (Int.lt_of_lt_of_le Bc.out (zAb (by omega))); rw [U1.out.2.2.1, J1.out] at hh; exact hh)
   ·exact zAa hp fo tv (sqi 4)
   ·exact zBi hp fo tv (sqi 5) (fun v1 v2 w h1 h2 => ⟨_, rfl, h1⟩)
   ·exact zBi hp fo tv (sqi 5) (fun v1 v2 w h1 h2 => ⟨_, rfl, h2⟩)
   ·exact aS hp (mq 0 rfl) zAy zA9
   ·exact sS 6 hp (mq 0 rfl) zAx
   ·exact zAh hp fo tv (sqi 7)
   intro L vs w38 nb hL hC hn E38
   have e0 := wXi hC 0
   have e1 := wXi hC 1
   have e2 := wXi hC 2
   have e7 := wXi hC 7
   have e10 := wXi hC 10
   have e8 : vs 8 = .pointer (some ⟨nb 8, 0, none⟩) := hn _ (mq 0 rfl)
   have E := E38; try simp only [LM, zAc] at E
   rw [zAd hL]
   simp only [SP, Nat.zero_add, Nat.reduceAdd]
   rw [e0, e1, e2, e7, e10, e8]
   generalize nb 8 = b38_8 at E ⊢
   generalize vs 3 = u38_3
   generalize vs 4 = u38_4
   generalize vs 5 = u38_5
   generalize vs 6 = u38_6
   clear e0 e1 e2 e7 e10 e8 hC hn E38 hL vs L nb
   go_upto_region 20 with (fail)
   refine rg [Fq.is (.slice (some ⟨b25_4, 0, none⟩) 4 4), Fq.is (.int .i64 1), ip b25_4 6, Fq.st [.n (0), .n b, .n c], Fq.is (.slice (some ⟨b25_4, 0, none⟩) 4 4), Fq.is (.int .i64 1), ip b25_4 6, Fq.st [.n (0), .n b, .n c], Fq.tup2 (Fq.st [.n 0, .n 0, .n 0, .n 0]) (yF), Fq.tup2 (Fq.st [.n 0, .n 0, .n 0, .n 0]) (yF), Fq.st [.n 0, .n 0, .n 0, .n 0], yF, Fq.any, Fq.any, yF] N16 [⟨12, 13, 8, Fq.st [.n 0, .n 0, .n 0, .n 0], Fq.st [.n 0, .n 0, .n 0, .n 0], none⟩] E (fun hp => ⟨?_, ?_, ?_, ?_, ?_, ?_, ?_, ?_, ?_, ?_, ?_, ?_, ?_, ?_, ?_, tv⟩) ?_
   ·exact zAa hp fo tv (sqo 16)
   ·exact zAa hp fo tv (sqo 18)
   ·exact zAe (F := fun v _ => v = .slice (some ⟨b25_4, 0, none⟩) 4 4) (G := fun v _ => v = .int .i64 1) hp fo tv (sqi 0) (sqi 1) (fun ρ w hc h h' => ⟨_, by simp [execOp, go_sem, h, h', hc], rfl⟩)
   ·exact lS 6 6 hp (mq 4 rfl) zAl (sqi 2)
   ·exact zAa hp fo tv (sqo 16)
   ·exact zAa hp fo tv (sqo 18)
   ·exact zAe (F := fun v _ => v = .slice (some ⟨b25_4, 0, none⟩) 4 4) (G := fun v _ => v = .int .i64 1) hp fo tv (sqi 4) (sqi 5) (fun ρ w hc h h' => ⟨_, by simp [execOp, go_sem, h, h', hc], rfl⟩)
   ·exact lS 6 6 hp (mq 4 rfl) zAl (sqi 6)
   ·exact wXb (Fq.st [.n (0), .n b, .n c]) (Fq.st [.n (0), .n b, .n c]) hp zF3 (sqi 3) (sqi 7) fun v v' w h h' => zF7 h h' (Int.lt_of_lt_of_le (zAt (by decide) (by decide)) (zAb (by omega))) (Int.lt_of_lt_of_le Bb.out (zAb (by omega))) (Int.lt_of_lt_of_le Bc.out (zAb (by omega))) (Int.lt_of_lt_of_le (zAt (by decide) (by decide)) (zAb (by omega))) (Int.lt_of_lt_of_le Bb.out (zAb (by omega))) (Int.lt_of_lt_of_le Bc.out (zAb (by omega))) U1.out.2.2.2
   ·exact zAa hp fo tv (sqi 8)
   ·exact zBi hp fo tv (sqi 9) (fun v1 v2 w h1 h2 => ⟨_, rfl, h1⟩)
   ·exact zBi hp fo tv (sqi 9) (fun v1 v2 w h1 h2 => ⟨_, rfl, h2⟩)
   ·exact aS hp (mq 0 rfl) zBe zBw
   ·exact sS 10 hp (mq 0 rfl) zBc
   ·exact zAh hp fo tv (sqi 11)
   intro L vs w39 nb hL hC hn E39
   have e0 := wXi hC 0
   have e1 := wXi hC 1
   have e2 := wXi hC 2
   have e4 := wXi hC 4
   have e5 := wXi hC 5
   have e6 := wXi hC 6
   have e11 := wXi hC 11
   have e14 := wXi hC 14
   have e12 : vs 12 = .pointer (some ⟨nb 12, 0, none⟩) := hn _ (mq 0 rfl)
   have E := E39; try simp only [LM, zAc] at E
   rw [zAd hL]
   simp only [SP, Nat.zero_add, Nat.reduceAdd]
   rw [e0, e1, e2, e4, e5, e6, e11, e14, e12]
   generalize nb 12 = b39_12 at E ⊢
   generalize vs 3 = u39_3
   generalize vs 7 = u39_7
   generalize vs 8 = u39_8
   generalize vs 9 = u39_9
   generalize vs 10 = u39_10
   clear e0 e1 e2 e4 e5 e6 e11 e14 e12 hC hn E39 hL vs L nb
   go_upto_region 21 with (fail)
   refine rg [Fq.is (.int .i64 5), Fq.is (.slice (some ⟨b26_0, 0, none⟩) 4 4), Fq.is (.int .i64 1), ip b26_0 1, Fq.is (.int .i64 5), yF, yF, Fq.is (.int .i64 5), Fq.is (.slice (some ⟨b26_0, 0, none⟩) 4 4), Fq.is (.int .i64 1), ip b26_0 1, Fq.is (.int .i64 5), yF, yF, yF, yF, yF] N17 [] E (fun hp => ⟨?_, ?_, ?_, ?_, ?_, ?_, ?_, ?_, ?_, ?_, ?_, ?_, ?_, ?_, ?_, ?_, ?_, tv⟩) ?_
   ·exact zAa hp fo tv (sqo 21)
   ·exact zAa hp fo tv (sqo 17)
   ·exact zAa hp fo tv (sqo 18)
   ·exact zAe (F := fun v _ => v = .slice (some ⟨b26_0, 0, none⟩) 4 4) (G := fun v _ => v = .int .i64 1) hp fo tv (sqi 1) (sqi 2) (fun ρ w hc h h' => ⟨_, by simp [execOp, go_sem, h, h', hc], rfl⟩)
   ·exact wXc 1 hp (mq 4 rfl) (sqi 3)
   ·exact zAe (F := fun v _ => v = .int .i64 5) (G := fun v _ => v = .int .i64 5) hp fo tv (sqi 0) (sqi 4) (fun ρ w hc h h' => ⟨.bool false, by simp [execOp, go_sem, h, h'], rfl⟩)
   ·exact zAa hp fo tv (sqi 5)
   ·exact zAa hp fo gqi (sqo 23)
   ·exact zAa hp fo gqi (sqo 17)
   ·exact zAa hp fo gqi (sqo 18)
   ·exact zAe (F := fun v _ => v = .slice (some ⟨b26_0, 0, none⟩) 4 4) (G := fun v _ => v = .int .i64 1) hp fo gqi (sqi 8) (sqi 9) (fun ρ w hc h h' => ⟨_, by simp [execOp, go_sem, h, h', hc], rfl⟩)
   ·exact zFi (off := 1) (fs := [.v (.int .i64 5), .v (.int .i64 5), .v (.int .i64 1), .v (.int .i64 1)]) (u := .int .i64 5) hp fo gqi (mq 4 rfl) (.inl rfl) rfl rfl (fun ρ w b h1 h2 => by simp [execOp, go_sem, h1, h2]) (sqi 10) (fun _ => rfl)
   ·exact zAe (F := fun v _ => v = .int .i64 5) (G := fun v _ => v = .int .i64 5) hp fo gqi (sqi 7) (sqi 11) (fun ρ w hc h h' => ⟨.bool false, by simp [execOp, go_sem, h, h'], rfl⟩)
   ·exact zAe (F := fun v _ => v = .bool false) (G := fun v _ => v = .bool false) hp fo tv (sqi 6) (sqi 12) (fun ρ w hc h h' => ⟨_, by simp [execOp, go_sem, h, h'], rfl⟩)
   ·exact zAa hp fo tv (sqi 13)
   ·exact zAa hp fo gqi (sqo 25)
   ·exact zAe (F := fun v _ => v = .bool false) (G := fun v _ => v = .bool false) hp fo tv (sqi 14) (sqi 15) (fun ρ w hc h h' => ⟨_, by simp [execOp, go_sem, h, h'], rfl⟩)
   intro L vs w40 nb hL hC hn E40
   have e0 := wXi hC 0
   have e1 := wXi hC 1
   have e2 := wXi hC 2
   have e3 := wXi hC 3
   have e4 := wXi hC 4
   have e5 := wXi hC 5
   have e6 := wXi hC 6
   have e7 := wXi hC 7
   have e8 := wXi hC 8
   have e9 := wXi hC 9
   have e10 := wXi hC 10
   have e11 := wXi hC 11
   have e12 := wXi hC 12
   have e13 := wXi hC 13
   have e14 := wXi hC 14
   have e15 := wXi hC 15
   have e16 := wXi hC 16
   have E := E40; try simp only [LM, zAc] at E
   rw [zAd hL]
   simp only [SP, Nat.zero_add, Nat.reduceAdd]
   rw [e0, e1, e2, e3, e4, e5, e6, e7, e8, e9, e10, e11, e12, e13, e14, e15, e16]
   clear e0 e1 e2 e3 e4 e5 e6 e7 e8 e9 e10 e11 e12 e13 e14 e15 e16 hC hn E40 hL vs L nb
   clear Ba Bb Bc BA BB BC BP BR BN1 BN2 K0 K1 K2 J0 J1 J2 U0 U1 U2
   replace E := E.drop.drop.drop.drop
   go_wp2
   go_roundw
   case rel => exact ⟨2, by first | rfl | go_num, by omega, by omega, E⟩
   case measure => first | (simp [intOf]; omega) | simp [intOf] | decide
  ·go_upto_region 13 with (fail)
   refine rg [Fq.is (.int .i64 2), Fq.is (.slice (some ⟨b25_4, 0, none⟩) 4 4), Fq.is (.int .i64 ((4 : Nat) : Int)), yT] N13 [] E (fun hp => ⟨?_, ?_, ?_, ?_, tv⟩) ?_
   ·exact zAa hp fo tv (sqo 18)
   ·exact zAa hp fo tv (sqo 16)
   ·exact zEj hp fo tv (sqi 1) (fun _ => rfl)
   ·exact zAe (F := fun v _ => v = .int .i64 2) (G := fun v _ => v = .int .i64 ((4 : Nat) : Int)) hp fo tv (sqi 0) (sqi 2) (fun ρ w hc h h' => ⟨.bool true, by simp [execOp, go_sem, h, h'], rfl⟩)
   intro L vs w41 nb hL hC hn E41
   have e0 := wXi hC 0
   have e1 := wXi hC 1
   have e2 := wXi hC 2
   have e3 := wXi hC 3
   have E := E41; try simp only [LM, zAc] at E
   rw [zAd hL]
   simp only [SP, Nat.zero_add, Nat.reduceAdd]
   rw [e0, e1, e2, e3]
   clear e0 e1 e2 e3 hC hn E41 hL vs L nb
   go_upto_region 15 with (fail)
   refine rg [Fq.is (.slice (some ⟨b25_4, 0, none⟩) 4 4), Fq.is (.int .i64 2), ip b25_4 12, Fq.st [.n N1, .n (0), .n N2], Fq.is (.int .i64 1), Fq.is (.slice (some ⟨b26_0, 0, none⟩) 4 4), Fq.is (.int .i64 2), ip b26_0 2, Fq.is (.int .i64 1), yF, yF, Fq.is (.int .i64 2), yT, yT, Fq.is (.slice (some ⟨b25_4, 0, none⟩) 4 4), Fq.is (.int .i64 2), ip b25_4 12, Fq.st [.n N1, .n (0), .n N2], yF, yF, yF] N13 [] E (fun hp => ⟨?_, ?_, ?_, ?_, ?_, ?_, ?_, ?_, ?_, ?_, ?_, ?_, ?_, ?_, ?_, ?_, ?_, ?_, ?_, ?_, ?_, tv⟩) ?_
   ·exact zAa hp fo tv (sqo 16)
   ·exact zAa hp fo tv (sqo 18)
   ·exact zAe (F := fun v _ => v = .slice (some ⟨b25_4, 0, none⟩) 4 4) (G := fun v _ => v = .int .i64 2) hp fo tv (sqi 0) (sqi 1) (fun ρ w hc h h' => ⟨_, by simp [execOp, go_sem, h, h', hc], rfl⟩)
   ·exact lS 12 6 hp (mq 1 rfl) zAl (sqi 2)
   ·exact wXa (Fq.st [.n N1, .n (0), .n N2]) hp zCt (sqi 3) fun v w h => zC4 h (Int.lt_of_lt_of_le BN1.out (zAb (by omega))) (Int.lt_of_lt_of_le (zAt (by decide) (by decide)) (zAb (by omega))) (Int.lt_of_lt_of_le BN2.out (zAb (by omega))) K2.out
   ·exact zAa hp fo tv (sqo 17)
   ·exact zAa hp fo tv (sqo 18)
   ·exact zAe (F := fun v _ => v = .slice (some ⟨b26_0, 0, none⟩) 4 4) (G := fun v _ => v = .int .i64 2) hp fo tv (sqi 5) (sqi 6) (fun ρ w hc h h' => ⟨_, by simp [execOp, go_sem, h, h', hc], rfl⟩)
   ·exact wXc 2 hp (mq 0 rfl) (sqi 7)
   ·exact zAe (F := fun v _ => v = .int .i64 1) (G := fun v _ => v = .int .i64 1) hp fo tv (sqi 4) (sqi 8) (fun ρ w hc h h' => ⟨.bool false, by simp [execOp, go_sem, h, h'], rfl⟩)
   ·exact zAa hp fo tv (sqi 9)
   ·exact zAa hp fo gqi (sqo 18)
   ·exact zAf (F := fun v _ => v = .int .i64 2) hp fo gqi (sqi 11) (fun ρ w hc h => ⟨.bool true, by simp [execOp, go_sem, h, hc], rfl⟩)
   ·exact zAa hp fo gqi (sqi 12)
   ·exact zAa hp fo gqi (sqo 16)
   ·exact zAa hp fo gqi (sqo 18)
   ·exact zAe (F := fun v _ => v = .slice (some ⟨b25_4, 0, none⟩) 4 4) (G := fun v _ => v = .int .i64 2) hp fo gqi (sqi 14) (sqi 15) (fun ρ w hc h h' => ⟨_, by simp [execOp, go_sem, h, h', hc], rfl⟩)
   ·exact lG 12 6 hp gqi (mq 1 rfl) zAl (sqi 16) fun v w h => h
   ·exact zAn (F := (Fq.st [.n N1, .n (0), .n N2]).P) hp fo gqi (zD6) (sqi 17) (fun v w h => zD7 h (Int.lt_of_lt_of_le BN1.out (zAb (by omega))) (Int.lt_of_lt_of_le (zAt (by decide) (by decide)) (zAb (by omega))) (Int.lt_of_lt_of_le BN2.out (zAb (by omega))) U2.out.1)
   ·exact zAe (F := fun v _ => v = .bool true) (G := fun v _ => v = .bool false) hp fo gqi (sqi 13) (sqi 18) (fun ρ w hc h h' => ⟨_, by simp [execOp, go_sem, h, h'], rfl⟩)
   ·exact zAe (F := fun v _ => v = .bool false) (G := fun v _ => v = .bool false) hp fo tv (sqi 10) (sqi 19) (fun ρ w hc h h' => ⟨_, by simp [execOp, go_sem, h, h'], rfl⟩)
   intro L vs w42 nb hL hC hn E42
   have e0 := wXi hC 0
   have e1 := wXi hC 1
   have e2 := wXi hC 2
   have e4 := wXi hC 4
   have e5 := wXi hC 5
   have e6 := wXi hC 6
   have e7 := wXi hC 7
   have e8 := wXi hC 8
   have e9 := wXi hC 9
   have e10 := wXi hC 10
   have e11 := wXi hC 11
   have e12 := wXi hC 12
   have e13 := wXi hC 13
   have e14 := wXi hC 14
   have e15 := wXi hC 15
   have e16 := wXi hC 16
   have e18 := wXi hC 18
   have e19 := wXi hC 19
   have e20 := wXi hC 20
   have E := E42; try simp only [LM, zAc] at E
   rw [zAd hL]
   simp only [SP, Nat.zero_add, Nat.reduceAdd]
   rw [e0, e1, e2, e4, e5, e6, e7, e8, e9, e10, e11, e12, e13, e14, e15, e16, e18, e19, e20]
   generalize vs 3 = u42_3
   generalize vs 17 = u42_17
   clear e0 e1 e2 e4 e5 e6 e7 e8 e9 e10 e11 e12 e13 e14 e15 e16 e18 e19 e20 hC hn E42 hL vs L nb
   go_upto_region 17 with (fail)
   refine rg [Fq.is (.int .i64 2), yF] N13 [] E (fun hp => ⟨?_, ?_, tv⟩) ?_
   ·exact zAa hp fo tv (sqo 18)
   ·exact zAf (F := fun v _ => v = .int .i64 2) hp fo tv (sqi 0) (fun ρ w hc h => ⟨.bool false, by simp [execOp, go_sem, h, hc], rfl⟩)
   intro L vs w43 nb hL hC hn E43
   have e0 := wXi hC 0
   have e1 := wXi hC 1
   have E := E43; try simp only [LM, zAc] at E
   rw [zAd hL]
   simp only [SP, Nat.zero_add, Nat.reduceAdd]
   rw [e0, e1]
   clear e0 e1 hC hn E43 hL vs L nb
   go_upto_region 18 with (fail)
   refine rg [Fq.is (.slice (some ⟨b25_4, 0, none⟩) 4 4), Fq.is (.int .i64 2), ip b25_4 12, Fq.st [.n N1, .n (0), .n N2], Fq.tup3 (Fq.st [.n 0, .n 0, .n 0]) (Fq.st [.n 0, .n 0, .n 0, .n 0]) (Fq.is (.int .i64 1)), Fq.tup3 (Fq.st [.n 0, .n 0, .n 0]) (Fq.st [.n 0, .n 0, .n 0, .n 0]) (Fq.is (.int .i64 1)), Fq.st [.n 0, .n 0, .n 0], Fq.st [.n 0, .n 0, .n 0, .n 0], Fq.is (.int .i64 1), Fq.any, Fq.any, Fq.any, Fq.any, Fq.is (.int .i64 1)] N13 [⟨9, 11, 6, Fq.st [.n 0, .n 0, .n 0], Fq.st [.n 0, .n 0, .n 0], none⟩, ⟨10, 12, 8, Fq.st [.n 0, .n 0, .n 0, .n 0], Fq.st [.n 0, .n 0, .n 0, .n 0], none⟩] E (fun hp => ⟨?_, ?_, ?_, ?_, ?_, ?_, ?_, ?_, ?_, ?_, ?_, ?_, ?_, ?_, tv⟩) ?_
   ·exact zAa hp fo tv (sqo 16)
   ·exact zAa hp fo tv (sqo 18)
   ·exact zAe (F := fun v _ => v = .slice (some ⟨b25_4, 0, none⟩) 4 4) (G := fun v _ => v = .int .i64 2) hp fo tv (sqi 0) (sqi 1) (fun ρ w hc h h' => ⟨_, by simp [execOp, go_sem, h, h', hc], rfl⟩)
   ·exact lS 12 6 hp (mq 1 rfl) zAl (sqi 2)
   ·exact wXa (Fq.st [.n N1, .n (0), .n N2]) hp zB9 (sqi 3) fun v w h => (by have hh := zCa h (Int.lt_of_lt_of_le BN1.out (zAb (by omega))) (Int.lt_of_lt_of_le (zAt (by decide) (by decide)) (zAb (by omega))) (Int.lt_of_lt_of_le BN2.out (zAb (by omega))); rw [U2.out.2.1, J2.out] at hh; exact hh)
   ·exact zAa hp fo tv (sqi 4)
   ·exact zAo hp fo tv (sqi 5) (fun v1 v2 v3 w h1 h2 h3 => ⟨_, rfl, h1⟩)
   ·exact zAo hp fo tv (sqi 5) (fun v1 v2 v3 w h1 h2 h3 => ⟨_, rfl, h2⟩)
   ·exact zAo hp fo tv (sqi 5) (fun v1 v2 v3 w h1 h2 h3 => ⟨_, rfl, h3⟩)
   ·exact aS hp (mq 0 rfl) zAy zA9
   ·exact aS hp (mq 1 rfl) zBe zBw
   ·exact sS 6 hp (mq 0 rfl) zAx
   ·exact sS 7 hp (mq 1 rfl) zBc
   ·exact zAh hp fo tv (sqi 8)
   intro L vs w44 nb hL hC hn E44
   have e0 := wXi hC 0
   have e1 := wXi hC 1
   have e2 := wXi hC 2
   have e8 := wXi hC 8
   have e13 := wXi hC 13
   have e9 : vs 9 = .pointer (some ⟨nb 9, 0, none⟩) := hn _ (mq 0 rfl)
   have e10 : vs 10 = .pointer (some ⟨nb 10, 0, none⟩) := hn _ (mq 1 rfl)
   have E := E44; try simp only [LM, zAc] at E
   rw [zAd hL]
   simp only [SP, Nat.zero_add, Nat.reduceAdd]
   rw [e0, e1, e2, e8, e13, e9, e10]
   generalize nb 9 = b44_9 at E ⊢
   generalize nb 10 = b44_10 at E ⊢
   generalize vs 3 = u44_3
   generalize vs 4 = u44_4
   generalize vs 5 = u44_5
   generalize vs 6 = u44_6
   generalize vs 7 = u44_7
   clear e0 e1 e2 e8 e13 e9 e10 hC hn E44 hL vs L nb
   go_upto_region 19 with (fail)
   refine rg [Fq.is (.slice (some ⟨b25_4, 0, none⟩) 4 4), Fq.is (.int .i64 2), ip b25_4 12, Fq.st [.n N1, .n (0), .n N2], Fq.tup2 (Fq.st [.n 0, .n 0, .n 0]) (Fq.is (.int .i64 1)), Fq.tup2 (Fq.st [.n 0, .n 0, .n 0]) (Fq.is (.int .i64 1)), Fq.st [.n 0, .n 0, .n 0], Fq.is (.int .i64 1), Fq.any, Fq.any, Fq.is (.int .i64 1)] N15 [⟨8, 9, 6, Fq.st [.n 0, .n 0, .n 0], Fq.st [.n 0, .n 0, .n 0], none⟩] E (fun hp => ⟨?_, ?_, ?_, ?_, ?_, ?_, ?_, ?_, ?_, ?_, ?_, tv⟩) ?_
   ·exact zAa hp fo tv (sqo 16)
   ·exact zAa hp fo tv (sqo 18)
   ·exact zAe (F := fun v _ => v = .slice (some ⟨b25_4, 0, none⟩) 4 4) (G := fun v _ => v = .int .i64 2) hp fo tv (sqi 0) (sqi 1) (fun ρ w hc h h' => ⟨_, by simp [execOp, go_sem, h, h', hc], rfl⟩)
   ·exact lS 12 6 hp (mq 3 rfl) zAl (sqi 2)
   ·exact wXa (Fq.st [.n N1, .n (0), .n N2]) hp zE4 (sqi 3) fun v w h => (by have hh := zE5 h (Int.lt_of_lt_of_le BN1.out (zAb (by omega))) (Int.lt_of_lt_of_le (zAt (by decide) (by decide)) (zAb (by omega))) (Int.lt_of_lt_of_le BN2.out (zAb (by omega))); rw [U2.out.2.2.1, J2.out] at hh; exact hh)
   ·exact zAa hp fo tv (sqi 4)
   ·exact zBi hp fo tv (sqi 5) (fun v1 v2 w h1 h2 => ⟨_, rfl, h1⟩)
   ·exact zBi hp fo tv (sqi 5) (fun v1 v2 w h1 h2 => ⟨_, rfl, h2⟩)
   ·exact aS hp (mq 0 rfl) zAy zA9
   ·exact sS 6 hp (mq 0 rfl) zAx
   ·exact zAh hp fo tv (sqi 7)
   intro L vs w45 nb hL hC hn E45
   have e0 := wXi hC 0
   have e1 := wXi hC 1
   have e2 := wXi hC 2
   have e7 := wXi hC 7
   have e10 := wXi hC 10
   have e8 : vs 8 = .pointer (some ⟨nb 8, 0, none⟩) := hn _ (mq 0 rfl)
   have E := E45; try simp only [LM, zAc] at E
   rw [zAd hL]
   simp only [SP, Nat.zero_add, Nat.reduceAdd]
   rw [e0, e1, e2, e7, e10, e8]
   generalize nb 8 = b45_8 at E ⊢
   generalize vs 3 = u45_3
   generalize vs 4 = u45_4
   generalize vs 5 = u45_5
   generalize vs 6 = u45_6
   clear e0 e1 e2 e7 e10 e8 hC hn E45 hL vs L nb
   go_upto_region 20 with (fail)
   refine rg [Fq.is (.slice (some ⟨b25_4, 0, none⟩) 4 4), Fq.is (.int .i64 2), ip b25_4 12, Fq.st [.n N1, .n (0), .n N2], Fq.is (.slice (some ⟨b25_4, 0, none⟩) 4 4), Fq.is (.int .i64 2), ip b25_4 12, Fq.st [.n N1, .n (0), .n N2], Fq.tup2 (Fq.st [.n 0, .n 0, .n 0, .n 0]) (yF), Fq.tup2 (Fq.st [.n 0, .n 0, .n 0, .n 0]) (yF), Fq.st [.n 0, .n 0, .n 0, .n 0], yF, Fq.any, Fq.any, yF] N16 [⟨12, 13, 8, Fq.st [.n 0, .n 0, .n 0, .n 0], Fq.st [.n 0, .n 0, .n 0, .n 0], none⟩] E (fun hp => ⟨?_, ?_, ?_, ?_, ?_, ?_, ?_, ?_, ?_, ?_, ?_, ?_, ?_, ?_, ?_, tv⟩) ?_
   ·exact zAa hp fo tv (sqo 16)
   ·exact zAa hp fo tv (sqo 18)
   ·exact zAe (F := fun v _ => v = .slice (some ⟨b25_4, 0, none⟩) 4 4) (G := fun v _ => v = .int .i64 2) hp fo tv (sqi 0) (sqi 1) (fun ρ w hc h h' => ⟨_, by simp [execOp, go_sem, h, h', hc], rfl⟩)
   ·exact lS 12 6 hp (mq 4 rfl) zAl (sqi 2)
   ·exact zAa hp fo tv (sqo 16)
   ·exact zAa hp fo tv (sqo 18)
   ·exact zAe (F := fun v _ => v = .slice (some ⟨b25_4, 0, none⟩) 4 4) (G := fun v _ => v = .int .i64 2) hp fo tv (sqi 4) (sqi 5) (fun ρ w hc h h' => ⟨_, by simp [execOp, go_sem, h, h', hc], rfl⟩)
   ·exact lS 12 6 hp (mq 4 rfl) zAl (sqi 6)
   ·exact wXb (Fq.st [.n N1, .n (0), .n N2]) (Fq.st [.n N1, .n (0), .n N2]) hp zF3 (sqi 3) (sqi 7) fun v v' w h h' => zF7 h h' (Int.lt_of_lt_of_le BN1.out (zAb (by omega))) (Int.lt_of_lt_of_le (zAt (by decide) (by decide)) (zAb (by omega))) (Int.lt_of_lt_of_le BN2.out (zAb (by omega))) (Int.lt_of_lt_of_le BN1.out (zAb (by omega))) (Int.lt_of_lt_of_le (zAt (by decide) (by decide)) (zAb (by omega))) (Int.lt_of_lt_of_le BN2.out (zAb (by omega))) U2.out.2.2.2
   ·exact zAa hp fo tv (sqi 8)
   ·exact zBi hp fo tv (sqi 9) (fun v1 v2 w h1 h2 => ⟨_, rfl, h1⟩)
   ·exact zBi hp fo tv (sqi 9) (fun v1 v2 w h1 h2 => ⟨_, rfl, h2⟩)
   ·exact aS hp (mq 0 rfl) zBe zBw
   ·exact sS 10 hp (mq 0 rfl) zBc
   ·exact zAh hp fo tv (sqi 11)
   intro L vs w46 nb hL hC hn E46
   have e0 := wXi hC 0
   have e1 := wXi hC 1
   have e2 := wXi hC 2
   have e4 := wXi hC 4
   have e5 := wXi hC 5
   have e6 := wXi hC 6
   have e11 := wXi hC 11
   have e14 := wXi hC 14
   have e12 : vs 12 = .pointer (some ⟨nb 12, 0, none⟩) := hn _ (mq 0 rfl)
   have E := E46; try simp only [LM, zAc] at E
   rw [zAd hL]
   simp only [SP, Nat.zero_add, Nat.reduceAdd]
   rw [e0, e1, e2, e4, e5, e6, e11, e14, e12]
   generalize nb 12 = b46_12 at E ⊢
   generalize vs 3 = u46_3
   generalize vs 7 = u46_7
   generalize vs 8 = u46_8
   generalize vs 9 = u46_9
   generalize vs 10 = u46_10
   clear e0 e1 e2 e4 e5 e6 e11 e14 e12 hC hn E46 hL vs L nb
   go_upto_region 21 with (fail)
   refine rg [Fq.is (.int .i64 1), Fq.is (.slice (some ⟨b26_0, 0, none⟩) 4 4), Fq.is (.int .i64 2), ip b26_0 2, Fq.is (.int .i64 1), yF, yF, Fq.is (.int .i64 1), Fq.is (.slice (some ⟨b26_0, 0, none⟩) 4 4), Fq.is (.int .i64 2), ip b26_0 2, Fq.is (.int .i64 1), yF, yF, yF, yF, yF] N17 [] E (fun hp => ⟨?_, ?_, ?_, ?_, ?_, ?_, ?_, ?_, ?_, ?_, ?_, ?_, ?_, ?_, ?_, ?_, ?_, tv⟩) ?_
   ·exact zAa hp fo tv (sqo 21)
   ·exact zAa hp fo tv (sqo 17)
   ·exact zAa hp fo tv (sqo 18)
   ·exact zAe (F := fun v _ => v = .slice (some ⟨b26_0, 0, none⟩) 4 4) (G := fun v _ => v = .int .i64 2) hp fo tv (sqi 1) (sqi 2) (fun ρ w hc h h' => ⟨_, by simp [execOp, go_sem, h, h', hc], rfl⟩)
   ·exact wXc 2 hp (mq 4 rfl) (sqi 3)
   ·exact zAe (F := fun v _ => v = .int .i64 1) (G := fun v _ => v = .int .i64 1) hp fo tv (sqi 0) (sqi 4) (fun ρ w hc h h' => ⟨.bool false, by simp [execOp, go_sem, h, h'], rfl⟩)
   ·exact zAa hp fo tv (sqi 5)
   ·exact zAa hp fo gqi (sqo 23)
   ·exact zAa hp fo gqi (sqo 17)
   ·exact zAa hp fo gqi (sqo 18)
   ·exact zAe (F := fun v _ => v = .slice (some ⟨b26_0, 0, none⟩) 4 4) (G := fun v _ => v = .int .i64 2) hp fo gqi (sqi 8) (sqi 9) (fun ρ w hc h h' => ⟨_, by simp [execOp, go_sem, h, h', hc], rfl⟩)
   ·exact zFi (off := 2) (fs := [.v (.int .i64 5), .v (.int .i64 5), .v (.int .i64 1), .v (.int .i64 1)]) (u := .int .i64 1) hp fo gqi (mq 4 rfl) (.inl rfl) rfl rfl (fun ρ w b h1 h2 => by simp [execOp, go_sem, h1, h2]) (sqi 10) (fun _ => rfl)
   ·exact zAe (F := fun v _ => v = .int .i64 1) (G := fun v _ => v = .int .i64 1) hp fo gqi (sqi 7) (sqi 11) (fun ρ w hc h h' => ⟨.bool false, by simp [execOp, go_sem, h, h'], rfl⟩)
   ·exact zAe (F := fun v _ => v = .bool false) (G := fun v _ => v = .bool false) hp fo tv (sqi 6) (sqi 12) (fun ρ w hc h h' => ⟨_, by simp [execOp, go_sem, h, h'], rfl⟩)
   ·exact zAa hp fo tv (sqi 13)
   ·exact zAa hp fo gqi (sqo 25)
   ·exact zAe (F := fun v _ => v = .bool false) (G := fun v _ => v = .bool false) hp fo tv (sqi 14) (sqi 15) (fun ρ w hc h h' => ⟨_, by simp [execOp, go_sem, h, h'], rfl⟩)
   intro L vs w47 nb hL hC hn E47
   have e0 := wXi hC 0
   have e1 := wXi hC 1
   have e2 := wXi hC 2
   have e3 := wXi hC 3
   have e4 := wXi hC 4
   have e5 := wXi hC 5
   have e6 := wXi hC 6
   have e7 := wXi hC 7
   have e8 := wXi hC 8
   have e9 := wXi hC 9
   have e10 := wXi hC 10
   have e11 := wXi hC 11
   have e12 := wXi hC 12
   have e13 := wXi hC 13
   have e14 := wXi hC 14
   have e15 := wXi hC 15
   have e16 := wXi hC 16
   have E := E47; try simp only [LM, zAc] at E
   rw [zAd hL]
   simp only [SP, Nat.zero_add, Nat.reduceAdd]
   rw [e0, e1, e2, e3, e4, e5, e6, e7, e8, e9, e10, e11, e12, e13, e14, e15, e16]
   clear e0 e1 e2 e3 e4 e5 e6 e7 e8 e9 e10 e11 e12 e13 e14 e15 e16 hC hn E47 hL vs L nb
   clear Ba Bb Bc BA BB BC BP BR BN1 BN2 K0 K1 K2 J0 J1 J2 U0 U1 U2
   replace E := E.drop.drop.drop.drop
   go_wp2
   go_roundw
   case rel => exact ⟨3, by first | rfl | go_num, by omega, by omega, E⟩
   case measure => first | (simp [intOf]; omega) | simp [intOf] | decide
  ·go_upto_region 13 with (fail)
   refine rg [Fq.is (.int .i64 3), Fq.is (.slice (some ⟨b25_4, 0, none⟩) 4 4), Fq.is (.int .i64 ((4 : Nat) : Int)), yT] N13 [] E (fun hp => ⟨?_, ?_, ?_, ?_, tv⟩) ?_
   ·exact zAa hp fo tv (sqo 18)
   ·exact zAa hp fo tv (sqo 16)
   ·exact zEj hp fo tv (sqi 1) (fun _ => rfl)
   ·exact zAe (F := fun v _ => v = .int .i64 3) (G := fun v _ => v = .int .i64 ((4 : Nat) : Int)) hp fo tv (sqi 0) (sqi 2) (fun ρ w hc h h' => ⟨.bool true, by simp [execOp, go_sem, h, h'], rfl⟩)
   intro L vs w48 nb hL hC hn E48
   have e0 := wXi hC 0
   have e1 := wXi hC 1
   have e2 := wXi hC 2
   have e3 := wXi hC 3
   have E := E48; try simp only [LM, zAc] at E
   rw [zAd hL]
   simp only [SP, Nat.zero_add, Nat.reduceAdd]
   rw [e0, e1, e2, e3]
   clear e0 e1 e2 e3 hC hn E48 hL vs L nb
   go_upto_region 15 with (fail)
   refine rg [Fq.is (.slice (some ⟨b25_4, 0, none⟩) 4 4), Fq.is (.int .i64 3), ip b25_4 18, Fq.st [.n P, .v (.bool true), .v (.slice none 0 0), .n P], Fq.is (.int .i64 1), Fq.is (.slice (some ⟨b26_0, 0, none⟩) 4 4), Fq.is (.int .i64 3), ip b26_0 3, Fq.is (.int .i64 1), yF, yF, Fq.is (.int .i64 3), yF, yF, Fq.is (undef), Fq.is (undef), Fq.is (undef), Fq.is (undef), Fq.is (undef), yF, yF] N13 [] E (fun hp => ⟨?_, ?_, ?_, ?_, ?_, ?_, ?_, ?_, ?_, ?_, ?_, ?_, ?_, ?_, ?_, ?_, ?_, ?_, ?_, ?_, ?_, tv⟩) ?_
   ·exact zAa hp fo tv (sqo 16)
   ·exact zAa hp fo tv (sqo 18)
   ·exact zAe (F := fun v _ => v = .slice (some ⟨b25_4, 0, none⟩) 4 4) (G := fun v _ => v = .int .i64 3) hp fo tv (sqi 0) (sqi 1) (fun ρ w hc h h' => ⟨_, by simp [execOp, go_sem, h, h', hc], rfl⟩)
   ·exact lS 18 6 hp (mq 1 rfl) zAl (sqi 2)
   ·exact wXa (Fq.st [.n P, .v (.bool true), .v (.slice none 0 0), .n P]) hp zCt (sqi 3) fun v w h => exPCheckW h (Int.lt_of_lt_of_le BP.out (zAb (by omega)))
   ·exact zAa hp fo tv (sqo 17)
   ·exact zAa hp fo tv (sqo 18)
   ·exact zAe (F := fun v _ => v = .slice (some ⟨b26_0, 0, none⟩) 4 4) (G := fun v _ => v = .int .i64 3) hp fo tv (sqi 5) (sqi 6) (fun ρ w hc h h' => ⟨_, by simp [execOp, go_sem, h, h', hc], rfl⟩)
   ·exact wXc 3 hp (mq 0 rfl) (sqi 7)
   ·exact zAe (F := fun v _ => v = .int .i64 1) (G := fun v _ => v = .int .i64 1) hp fo tv (sqi 4) (sqi 8) (fun ρ w hc h h' => ⟨.bool false, by simp [execOp, go_sem, h, h'], rfl⟩)
   ·exact zAa hp fo tv (sqi 9)
   ·exact zAa hp fo gqi (sqo 18)
   ·exact zAf (F := fun v _ => v = .int .i64 3) hp fo gqi (sqi 11) (fun ρ w hc h => ⟨.bool false, by simp [execOp, go_sem, h, hc], rfl⟩)
   ·exact zAa hp fo gqi (sqi 12)
   ·exact zAj hp fo rfl gqi (fun _ => rfl)
   ·exact zAj hp fo rfl gqi (fun _ => rfl)
   ·exact zAj hp fo rfl gqi (fun _ => rfl)
   ·exact zAj hp fo rfl gqi (fun _ => rfl)
   ·exact zAj hp fo rfl gqi (fun _ => rfl)
   ·exact zAe (F := fun v _ => v = .bool false) (G := fun v _ => v = .bool false) hp fo gqi (sqi 13) (zAi (fun _ => rfl)) (fun ρ w hc h h' => ⟨_, by simp [execOp, go_sem, h, h'], rfl⟩)
   ·exact zAe (F := fun v _ => v = .bool false) (G := fun v _ => v = .bool false) hp fo tv (sqi 10) (sqi 19) (fun ρ w hc h h' => ⟨_, by simp [execOp, go_sem, h, h'], rfl⟩)
   intro L vs w49 nb hL hC hn E49
   have e0 := wXi hC 0
   have e1 := wXi hC 1
   have e2 := wXi hC 2
   have e4 := wXi hC 4
   have e5 := wXi hC 5
   have e6 := wXi hC 6
   have e7 := wXi hC 7
   have e8 := wXi hC 8
   have e9 := wXi hC 9
   have e10 := wXi hC 10
   have e11 := wXi hC 11
   have e12 := wXi hC 12
   have e13 := wXi hC 13
   have e14 := wXi hC 14
   have e15 := wXi hC 15
   have e16 := wXi hC 16
   have e17 := wXi hC 17
   have e18 := wXi hC 18
   have e19 := wXi hC 19
   have e20 := wXi hC 20
   have E := E49; try simp only [LM, zAc] at E
   rw [zAd hL]
   simp only [SP, Nat.zero_add, Nat.reduceAdd]
   rw [e0, e1, e2, e4, e5, e6, e7, e8, e9, e10, e11, e12, e13, e14, e15, e16, e17, e18, e19, e20]
   generalize vs 3 = u49_3
   clear e0 e1 e2 e4 e5 e6 e7 e8 e9 e10 e11 e12 e13 e14 e15 e16 e17 e18 e19 e20 hC hn E49 hL vs L nb
   go_upto_region 17 with (fail)
   refine rg [Fq.is (.int .i64 3), yT] N13 [] E (fun hp => ⟨?_, ?_, tv⟩) ?_
   ·exact zAa hp fo tv (sqo 18)
   ·exact zAf (F := fun v _ => v = .int .i64 3) hp fo tv (sqi 0) (fun ρ w hc h => ⟨.bool true, by simp [execOp, go_sem, h, hc], rfl⟩)
   intro L vs w50 nb hL hC hn E50
   have e0 := wXi hC 0
   have e1 := wXi hC 1
   have E := E50; try simp only [LM, zAc] at E
   rw [zAd hL]
   simp only [SP, Nat.zero_add, Nat.reduceAdd]
   rw [e0, e1]
   clear e0 e1 hC hn E50 hL vs L nb
   clear Ba Bb Bc BA BB BC BP BR BN1 BN2 K0 K1 K2 J0 J1 J2 U0 U1 U2
   go_wp2
   go_roundw
   case rel => exact ⟨4, by first | rfl | go_num, by omega, by omega, E⟩
   case measure => first | (simp [intOf]; omega) | simp [intOf] | decide
  ·go_upto_region 13 with (fail)
   refine rg [Fq.is (.int .i64 4), Fq.is (.slice (some ⟨b25_4, 0, none⟩) 4 4), Fq.is (.int .i64 ((4 : Nat) : Int)), yF] N13 [] E (fun hp => ⟨?_, ?_, ?_, ?_, tv⟩) ?_
   ·exact zAa hp fo tv (sqo 18)
   ·exact zAa hp fo tv (sqo 16)
   ·exact zEj hp fo tv (sqi 1) (fun _ => rfl)
   ·exact zAe (F := fun v _ => v = .int .i64 4) (G := fun v _ => v = .int .i64 ((4 : Nat) : Int)) hp fo tv (sqi 0) (sqi 2) (fun ρ w hc h h' => ⟨.bool false, by simp [execOp, go_sem, h, h'], rfl⟩)
   intro L vs w51 nb hL hC hn E51
   have e0 := wXi hC 0
   have e1 := wXi hC 1
   have e2 := wXi hC 2
   have e3 := wXi hC 3
   have E := E51; try simp only [LM, zAc] at E
   rw [zAd hL]
   simp only [SP, Nat.zero_add, Nat.reduceAdd]
   rw [e0, e1, e2, e3]
   clear e0 e1 e2 e3 hC hn E51 hL vs L nb
   go_upto_region 23 with (fail)
   refine rg [yT, yT] N13 [] E (fun hp => ⟨?_, ?_, tv⟩) ?_
   ·exact zAa hp fo tv (sqo 7)
   ·exact zAh hp fo tv (sqi 0)
   intro L vs w52 nb hL hC hn E52
   have e0 := wXi hC 0
   have e1 := wXi hC 1
   have E := E52; try simp only [LM, zAc] at E
   rw [zAd hL]
   simp only [SP, Nat.zero_add, Nat.reduceAdd]
   rw [e0, e1]
   clear e0 e1 hC hn E52 hL vs L nb
   clear Ba Bb Bc BA BB BC BP BR BN1 BN2 K0 K1 K2 J0 J1 J2 U0 U1 U2
   go_wp2
   refine bodyPost_ret (v := .bool true) ?_ rfl ⟨_, rfl, E.below, rfl⟩
   simp [results, Try.results8, go_sem]

theorem zJk (w : World) (n1 : Bool) (a1 : Option Addr) (k1 c1 : Nat) (xs1 : List Int) (h1 : Sl w a1 k1 c1 xs1) (hk1 : k1 ≤ 9223372036854775807) (n2 : Bool) (a2 : Option Addr) (k2 c2 : Nat) (xs2 : List Int) (h2 : Sl w a2 k2 c2 xs2) (hk2 : k2 ≤ 9223372036854775807) (n3 : Bool) (a3 : Option Addr) (k3 c3 : Nat) (xs3 : List Int) (h3 : Sl w a3 k3 c3 xs3) (hk3 : k3 ≤ 9223372036854775807) : Calls Try.prog 8 #[.agg #[.bool n1, .slice a1 k1 c1], .agg #[.bool n2, .slice a2 k2 c2], .agg #[.bool n3, .slice a3 k3 c3]] w fun e w' => e = .returned (.bool true) ∧ Below w.heap.size w w' := by
 refine (zJj w n1 a1 k1 c1 xs1 h1 hk1 n2 a2 k2 c2 xs2 h2 hk2 n3 a3 k3 c3 xs3 h3 hk3).mono ?_
 rintro e w' ⟨v', rfl, hb, rfl⟩
 exact ⟨rfl, hb⟩

end Go.Proofs.Ytdhkhedhnolcjaa
