/- Ub, Rg, Uc, Ud. -/
import Derived.Test.YtdhkhedhnolcjaaGreatCj3
set_option linter.unusedSimpArgs false
set_option linter.unusedVariables false
namespace Go.Proofs.YtdhkhedhnolcjaaGreat
open Go Go.RowKit

theorem zGq (args : Array Value) (w : World) : (callFunc 15 args).run Tryz.prog w = .ok (.enter 15 args) w := zAq Tryz.func15 (by kernel_rfl) rfl args w
theorem zE1 (args : Array Value) (w : World) : (callFunc 16 args).run Tryz.prog w = .ok (.enter 16 args) w := zAq Tryz.func16 (by kernel_rfl) rfl args w
theorem zE0 (args : Array Value) (w : World) : (callFunc 19 args).run Tryz.prog w = .ok (.enter 19 args) w := zAq Tryz.func19 (by kernel_rfl) rfl args w
theorem zJz (args : Array Value) (w : World) : (callFunc 21 args).run Tryz.prog w = .ok (.enter 21 args) w := zAq Tryz.func21 (by kernel_rfl) rfl args w
theorem zH2 (args : Array Value) (w : World) : (callFunc 23 args).run Tryz.prog w = .ok (.enter 23 args) w := zAq Tryz.func23 (by kernel_rfl) rfl args w
theorem zJ1 (args : Array Value) (w : World) : (callFunc 25 args).run Tryz.prog w = .ok (.enter 25 args) w := zAq Tryz.func25 (by kernel_rfl) rfl args w
theorem zMn (args : Array Value) (w : World) : (callFunc 27 args).run Tryz.prog w = .ok (.enter 27 args) w := zAq Tryz.func27 (by kernel_rfl) rfl args w
theorem zMp (args : Array Value) (w : World) : (callFunc 29 args).run Tryz.prog w = .ok (.enter 29 args) w := zAq Tryz.func29 (by kernel_rfl) rfl args w
theorem zJ0 (args : Array Value) (w : World) : (callFunc 32 args).run Tryz.prog w = .ok (.enter 32 args) w := zAq Tryz.func32 (by kernel_rfl) rfl args w
theorem zMq (args : Array Value) (w : World) : (callFunc 33 args).run Tryz.prog w = .ok (.enter 33 args) w := zAq Tryz.func33 (by kernel_rfl) rfl args w
theorem zMr (args : Array Value) (w : World) : (callFunc 35 args).run Tryz.prog w = .ok (.enter 35 args) w := zAq Tryz.func35 (by kernel_rfl) rfl args w
theorem zDr (args : Array Value) (w : World) : (callFunc 39 args).run Tryz.prog w = .ok (.enter 39 args) w := zAq Tryz.func39 (by kernel_rfl) rfl args w
theorem zH1 (args : Array Value) (w : World) : (callFunc 75 args).run Tryz.prog w = .ok (.enter 75 args) w := zAq Tryz.func75 (by kernel_rfl) rfl args w
theorem zGr (args : Array Value) (w : World) : (callFunc 51 args).run Tryz.prog w = .ok (.enter 51 args) w := zAq Tryz.func51 (by kernel_rfl) rfl args w
theorem zEc (args : Array Value) (w : World) : (callFunc 63 args).run Tryz.prog w = .ok (.enter 63 args) w := zAq Tryz.func63 (by kernel_rfl) rfl args w
theorem zMo (args : Array Value) (w : World) : (callFunc 65 args).run Tryz.prog w = .ok (.enter 65 args) w := zAq Tryz.func65 (by kernel_rfl) rfl args w
theorem zDd (args : Array Value) (w : World) : (callFunc 67 args).run Tryz.prog w = .ok (.enter 67 args) w := zAq Tryz.func67 (by kernel_rfl) rfl args w
theorem zAm : rowB 33 6 = true := by kernel_rfl
theorem zA7 : zCx 33 6 = true := by kernel_rfl
theorem zBb (w : World) : Fits w [.n 0, .n 0, .n 0] [.bool false, .slice none 0 0, .bool false, .slice none 0 0, .bool false, .slice none 0 0] := ⟨_, _, _, rfl, Num.zero w, _, _, _, rfl, Num.zero w, _, _, _, rfl, Num.zero w, rfl⟩
theorem zOd (w : World) : (Fq.st [.n 0, .n 0, .n 0]).P (.agg ([.bool false, .slice none 0 0, .bool false, .slice none 0 0, .bool false, .slice none 0 0] : List Value).toArray) w := ⟨_, rfl, zBb w⟩
theorem zB8 {d : Option Tmp} {ty : TypeId} {ps : String} {af : Array Edge} (ρ : Operand → Value) (w : World) : (execOp ρ { dst := d, op := .alloc 33, type := ty, pos := ps, after := af, guard := none }).run Tryz.prog w = .ok (.value (.pointer (some ⟨w.heap.size, 0, none⟩))) (w.alloc (.cells [.bool false, .slice none 0 0, .bool false, .slice none 0 0, .bool false, .slice none 0 0].toArray 33)) := by
 simp [execOp, go_sem]
theorem zCw : rowB 36 8 = true := by kernel_rfl
theorem zBz : zCx 36 8 = true := by kernel_rfl
theorem zB5 (w : World) : Fits w [.n 0, .n 0, .n 0, .n 0] [.bool false, .slice none 0 0, .bool false, .slice none 0 0, .bool false, .slice none 0 0, .bool false, .slice none 0 0] := ⟨_, _, _, rfl, Num.zero w, _, _, _, rfl, Num.zero w, _, _, _, rfl, Num.zero w, _, _, _, rfl, Num.zero w, rfl⟩
theorem zKf (w : World) : (Fq.st [.n 0, .n 0, .n 0, .n 0]).P (.agg ([.bool false, .slice none 0 0, .bool false, .slice none 0 0, .bool false, .slice none 0 0, .bool false, .slice none 0 0] : List Value).toArray) w := ⟨_, rfl, zB5 w⟩
theorem zEg {d : Option Tmp} {ty : TypeId} {ps : String} {af : Array Edge} (ρ : Operand → Value) (w : World) : (execOp ρ { dst := d, op := .alloc 36, type := ty, pos := ps, after := af, guard := none }).run Tryz.prog w = .ok (.value (.pointer (some ⟨w.heap.size, 0, none⟩))) (w.alloc (.cells [.bool false, .slice none 0 0, .bool false, .slice none 0 0, .bool false, .slice none 0 0, .bool false, .slice none 0 0].toArray 36)) := by
 simp [execOp, go_sem]
def eqF (a b c x y z : Int) : Bool := decide (a = x) && (decide (b = y) && decide (c = z))
def cont (a b c : Int) : Int := (Int.gcd (Int.gcd a b : Int) c : Int)
section
variable {os : List Oper} {Q : Exit → Act → World → Prop} {a : Act} {p : Pq} {B B0 : Nat} {w0 : World}
variable {i s : Nat} {d : Option Tmp} {ty : TypeId} {ps : String} {af : Array Edge} {gd : Option (Nat × Bool)}
theorem zF2 {x0 : Operand} {z0 : Int} {x1 : Operand} {z1 : Int} {x2 : Operand} {z2 : Int} (hp : p.Ok B B0) (hF : p.Free i) (hg : GdQ os a p B B0 w0 af gd) (h0 : SrcQ os a p B B0 w0 af x0 fun v w => Num w v z0) (h1 : SrcQ os a p B B0 w0 af x1 fun v w => Num w v z1) (h2 : SrcQ os a p B B0 w0 af x2 fun v w => Num w v z2) (hC : ∀ v w, (Fq.st [.n z0, .n z1, .n z2]).P v w → (p.c i).P v w) :
  zAr os Q a p B B0 w0 i { dst := d, op := .build 33 #[(0, x0), (1, x1), (2, x2)], type := ty, pos := ps, after := af, guard := gd } := by
 refine zBs hp hF hg fun L vs w hG hL hc hd => ?_
 have g0 := h0 L vs w hG hd
 obtain ⟨n0, ao0, k0, c0, e0⟩ := g0.parts
 have m0 : Num w (.agg #[.bool n0, .slice ao0 k0 c0]) z0 := by rw [← e0]; exact g0
 have g1 := h1 L vs w hG hd
 obtain ⟨n1, ao1, k1, c1, e1⟩ := g1.parts
 have m1 : Num w (.agg #[.bool n1, .slice ao1 k1 c1]) z1 := by rw [← e1]; exact g1
 have g2 := h2 L vs w hG hd
 obtain ⟨n2, ao2, k2, c2, e2⟩ := g2.parts
 have m2 : Num w (.agg #[.bool n2, .slice ao2 k2 c2]) z2 := by rw [← e2]; exact g2
 refine ⟨.agg #[.bool n0, .slice ao0 k0 c0, .bool n1, .slice ao1 k1 c1, .bool n2, .slice ao2 k2 c2], ?_, hC _ _ ⟨_, rfl, _, _, _, rfl, m0, _, _, _, rfl, m1, _, _, _, rfl, m2, rfl⟩⟩
 generalize (lay os.toArray L vs os.toArray.size a).eval = ρ at e0 e1 e2
 simp [execOp, go_sem, e0, e1, e2]
theorem zHc {x0 : Operand} {z0 : Int} {x1 : Operand} {z1 : Int} {x2 : Operand} {z2 : Int} {x3 : Operand} {z3 : Int} (hp : p.Ok B B0) (hF : p.Free i) (hg : GdQ os a p B B0 w0 af gd) (h0 : SrcQ os a p B B0 w0 af x0 fun v w => Num w v z0) (h1 : SrcQ os a p B B0 w0 af x1 fun v w => Num w v z1) (h2 : SrcQ os a p B B0 w0 af x2 fun v w => Num w v z2) (h3 : SrcQ os a p B B0 w0 af x3 fun v w => Num w v z3) (hC : ∀ v w, (Fq.st [.n z0, .n z1, .n z2, .n z3]).P v w → (p.c i).P v w) :
  zAr os Q a p B B0 w0 i { dst := d, op := .build 36 #[(0, x0), (1, x1), (2, x2), (3, x3)], type := ty, pos := ps, after := af, guard := gd } := by
 refine zBs hp hF hg fun L vs w hG hL hc hd => ?_
 have g0 := h0 L vs w hG hd
 obtain ⟨n0, ao0, k0, c0, e0⟩ := g0.parts
 have m0 : Num w (.agg #[.bool n0, .slice ao0 k0 c0]) z0 := by rw [← e0]; exact g0
 have g1 := h1 L vs w hG hd
 obtain ⟨n1, ao1, k1, c1, e1⟩ := g1.parts
 have m1 : Num w (.agg #[.bool n1, .slice ao1 k1 c1]) z1 := by rw [← e1]; exact g1
 have g2 := h2 L vs w hG hd
 obtain ⟨n2, ao2, k2, c2, e2⟩ := g2.parts
 have m2 : Num w (.agg #[.bool n2, .slice ao2 k2 c2]) z2 := by rw [← e2]; exact g2
 have g3 := h3 L vs w hG hd
 obtain ⟨n3, ao3, k3, c3, e3⟩ := g3.parts
 have m3 : Num w (.agg #[.bool n3, .slice ao3 k3 c3]) z3 := by rw [← e3]; exact g3
 refine ⟨.agg #[.bool n0, .slice ao0 k0 c0, .bool n1, .slice ao1 k1 c1, .bool n2, .slice ao2 k2 c2, .bool n3, .slice ao3 k3 c3], ?_, hC _ _ ⟨_, rfl, _, _, _, rfl, m0, _, _, _, rfl, m1, _, _, _, rfl, m2, _, _, _, rfl, m3, rfl⟩⟩
 generalize (lay os.toArray L vs os.toArray.size a).eval = ρ at e0 e1 e2 e3
 simp [execOp, go_sem, e0, e1, e2, e3]
end
set_option maxRecDepth 100000 in
set_option maxHeartbeats 4000000 in
theorem zEd {w : World} {v v' u u' : Value} {a b c d : Int} (h : Num w v a) (h' : Num w v' b) (g : Num w u c) (g' : Num w u' d) (ha : ab a < pw 200) (hb : ab b < pw 200) (hc : ab c < pw 200) (hd : ab d < pw 200) :
  Calls Tryz.prog 63 #[v, v', u, u'] w fun e w' => ∃ v', e = .returned v' ∧ Below w.heap.size w w' ∧ Num w' v' ((a * b) + (c * d)) := by
 replace ha := hidd ha
 replace hb := hidd hb
 replace hc := hidd hc
 replace hd := hidd hd
 obtain ⟨n0, ao0, k0, c0, rfl⟩ := h.parts
 obtain ⟨n1, ao1, k1, c1, rfl⟩ := h'.parts
 obtain ⟨n2, ao2, k2, c2, rfl⟩ := g.parts
 obtain ⟨n3, ao3, k3, c3, rfl⟩ := g'.parts
 obtain ⟨w1, b1, hw1, hb1, hs1, E⟩ := zCu w (F := Fq.num a) (us := [.bool n0, .slice ao0 k0 c0]) 31 rfl (by simp) (zB0 _ _ _ _) h
 obtain ⟨w2, b2, hw2, hb2, hs2, E⟩ := fN E hs1 31 h'
 obtain ⟨w3, b3, hw3, hb3, hs3, E⟩ := zDf E hs2 (F := Fq.num c) (us := [.bool n2, .slice ao2 k2 c2]) 31 rfl (by simp) (zB0 _ _ _ _) (g.mono E.below)
 obtain ⟨w4, b4, hw4, hb4, hs4, E⟩ := zDf E hs3 (F := Fq.num d) (us := [.bool n3, .slice ao3 k3 c3]) 31 rfl (by simp) (zB0 _ _ _ _) (g'.mono E.below)
 obtain ⟨w5, b5, hw5, hb5, hs5, E⟩ := fZ E hs4 31
 go_enter Tryz.func63, Tryz.ntmps63
 go_upto_region 1 with (fail)
 rw [← hw1]
 rw [← hw2]
 rw [← hw3]
 rw [← hw4]
 rw [← hw5]
 rw [← hb5]
 rw [← hb4]
 rw [← hb3]
 rw [← hb2]
 rw [← hb1]
 clear hw1 hw2 hw3 hw4 hw5 hb1 hb2 hb3 hb4 hb5 hs5 hs1 hs2 hs3 hs4
 have B6 : Hid (ab ((a * b)) < pw 400) := zAt ha.out hb.out (by omega)
 have B7 : Hid (ab ((c * d)) < pw 400) := zAt hc.out hd.out (by omega)
 have B8 : Hid (ab (((a * b) + (c * d))) < pw 401) := zA5 B6.out B7.out (by omega) (by omega)
 refine rg [Fq.num a, Fq.num b, Fq.num (a * b), Fq.num c, Fq.num d, Fq.num (c * d), Fq.num ((a * b) + (c * d)), Fq.any] [some (7, Fq.num ((a * b) + (c * d))), none, none, none, none] [] E (fun hp => ⟨?_, ?_, ?_, ?_, ?_, ?_, ?_, ?_, tv⟩) ?_
 ·exact lI 0 hp (mq 4 rfl) (sqo 4) fun us w hl h => zAp hl h
 ·exact lI 0 hp (mq 3 rfl) (sqo 5) fun us w hl h => zAp hl h
 ·exact wXb (Fq.num a) (Fq.num b) hp zB1 (sqi 0) (sqi 1) fun v v' w h h' => exK (zBy h h') B6.out (by omega)
 ·exact lI 0 hp (mq 2 rfl) (sqo 6) fun us w hl h => zAp hl h
 ·exact lI 0 hp (mq 1 rfl) (sqo 7) fun us w hl h => zAp hl h
 ·exact wXb (Fq.num c) (Fq.num d) hp zB1 (sqi 3) (sqi 4) fun v v' w h h' => exK (zBy h h') B7.out (by omega)
 ·exact wXb (Fq.num (a * b)) (Fq.num (c * d)) hp zEz (sqi 2) (sqi 5) fun v v' w h h' => exK (zDn h h') B8.out (by omega)
 ·exact sP 6 hp (mq 0 rfl) (sqo 8)
 intro L vs w9 nb hL hC hn E9
 have E := E9; try simp only [LM, zAd] at E
 rw [zAe hL]
 simp only [SP, Nat.zero_add, Nat.reduceAdd]
 generalize vs 0 = u9_0
 generalize vs 1 = u9_1
 generalize vs 2 = u9_2
 generalize vs 3 = u9_3
 generalize vs 4 = u9_4
 generalize vs 5 = u9_5
 generalize vs 6 = u9_6
 clear  hC hn E9 hL vs L nb
 obtain ⟨p0_0, p0_1, c0_0, c0_1, hP0⟩ := zD0 (E.box 0 rfl)
 clear B6 B7 B8 ha hb hc hd
 go_wp2
 refine bodyPost_ret (v := .agg #[p0_0, p0_1]) ?_ rfl ⟨_, rfl, E.below, hP0⟩
 simp [results, Tryz.results63, go_sem, c0_0, c0_1]

set_option maxRecDepth 100000 in
set_option maxHeartbeats 4000000 in
theorem exQDisc0 {w : World} {v : Value} {a b c : Int} (h : (Fq.st [.n a, .n b, .n c]).P v w) (ha : ab a < pw 60) (hb : ab b < pw 60) (hc : ab c < pw 60) :
  Calls Tryz.prog 19 #[v] w fun e w' => ∃ v', e = .returned v' ∧ Below w.heap.size w w' ∧ Num w' v' (((b * b) + (((-4) * a) * c))) := by
 replace ha := hidd ha
 replace hb := hidd hb
 replace hc := hidd hc
 obtain ⟨_, rfl, hf0⟩ := h
 have hF0 := hf0
 obtain ⟨y0_p0, y0_q0, _, rfl, _y0_n0, y0_p1, y0_q1, _, rfl, _y0_n1, y0_p2, y0_q2, _, rfl, _y0_n2, rfl⟩ := hf0
 obtain ⟨w1, b1, hw1, hb1, hs1, E⟩ := gS w 33 hF0
 obtain ⟨w2, b2, hw2, hb2, hs2, E⟩ := fZ E hs1 31
 go_enter Tryz.func19, Tryz.ntmps19
 go_upto_region 1 with (fail)
 rw [← hw1]
 rw [← hw2]
 rw [← hb2]
 rw [← hb1]
 clear hw1 hw2 hb1 hb2 hs2 hs1
 have B3 : Hid (ab ((-4)) < pw 3) := zBh (by decide)
 have B4 : Hid (ab (((-4) * a)) < pw 63) := zAt B3.out ha.out (by omega)
 have B5 : Hid (ab ((b * b)) < pw 120) := zAt hb.out hb.out (by omega)
 have B6 : Hid (ab ((((-4) * a) * c)) < pw 123) := zAt B4.out hc.out (by omega)
 have B7 : Hid (ab (((b * b) + (((-4) * a) * c))) < pw 124) := zA5 B5.out B6.out (by omega) (by omega)
 refine rg [ip b1 2, Fq.num b, ip b1 2, Fq.num b, Fq.num (-4), ip b1 0, Fq.num a, Fq.num ((-4) * a), ip b1 4, Fq.num c, Fq.num ((b * b) + (((-4) * a) * c)), Fq.any] [some (11, Fq.num ((b * b) + (((-4) * a) * c))), none] [] E (fun hp => ⟨?_, ?_, ?_, ?_, ?_, ?_, ?_, ?_, ?_, ?_, ?_, ?_, tv⟩) ?_
 ·exact qa b1 0 2 hp (sqo 1)
 ·exact lN 2 2 hp (mq 1 rfl) zAc (sqi 0)
 ·exact qa b1 0 2 hp (sqo 1)
 ·exact lN 2 2 hp (mq 1 rfl) zAc (sqi 2)
 ·exact zAn (F := (Fq.is (.int .i64 (-4))).P) hp fo tv (zB2) (zAj (fun _ => rfl)) (fun v w h => (by subst h; exact rOfK w (-4) (by omega) (by omega)))
 ·exact qa b1 0 0 hp (sqo 1)
 ·exact lN 0 2 hp (mq 1 rfl) zAc (sqi 5)
 ·exact wXb (Fq.num (-4)) (Fq.num a) hp zB1 (sqi 4) (sqi 6) fun v v' w h h' => exK (zBy h h') B4.out (by omega)
 ·exact qa b1 0 4 hp (sqo 1)
 ·exact lN 4 2 hp (mq 1 rfl) zAc (sqi 8)
 ·exact zDk (F := (Fq.num b).P) (G := (Fq.num b).P) (F3 := (Fq.num ((-4) * a)).P) (F4 := (Fq.num c).P) hp fo tv (zEc) (sqi 1) (sqi 3) (sqi 7) (sqi 9) (fun v v' u u' w h h' g g' => zEd h h' g g' (Int.lt_of_lt_of_le hb.out (zAb (by omega))) (Int.lt_of_lt_of_le hb.out (zAb (by omega))) (Int.lt_of_lt_of_le B4.out (zAb (by omega))) (Int.lt_of_lt_of_le hc.out (zAb (by omega))))
 ·exact sP 10 hp (mq 0 rfl) (sqo 2)
 intro L vs w8 nb hL hC hn E8
 have e0 := wXi hC 0
 have e2 := wXi hC 2
 have e5 := wXi hC 5
 have e8 := wXi hC 8
 have E := E8; try simp only [LM, zAd] at E
 rw [zAe hL]
 simp only [SP, Nat.zero_add, Nat.reduceAdd]
 rw [e0, e2, e5, e8]
 generalize vs 1 = u8_1
 generalize vs 3 = u8_3
 generalize vs 4 = u8_4
 generalize vs 6 = u8_6
 generalize vs 7 = u8_7
 generalize vs 9 = u8_9
 generalize vs 10 = u8_10
 clear e0 e2 e5 e8 hC hn E8 hL vs L nb
 obtain ⟨p0_0, p0_1, c0_0, c0_1, hP0⟩ := zD0 (E.box 0 rfl)
 clear B3 B4 B5 B6 B7 ha hb hc
 go_wp2
 refine bodyPost_ret (v := .agg #[p0_0, p0_1]) ?_ rfl ⟨_, rfl, E.below, hP0⟩
 simp [results, Tryz.results19, go_sem, c0_0, c0_1]

theorem zE9 {w : World} {v : Value} {a b c : Int} (h : (Fq.st [.n a, .n b, .n c]).P v w) (ha : ab a < pw 60) (hb : ab b < pw 60) (hc : ab c < pw 60) :
  Calls Tryz.prog 19 #[v] w fun e w' => ∃ v', e = .returned v' ∧ Below w.heap.size w w' ∧ Num w' v' (b * b - 4 * (a * c)) := by
 have e : b * b - 4 * (a * c) = ((b * b) + (((-4) * a) * c)) := by rw [Int.mul_assoc, Int.neg_mul]; omega
 rw [e]
 exact exQDisc0 h ha hb hc

set_option maxRecDepth 100000 in
set_option maxHeartbeats 4000000 in
theorem exQValue0 {w : World} {v v' u : Value} {a b c x y : Int} (h : (Fq.st [.n a, .n b, .n c]).P v w) (h' : Num w v' x) (g : Num w u y) (ha : ab a < pw 60) (hb : ab b < pw 60) (hc : ab c < pw 60) (hx : ab x < pw 60) (hy : ab y < pw 60) :
  Calls Tryz.prog 25 #[v, v', u] w fun e w' => ∃ v', e = .returned v' ∧ Below w.heap.size w w' ∧ Num w' v' (((x * ((a * x) + (b * y))) + (c * (y * y)))) := by
 replace ha := hidd ha
 replace hb := hidd hb
 replace hc := hidd hc
 replace hx := hidd hx
 replace hy := hidd hy
 obtain ⟨_, rfl, hf0⟩ := h
 have hF0 := hf0
 obtain ⟨y0_p0, y0_q0, _, rfl, _y0_n0, y0_p1, y0_q1, _, rfl, _y0_n1, y0_p2, y0_q2, _, rfl, _y0_n2, rfl⟩ := hf0
 obtain ⟨n1, ao1, k1, c1, rfl⟩ := h'.parts
 obtain ⟨n2, ao2, k2, c2, rfl⟩ := g.parts
 obtain ⟨w1, b1, hw1, hb1, hs1, E⟩ := gS w 33 hF0
 obtain ⟨w2, b2, hw2, hb2, hs2, E⟩ := fN E hs1 31 h'
 obtain ⟨w3, b3, hw3, hb3, hs3, E⟩ := zDf E hs2 (F := Fq.num y) (us := [.bool n2, .slice ao2 k2 c2]) 31 rfl (by simp) (zB0 _ _ _ _) (g.mono E.below)
 obtain ⟨w4, b4, hw4, hb4, hs4, E⟩ := fZ E hs3 31
 go_enter Tryz.func25, Tryz.ntmps25
 go_upto_region 1 with (fail)
 rw [← hw1]
 rw [← hw2]
 rw [← hw3]
 rw [← hw4]
 rw [← hb4]
 rw [← hb3]
 rw [← hb2]
 rw [← hb1]
 clear hw1 hw2 hw3 hw4 hb1 hb2 hb3 hb4 hs4 hs1 hs2 hs3
 have B5 : Hid (ab ((a * x)) < pw 120) := zAt ha.out hx.out (by omega)
 have B6 : Hid (ab ((b * y)) < pw 120) := zAt hb.out hy.out (by omega)
 have B7 : Hid (ab (((a * x) + (b * y))) < pw 121) := zA5 B5.out B6.out (by omega) (by omega)
 have B8 : Hid (ab ((x * ((a * x) + (b * y)))) < pw 181) := zAt hx.out B7.out (by omega)
 have B9 : Hid (ab ((y * y)) < pw 120) := zAt hy.out hy.out (by omega)
 have B10 : Hid (ab ((c * (y * y))) < pw 180) := zAt hc.out B9.out (by omega)
 have B11 : Hid (ab (((x * ((a * x) + (b * y))) + (c * (y * y)))) < pw 182) := zA5 B8.out B10.out (by omega) (by omega)
 refine rg [Fq.num x, ip b1 0, Fq.num a, Fq.num x, ip b1 2, Fq.num b, Fq.num y, Fq.num ((a * x) + (b * y)), Fq.num (x * ((a * x) + (b * y))), ip b1 4, Fq.num c, Fq.num y, Fq.num y, Fq.num (y * y), Fq.num (c * (y * y)), Fq.num ((x * ((a * x) + (b * y))) + (c * (y * y))), Fq.any] [some (16, Fq.num ((x * ((a * x) + (b * y))) + (c * (y * y)))), none, none, none] [] E (fun hp => ⟨?_, ?_, ?_, ?_, ?_, ?_, ?_, ?_, ?_, ?_, ?_, ?_, ?_, ?_, ?_, ?_, ?_, tv⟩) ?_
 ·exact lI 0 hp (mq 2 rfl) (sqo 4) fun us w hl h => zAp hl h
 ·exact qa b1 0 0 hp (sqo 3)
 ·exact lN 0 2 hp (mq 3 rfl) zAc (sqi 1)
 ·exact lI 0 hp (mq 2 rfl) (sqo 4) fun us w hl h => zAp hl h
 ·exact qa b1 0 2 hp (sqo 3)
 ·exact lN 2 2 hp (mq 3 rfl) zAc (sqi 4)
 ·exact lI 0 hp (mq 1 rfl) (sqo 5) fun us w hl h => zAp hl h
 ·exact zDk (F := (Fq.num a).P) (G := (Fq.num x).P) (F3 := (Fq.num b).P) (F4 := (Fq.num y).P) hp fo tv (zEc) (sqi 2) (sqi 3) (sqi 5) (sqi 6) (fun v v' u u' w h h' g g' => zEd h h' g g' (Int.lt_of_lt_of_le ha.out (zAb (by omega))) (Int.lt_of_lt_of_le hx.out (zAb (by omega))) (Int.lt_of_lt_of_le hb.out (zAb (by omega))) (Int.lt_of_lt_of_le hy.out (zAb (by omega))))
 ·exact wXb (Fq.num x) (Fq.num ((a * x) + (b * y))) hp zB1 (sqi 0) (sqi 7) fun v v' w h h' => exK (zBy h h') B8.out (by omega)
 ·exact qa b1 0 4 hp (sqo 3)
 ·exact lN 4 2 hp (mq 3 rfl) zAc (sqi 9)
 ·exact lI 0 hp (mq 1 rfl) (sqo 5) fun us w hl h => zAp hl h
 ·exact lI 0 hp (mq 1 rfl) (sqo 5) fun us w hl h => zAp hl h
 ·exact wXb (Fq.num y) (Fq.num y) hp zB1 (sqi 11) (sqi 12) fun v v' w h h' => exK (zBy h h') B9.out (by omega)
 ·exact wXb (Fq.num c) (Fq.num (y * y)) hp zB1 (sqi 10) (sqi 13) fun v v' w h h' => exK (zBy h h') B10.out (by omega)
 ·exact wXb (Fq.num (x * ((a * x) + (b * y)))) (Fq.num (c * (y * y))) hp zEz (sqi 8) (sqi 14) fun v v' w h h' => exK (zDn h h') B11.out (by omega)
 ·exact sP 15 hp (mq 0 rfl) (sqo 6)
 intro L vs w12 nb hL hC hn E12
 have e1 := wXi hC 1
 have e4 := wXi hC 4
 have e9 := wXi hC 9
 have E := E12; try simp only [LM, zAd] at E
 rw [zAe hL]
 simp only [SP, Nat.zero_add, Nat.reduceAdd]
 rw [e1, e4, e9]
 generalize vs 0 = u12_0
 generalize vs 2 = u12_2
 generalize vs 3 = u12_3
 generalize vs 5 = u12_5
 generalize vs 6 = u12_6
 generalize vs 7 = u12_7
 generalize vs 8 = u12_8
 generalize vs 10 = u12_10
 generalize vs 11 = u12_11
 generalize vs 12 = u12_12
 generalize vs 13 = u12_13
 generalize vs 14 = u12_14
 generalize vs 15 = u12_15
 clear e1 e4 e9 hC hn E12 hL vs L nb
 obtain ⟨p0_0, p0_1, c0_0, c0_1, hP0⟩ := zD0 (E.box 0 rfl)
 clear B5 B6 B7 B8 B9 B10 B11 ha hb hc hx hy
 go_wp2
 refine bodyPost_ret (v := .agg #[p0_0, p0_1]) ?_ rfl ⟨_, rfl, E.below, hP0⟩
 simp [results, Tryz.results25, go_sem, c0_0, c0_1]

theorem qv_eq (a b c x y : Int) : qv a b c x y = ((x * ((a * x) + (b * y))) + (c * (y * y))) := by
 unfold qv
 have e1 : x * ((a * x) + (b * y)) = a * (x * x) + b * (x * y) := by rw [Int.mul_add, Int.mul_left_comm, Int.mul_left_comm x b]
 rw [e1]
theorem zKd {w : World} {v v' u : Value} {a b c x y : Int} (h : (Fq.st [.n a, .n b, .n c]).P v w) (h' : Num w v' x) (g : Num w u y) (ha : ab a < pw 60) (hb : ab b < pw 60) (hc : ab c < pw 60) (hx : ab x < pw 60) (hy : ab y < pw 60) :
  Calls Tryz.prog 25 #[v, v', u] w fun e w' => ∃ v', e = .returned v' ∧ Below w.heap.size w w' ∧ Num w' v' (qv a b c x y) := by
 rw [qv_eq]
 exact exQValue0 h h' g ha hb hc hx hy

set_option maxRecDepth 100000 in
set_option maxHeartbeats 4000000 in
theorem exQApply0 {w : World} {v v' : Value} {a b c x1 x2 x3 x4 : Int} (h : (Fq.st [.n a, .n b, .n c]).P v w) (h' : (Fq.st [.n x1, .n x2, .n x3, .n x4]).P v' w) (ha : ab a < pw 60) (hb : ab b < pw 60) (hc : ab c < pw 60) (hx1 : ab x1 < pw 60) (hx2 : ab x2 < pw 60) (hx3 : ab x3 < pw 60) (hx4 : ab x4 < pw 60) :
  Calls Tryz.prog 27 #[v, v'] w fun e w' => ∃ v', e = .returned v' ∧ Below w.heap.size w w' ∧ (Fq.st [.n (qv a b c x1 x3), .n ((((2) * (a * (x1 * x2))) + ((b * ((x1 * x4) + (x2 * x3))) + ((2) * (c * (x3 * x4)))))), .n (qv a b c x2 x4)]).P v' w' := by
 replace ha := hidd ha
 replace hb := hidd hb
 replace hc := hidd hc
 replace hx1 := hidd hx1
 replace hx2 := hidd hx2
 replace hx3 := hidd hx3
 replace hx4 := hidd hx4
 obtain ⟨_, rfl, hf0⟩ := h
 have hF0 := hf0
 obtain ⟨y0_p0, y0_q0, _, rfl, _y0_n0, y0_p1, y0_q1, _, rfl, _y0_n1, y0_p2, y0_q2, _, rfl, _y0_n2, rfl⟩ := hf0
 obtain ⟨_, rfl, hf1⟩ := h'
 have hF1 := hf1
 obtain ⟨y1_p0, y1_q0, _, rfl, _y1_n0, y1_p1, y1_q1, _, rfl, _y1_n1, y1_p2, y1_q2, _, rfl, _y1_n2, y1_p3, y1_q3, _, rfl, _y1_n3, rfl⟩ := hf1
 obtain ⟨w1, b1, hw1, hb1, hs1, E⟩ := gS w 33 hF0
 obtain ⟨w2, b2, hw2, hb2, hs2, E⟩ := fS E hs1 36 hF1
 obtain ⟨w3, b3, hw3, hb3, hs3, E⟩ := fO E hs2 33 zBb
 go_enter Tryz.func27, Tryz.ntmps27
 go_upto_region 1 with (fail)
 rw [← hw1]
 rw [← hw2]
 rw [← hw3]
 rw [← hb3]
 rw [← hb2]
 rw [← hb1]
 clear hw1 hw2 hw3 hb1 hb2 hb3 hs3 hs1 hs2
 have B4 : Hid (ab ((2)) < pw 3) := zBh (by decide)
 refine rg [Fq.num (2), Fq.any, Fq.any] N3 [⟨1, 2, 2, Fq.num 0, Fq.num (2), none⟩] E (fun hp => ⟨?_, ?_, ?_, tv⟩) ?_
 ·exact zAn (F := (Fq.is (.int .i64 2)).P) hp fo tv (zB2) (zAj (fun _ => rfl)) (fun v w h => (by subst h; exact rOfK w (2) (by omega) (by omega)))
 ·exact aN hp (mq 0 rfl)
 ·exact sN 0 hp (mq 0 rfl)
 intro L vs w5 nb hL hC hn E5
 have e1 : vs 1 = .pointer (some ⟨nb 1, 0, none⟩) := hn _ (mq 0 rfl)
 have E := E5; try simp only [LM, zAd] at E
 rw [zAe hL]
 simp only [SP, Nat.zero_add, Nat.reduceAdd]
 rw [e1]
 generalize nb 1 = b5_1 at E ⊢
 generalize vs 0 = u5_0
 clear e1 hC hn E5 hL vs L nb
 go_upto_region 2 with (fail)
 have B6 : Hid (ab ((x1 * x2)) < pw 120) := zAt hx1.out hx2.out (by omega)
 have B7 : Hid (ab ((a * (x1 * x2))) < pw 180) := zAt ha.out B6.out (by omega)
 have B8 : Hid (ab (((2) * (a * (x1 * x2)))) < pw 183) := zAt B4.out B7.out (by omega)
 have B9 : Hid (ab ((x1 * x4)) < pw 120) := zAt hx1.out hx4.out (by omega)
 have B10 : Hid (ab ((x2 * x3)) < pw 120) := zAt hx2.out hx3.out (by omega)
 have B11 : Hid (ab (((x1 * x4) + (x2 * x3))) < pw 121) := zA5 B9.out B10.out (by omega) (by omega)
 have B12 : Hid (ab ((b * ((x1 * x4) + (x2 * x3)))) < pw 181) := zAt hb.out B11.out (by omega)
 have B13 : Hid (ab ((x3 * x4)) < pw 120) := zAt hx3.out hx4.out (by omega)
 have B14 : Hid (ab ((c * (x3 * x4))) < pw 180) := zAt hc.out B13.out (by omega)
 have B15 : Hid (ab (((2) * (c * (x3 * x4)))) < pw 183) := zAt B4.out B14.out (by omega)
 have B16 : Hid (ab (((b * ((x1 * x4) + (x2 * x3))) + ((2) * (c * (x3 * x4))))) < pw 184) := zA5 B12.out B15.out (by omega) (by omega)
 have B17 : Hid (ab ((((2) * (a * (x1 * x2))) + ((b * ((x1 * x4) + (x2 * x3))) + ((2) * (c * (x3 * x4)))))) < pw 185) := zA5 B8.out B16.out (by omega) (by omega)
 refine rg [Fq.num (2), ip b1 0, Fq.num a, ip b2 0, Fq.num x1, ip b2 2, Fq.num x2, Fq.num (x1 * x2), Fq.num (a * (x1 * x2)), Fq.num ((2) * (a * (x1 * x2))), ip b1 2, Fq.num b, ip b2 0, Fq.num x1, ip b2 6, Fq.num x4, ip b2 2, Fq.num x2, ip b2 4, Fq.num x3, Fq.num ((x1 * x4) + (x2 * x3)), Fq.num (b * ((x1 * x4) + (x2 * x3))), Fq.num (2), ip b1 4, Fq.num c, ip b2 4, Fq.num x3, ip b2 6, Fq.num x4, Fq.num (x3 * x4), Fq.num (c * (x3 * x4)), Fq.num ((2) * (c * (x3 * x4))), Fq.num ((b * ((x1 * x4) + (x2 * x3))) + ((2) * (c * (x3 * x4)))), Fq.num (((2) * (a * (x1 * x2))) + ((b * ((x1 * x4) + (x2 * x3))) + ((2) * (c * (x3 * x4))))), Fq.any, Fq.any] N4 [⟨34, 35, 2, Fq.num 0, Fq.num (((2) * (a * (x1 * x2))) + ((b * ((x1 * x4) + (x2 * x3))) + ((2) * (c * (x3 * x4))))), none⟩] E (fun hp => ⟨?_, ?_, ?_, ?_, ?_, ?_, ?_, ?_, ?_, ?_, ?_, ?_, ?_, ?_, ?_, ?_, ?_, ?_, ?_, ?_, ?_, ?_, ?_, ?_, ?_, ?_, ?_, ?_, ?_, ?_, ?_, ?_, ?_, ?_, ?_, ?_, tv⟩) ?_
 ·exact lI 0 hp (mq 0 rfl) (sqo 5) fun us w hl h => zAp hl h
 ·exact qa b1 0 0 hp (sqo 2)
 ·exact lN 0 2 hp (mq 3 rfl) zAc (sqi 1)
 ·exact qa b2 0 0 hp (sqo 3)
 ·exact lN 0 2 hp (mq 2 rfl) zAc (sqi 3)
 ·exact qa b2 0 2 hp (sqo 3)
 ·exact lN 2 2 hp (mq 2 rfl) zAc (sqi 5)
 ·exact wXb (Fq.num x1) (Fq.num x2) hp zB1 (sqi 4) (sqi 6) fun v v' w h h' => exK (zBy h h') B6.out (by omega)
 ·exact wXb (Fq.num a) (Fq.num (x1 * x2)) hp zB1 (sqi 2) (sqi 7) fun v v' w h h' => exK (zBy h h') B7.out (by omega)
 ·exact wXb (Fq.num (2)) (Fq.num (a * (x1 * x2))) hp zB1 (sqi 0) (sqi 8) fun v v' w h h' => exK (zBy h h') B8.out (by omega)
 ·exact qa b1 0 2 hp (sqo 2)
 ·exact lN 2 2 hp (mq 3 rfl) zAc (sqi 10)
 ·exact qa b2 0 0 hp (sqo 3)
 ·exact lN 0 2 hp (mq 2 rfl) zAc (sqi 12)
 ·exact qa b2 0 6 hp (sqo 3)
 ·exact lN 6 2 hp (mq 2 rfl) zAc (sqi 14)
 ·exact qa b2 0 2 hp (sqo 3)
 ·exact lN 2 2 hp (mq 2 rfl) zAc (sqi 16)
 ·exact qa b2 0 4 hp (sqo 3)
 ·exact lN 4 2 hp (mq 2 rfl) zAc (sqi 18)
 ·exact zDk (F := (Fq.num x1).P) (G := (Fq.num x4).P) (F3 := (Fq.num x2).P) (F4 := (Fq.num x3).P) hp fo tv (zEc) (sqi 13) (sqi 15) (sqi 17) (sqi 19) (fun v v' u u' w h h' g g' => zEd h h' g g' (Int.lt_of_lt_of_le hx1.out (zAb (by omega))) (Int.lt_of_lt_of_le hx4.out (zAb (by omega))) (Int.lt_of_lt_of_le hx2.out (zAb (by omega))) (Int.lt_of_lt_of_le hx3.out (zAb (by omega))))
 ·exact wXb (Fq.num b) (Fq.num ((x1 * x4) + (x2 * x3))) hp zB1 (sqi 11) (sqi 20) fun v v' w h h' => exK (zBy h h') B12.out (by omega)
 ·exact lI 0 hp (mq 0 rfl) (sqo 5) fun us w hl h => zAp hl h
 ·exact qa b1 0 4 hp (sqo 2)
 ·exact lN 4 2 hp (mq 3 rfl) zAc (sqi 23)
 ·exact qa b2 0 4 hp (sqo 3)
 ·exact lN 4 2 hp (mq 2 rfl) zAc (sqi 25)
 ·exact qa b2 0 6 hp (sqo 3)
 ·exact lN 6 2 hp (mq 2 rfl) zAc (sqi 27)
 ·exact wXb (Fq.num x3) (Fq.num x4) hp zB1 (sqi 26) (sqi 28) fun v v' w h h' => exK (zBy h h') B13.out (by omega)
 ·exact wXb (Fq.num c) (Fq.num (x3 * x4)) hp zB1 (sqi 24) (sqi 29) fun v v' w h h' => exK (zBy h h') B14.out (by omega)
 ·exact wXb (Fq.num (2)) (Fq.num (c * (x3 * x4))) hp zB1 (sqi 22) (sqi 30) fun v v' w h h' => exK (zBy h h') B15.out (by omega)
 ·exact wXb (Fq.num (b * ((x1 * x4) + (x2 * x3)))) (Fq.num ((2) * (c * (x3 * x4)))) hp zEz (sqi 21) (sqi 31) fun v v' w h h' => exK (zDn h h') B16.out (by omega)
 ·exact wXb (Fq.num ((2) * (a * (x1 * x2)))) (Fq.num ((b * ((x1 * x4) + (x2 * x3))) + ((2) * (c * (x3 * x4))))) hp zEz (sqi 9) (sqi 32) fun v v' w h h' => exK (zDn h h') B17.out (by omega)
 ·exact aN hp (mq 0 rfl)
 ·exact sN 33 hp (mq 0 rfl)
 intro L vs w18 nb hL hC hn E18
 have e1 := wXi hC 1
 have e3 := wXi hC 3
 have e5 := wXi hC 5
 have e10 := wXi hC 10
 have e12 := wXi hC 12
 have e14 := wXi hC 14
 have e16 := wXi hC 16
 have e18 := wXi hC 18
 have e23 := wXi hC 23
 have e25 := wXi hC 25
 have e27 := wXi hC 27
 have e34 : vs 34 = .pointer (some ⟨nb 34, 0, none⟩) := hn _ (mq 0 rfl)
 have E := E18; try simp only [LM, zAd] at E
 rw [zAe hL]
 simp only [SP, Nat.zero_add, Nat.reduceAdd]
 rw [e1, e3, e5, e10, e12, e14, e16, e18, e23, e25, e27, e34]
 generalize nb 34 = b18_34 at E ⊢
 generalize vs 0 = u18_0
 generalize vs 2 = u18_2
 generalize vs 4 = u18_4
 generalize vs 6 = u18_6
 generalize vs 7 = u18_7
 generalize vs 8 = u18_8
 generalize vs 9 = u18_9
 generalize vs 11 = u18_11
 generalize vs 13 = u18_13
 generalize vs 15 = u18_15
 generalize vs 17 = u18_17
 generalize vs 19 = u18_19
 generalize vs 20 = u18_20
 generalize vs 21 = u18_21
 generalize vs 22 = u18_22
 generalize vs 24 = u18_24
 generalize vs 26 = u18_26
 generalize vs 28 = u18_28
 generalize vs 29 = u18_29
 generalize vs 30 = u18_30
 generalize vs 31 = u18_31
 generalize vs 32 = u18_32
 generalize vs 33 = u18_33
 clear e1 e3 e5 e10 e12 e14 e16 e18 e23 e25 e27 e34 hC hn E18 hL vs L nb
 go_upto_region 3 with (fail)
 refine rg [Fq.st [.n a, .n b, .n c], ip b2 0, Fq.num x1, ip b2 4, Fq.num x3, Fq.num (qv a b c x1 x3), Fq.num (((2) * (a * (x1 * x2))) + ((b * ((x1 * x4) + (x2 * x3))) + ((2) * (c * (x3 * x4))))), Fq.st [.n a, .n b, .n c], ip b2 2, Fq.num x2, ip b2 6, Fq.num x4, Fq.num (qv a b c x2 x4), Fq.st [.n (qv a b c x1 x3), .n (((2) * (a * (x1 * x2))) + ((b * ((x1 * x4) + (x2 * x3))) + ((2) * (c * (x3 * x4))))), .n (qv a b c x2 x4)], Fq.any] [none, none, some (14, Fq.st [.n (qv a b c x1 x3), .n (((2) * (a * (x1 * x2))) + ((b * ((x1 * x4) + (x2 * x3))) + ((2) * (c * (x3 * x4))))), .n (qv a b c x2 x4)]), none, none] [] E (fun hp => ⟨?_, ?_, ?_, ?_, ?_, ?_, ?_, ?_, ?_, ?_, ?_, ?_, ?_, ?_, ?_, tv⟩) ?_
 ·exact lS 0 6 hp (mq 4 rfl) zAm (sqo 2)
 ·exact qa b2 0 0 hp (sqo 3)
 ·exact lN 0 2 hp (mq 3 rfl) zAc (sqi 1)
 ·exact qa b2 0 4 hp (sqo 3)
 ·exact lN 4 2 hp (mq 3 rfl) zAc (sqi 3)
 ·exact zCb (F := (Fq.st [.n a, .n b, .n c]).P) (G := (Fq.num x1).P) (F3 := (Fq.num x3).P) hp fo tv (zJ1) (sqi 0) (sqi 2) (sqi 4) (fun v v' u w h h' g => zKd h h' g ha.out hb.out hc.out hx1.out hx3.out)
 ·exact lI 0 hp (mq 0 rfl) (sqo 6) fun us w hl h => zAp hl h
 ·exact lS 0 6 hp (mq 4 rfl) zAm (sqo 2)
 ·exact qa b2 0 2 hp (sqo 3)
 ·exact lN 2 2 hp (mq 3 rfl) zAc (sqi 8)
 ·exact qa b2 0 6 hp (sqo 3)
 ·exact lN 6 2 hp (mq 3 rfl) zAc (sqi 10)
 ·exact zCb (F := (Fq.st [.n a, .n b, .n c]).P) (G := (Fq.num x2).P) (F3 := (Fq.num x4).P) hp fo tv (zJ1) (sqi 7) (sqi 9) (sqi 11) (fun v v' u w h h' g => zKd h h' g ha.out hb.out hc.out hx2.out hx4.out)
 ·exact zF2 (z0 := (qv a b c x1 x3)) (z1 := (((2) * (a * (x1 * x2))) + ((b * ((x1 * x4) + (x2 * x3))) + ((2) * (c * (x3 * x4)))))) (z2 := (qv a b c x2 x4)) hp fo tv (sqi 5) (sqi 6) (sqi 12) (fun v w h => h)
 ·exact sO 0 13 hp (mq 2 rfl) zA7 (sqo 4)
 intro L vs w19 nb hL hC hn E19
 have e1 := wXi hC 1
 have e3 := wXi hC 3
 have e8 := wXi hC 8
 have e10 := wXi hC 10
 have E := E19; try simp only [LM, zAd] at E
 rw [zAe hL]
 simp only [SP, Nat.zero_add, Nat.reduceAdd]
 rw [e1, e3, e8, e10]
 generalize vs 0 = u19_0
 generalize vs 2 = u19_2
 generalize vs 4 = u19_4
 generalize vs 5 = u19_5
 generalize vs 6 = u19_6
 generalize vs 7 = u19_7
 generalize vs 9 = u19_9
 generalize vs 11 = u19_11
 generalize vs 12 = u19_12
 generalize vs 13 = u19_13
 clear e1 e3 e8 e10 hC hn E19 hL vs L nb
 obtain ⟨_, _, hc0, hf0⟩ := zBm (E.box 2 rfl)
 have hP0 := hf0
 obtain ⟨r0_p0, r0_q0, _, rfl, _r0_n0, r0_p1, r0_q1, _, rfl, _r0_n1, r0_p2, r0_q2, _, rfl, _r0_n2, rfl⟩ := hf0
 have c0_0 := hc0 0 (by simp)
 have c0_1 := hc0 1 (by simp)
 have c0_2 := hc0 2 (by simp)
 have c0_3 := hc0 3 (by simp)
 have c0_4 := hc0 4 (by simp)
 have c0_5 := hc0 5 (by simp)
 simp only [List.getD_cons_zero, List.getD_cons_succ] at c0_0 c0_1 c0_2 c0_3 c0_4 c0_5
 clear hc0
 clear B4 B6 B7 B8 B9 B10 B11 B12 B13 B14 B15 B16 B17 ha hb hc hx1 hx2 hx3 hx4
 go_wp2
 refine bodyPost_ret (v := .agg #[r0_p0, r0_q0, r0_p1, r0_q1, r0_p2, r0_q2]) ?_ rfl ⟨_, rfl, E.below, ⟨_, rfl, hP0⟩⟩
 simp [results, Tryz.results27, go_sem, c0_0, c0_1, c0_2, c0_3, c0_4, c0_5]

theorem exQApply {w : World} {v v' : Value} {a b c x1 x2 x3 x4 : Int} (h : (Fq.st [.n a, .n b, .n c]).P v w) (h' : (Fq.st [.n x1, .n x2, .n x3, .n x4]).P v' w) (ha : ab a < pw 60) (hb : ab b < pw 60) (hc : ab c < pw 60) (hx1 : ab x1 < pw 60) (hx2 : ab x2 < pw 60) (hx3 : ab x3 < pw 60) (hx4 : ab x4 < pw 60) :
  Calls Tryz.prog 27 #[v, v'] w fun e w' => ∃ v', e = .returned v' ∧ Below w.heap.size w w' ∧ (Fq.st [.n (qv a b c x1 x3), .n (qm a b c x1 x2 x3 x4), .n (qv a b c x2 x4)]).P v' w' := by
 have e : qm a b c x1 x2 x3 x4 = (((2) * (a * (x1 * x2))) + ((b * ((x1 * x4) + (x2 * x3))) + ((2) * (c * (x3 * x4))))) := by
  unfold qm
  rw [Int.mul_add]
  omega
 rw [e]
 exact exQApply0 h h' ha hb hc hx1 hx2 hx3 hx4

set_option maxRecDepth 100000 in
set_option maxHeartbeats 4000000 in
theorem exQDet0 {w : World} {v : Value} {x1 x2 x3 x4 : Int} (h : (Fq.st [.n x1, .n x2, .n x3, .n x4]).P v w) (hx1 : ab x1 < pw 60) (hx2 : ab x2 < pw 60) (hx3 : ab x3 < pw 60) (hx4 : ab x4 < pw 60) :
  Calls Tryz.prog 29 #[v] w fun e w' => ∃ v', e = .returned v' ∧ Below w.heap.size w w' ∧ Num w' v' (((x1 * x4) + ((-x2) * x3))) := by
 replace hx1 := hidd hx1
 replace hx2 := hidd hx2
 replace hx3 := hidd hx3
 replace hx4 := hidd hx4
 obtain ⟨_, rfl, hf0⟩ := h
 have hF0 := hf0
 obtain ⟨y0_p0, y0_q0, _, rfl, _y0_n0, y0_p1, y0_q1, _, rfl, _y0_n1, y0_p2, y0_q2, _, rfl, _y0_n2, y0_p3, y0_q3, _, rfl, _y0_n3, rfl⟩ := hf0
 obtain ⟨w1, b1, hw1, hb1, hs1, E⟩ := gS w 36 hF0
 obtain ⟨w2, b2, hw2, hb2, hs2, E⟩ := fZ E hs1 31
 go_enter Tryz.func29, Tryz.ntmps29
 go_upto_region 1 with (fail)
 rw [← hw1]
 rw [← hw2]
 rw [← hb2]
 rw [← hb1]
 clear hw1 hw2 hb1 hb2 hs2 hs1
 have B3 : Hid (ab ((-x2)) < pw 60) := zDo hx2.out
 have B4 : Hid (ab ((x1 * x4)) < pw 120) := zAt hx1.out hx4.out (by omega)
 have B5 : Hid (ab (((-x2) * x3)) < pw 120) := zAt B3.out hx3.out (by omega)
 have B6 : Hid (ab (((x1 * x4) + ((-x2) * x3))) < pw 121) := zA5 B4.out B5.out (by omega) (by omega)
 refine rg [ip b1 0, Fq.num x1, ip b1 6, Fq.num x4, ip b1 2, Fq.num x2, Fq.num (-x2), ip b1 4, Fq.num x3, Fq.num ((x1 * x4) + ((-x2) * x3)), Fq.any] [some (10, Fq.num ((x1 * x4) + ((-x2) * x3))), none] [] E (fun hp => ⟨?_, ?_, ?_, ?_, ?_, ?_, ?_, ?_, ?_, ?_, ?_, tv⟩) ?_
 ·exact qa b1 0 0 hp (sqo 1)
 ·exact lN 0 2 hp (mq 1 rfl) zAc (sqi 0)
 ·exact qa b1 0 6 hp (sqo 1)
 ·exact lN 6 2 hp (mq 1 rfl) zAc (sqi 2)
 ·exact qa b1 0 2 hp (sqo 1)
 ·exact lN 2 2 hp (mq 1 rfl) zAc (sqi 4)
 ·exact wXa (Fq.num x2) hp zH0 (sqi 5) fun v w h => exK (RNegV h) B3.out (by omega)
 ·exact qa b1 0 4 hp (sqo 1)
 ·exact lN 4 2 hp (mq 1 rfl) zAc (sqi 7)
 ·exact zDk (F := (Fq.num x1).P) (G := (Fq.num x4).P) (F3 := (Fq.num (-x2)).P) (F4 := (Fq.num x3).P) hp fo tv (zEc) (sqi 1) (sqi 3) (sqi 6) (sqi 8) (fun v v' u u' w h h' g g' => zEd h h' g g' (Int.lt_of_lt_of_le hx1.out (zAb (by omega))) (Int.lt_of_lt_of_le hx4.out (zAb (by omega))) (Int.lt_of_lt_of_le B3.out (zAb (by omega))) (Int.lt_of_lt_of_le hx3.out (zAb (by omega))))
 ·exact sP 9 hp (mq 0 rfl) (sqo 2)
 intro L vs w7 nb hL hC hn E7
 have e0 := wXi hC 0
 have e2 := wXi hC 2
 have e4 := wXi hC 4
 have e7 := wXi hC 7
 have E := E7; try simp only [LM, zAd] at E
 rw [zAe hL]
 simp only [SP, Nat.zero_add, Nat.reduceAdd]
 rw [e0, e2, e4, e7]
 generalize vs 1 = u7_1
 generalize vs 3 = u7_3
 generalize vs 5 = u7_5
 generalize vs 6 = u7_6
 generalize vs 8 = u7_8
 generalize vs 9 = u7_9
 clear e0 e2 e4 e7 hC hn E7 hL vs L nb
 obtain ⟨p0_0, p0_1, c0_0, c0_1, hP0⟩ := zD0 (E.box 0 rfl)
 clear B3 B4 B5 B6 hx1 hx2 hx3 hx4
 go_wp2
 refine bodyPost_ret (v := .agg #[p0_0, p0_1]) ?_ rfl ⟨_, rfl, E.below, hP0⟩
 simp [results, Tryz.results29, go_sem, c0_0, c0_1]

theorem exQDet {w : World} {v : Value} {x1 x2 x3 x4 : Int} (h : (Fq.st [.n x1, .n x2, .n x3, .n x4]).P v w) (hx1 : ab x1 < pw 60) (hx2 : ab x2 < pw 60) (hx3 : ab x3 < pw 60) (hx4 : ab x4 < pw 60) :
  Calls Tryz.prog 29 #[v] w fun e w' => ∃ v', e = .returned v' ∧ Below w.heap.size w w' ∧ Num w' v' (x1 * x4 - x2 * x3) := by
 have e : x1 * x4 - x2 * x3 = ((x1 * x4) + ((-x2) * x3)) := by rw [Int.neg_mul]; omega
 rw [e]
 exact exQDet0 h hx1 hx2 hx3 hx4

set_option maxRecDepth 100000 in
set_option maxHeartbeats 4000000 in
theorem zKc {w : World} {v v' : Value} {x1 x2 x3 x4 y1 y2 y3 y4 : Int} (h : (Fq.st [.n x1, .n x2, .n x3, .n x4]).P v w) (h' : (Fq.st [.n y1, .n y2, .n y3, .n y4]).P v' w) (hx1 : ab x1 < pw 60) (hx2 : ab x2 < pw 60) (hx3 : ab x3 < pw 60) (hx4 : ab x4 < pw 60) (hy1 : ab y1 < pw 60) (hy2 : ab y2 < pw 60) (hy3 : ab y3 < pw 60) (hy4 : ab y4 < pw 60) :
  Calls Tryz.prog 32 #[v, v'] w fun e w' => ∃ v', e = .returned v' ∧ Below w.heap.size w w' ∧ (Fq.st [.n ((x1 * y1) + (x2 * y3)), .n ((x1 * y2) + (x2 * y4)), .n ((x3 * y1) + (x4 * y3)), .n ((x3 * y2) + (x4 * y4))]).P v' w' := by
 replace hx1 := hidd hx1
 replace hx2 := hidd hx2
 replace hx3 := hidd hx3
 replace hx4 := hidd hx4
 replace hy1 := hidd hy1
 replace hy2 := hidd hy2
 replace hy3 := hidd hy3
 replace hy4 := hidd hy4
 obtain ⟨_, rfl, hf0⟩ := h
 have hF0 := hf0
 obtain ⟨y0_p0, y0_q0, _, rfl, _y0_n0, y0_p1, y0_q1, _, rfl, _y0_n1, y0_p2, y0_q2, _, rfl, _y0_n2, y0_p3, y0_q3, _, rfl, _y0_n3, rfl⟩ := hf0
 obtain ⟨_, rfl, hf1⟩ := h'
 have hF1 := hf1
 obtain ⟨y1_p0, y1_q0, _, rfl, _y1_n0, y1_p1, y1_q1, _, rfl, _y1_n1, y1_p2, y1_q2, _, rfl, _y1_n2, y1_p3, y1_q3, _, rfl, _y1_n3, rfl⟩ := hf1
 obtain ⟨w1, b1, hw1, hb1, hs1, E⟩ := gS w 36 hF0
 obtain ⟨w2, b2, hw2, hb2, hs2, E⟩ := fS E hs1 36 hF1
 obtain ⟨w3, b3, hw3, hb3, hs3, E⟩ := fO E hs2 36 zB5
 go_enter Tryz.func32, Tryz.ntmps32
 go_upto_region 1 with (fail)
 rw [← hw1]
 rw [← hw2]
 rw [← hw3]
 rw [← hb3]
 rw [← hb2]
 rw [← hb1]
 clear hw1 hw2 hw3 hb1 hb2 hb3 hs3 hs1 hs2
 have B4 : Hid (ab ((x1 * y1)) < pw 120) := zAt hx1.out hy1.out (by omega)
 have B5 : Hid (ab ((x2 * y3)) < pw 120) := zAt hx2.out hy3.out (by omega)
 have B6 : Hid (ab (((x1 * y1) + (x2 * y3))) < pw 121) := zA5 B4.out B5.out (by omega) (by omega)
 have B7 : Hid (ab ((x1 * y2)) < pw 120) := zAt hx1.out hy2.out (by omega)
 have B8 : Hid (ab ((x2 * y4)) < pw 120) := zAt hx2.out hy4.out (by omega)
 have B9 : Hid (ab (((x1 * y2) + (x2 * y4))) < pw 121) := zA5 B7.out B8.out (by omega) (by omega)
 have B10 : Hid (ab ((x3 * y1)) < pw 120) := zAt hx3.out hy1.out (by omega)
 have B11 : Hid (ab ((x4 * y3)) < pw 120) := zAt hx4.out hy3.out (by omega)
 have B12 : Hid (ab (((x3 * y1) + (x4 * y3))) < pw 121) := zA5 B10.out B11.out (by omega) (by omega)
 have B13 : Hid (ab ((x3 * y2)) < pw 120) := zAt hx3.out hy2.out (by omega)
 have B14 : Hid (ab ((x4 * y4)) < pw 120) := zAt hx4.out hy4.out (by omega)
 have B15 : Hid (ab (((x3 * y2) + (x4 * y4))) < pw 121) := zA5 B13.out B14.out (by omega) (by omega)
 refine rg [ip b1 0, Fq.num x1, ip b2 0, Fq.num y1, ip b1 2, Fq.num x2, ip b2 4, Fq.num y3, Fq.num ((x1 * y1) + (x2 * y3)), ip b1 0, Fq.num x1, ip b2 2, Fq.num y2, ip b1 2, Fq.num x2, ip b2 6, Fq.num y4, Fq.num ((x1 * y2) + (x2 * y4)), ip b1 4, Fq.num x3, ip b2 0, Fq.num y1, ip b1 6, Fq.num x4, ip b2 4, Fq.num y3, Fq.num ((x3 * y1) + (x4 * y3)), ip b1 4, Fq.num x3, ip b2 2, Fq.num y2, ip b1 6, Fq.num x4, ip b2 6, Fq.num y4, Fq.num ((x3 * y2) + (x4 * y4)), Fq.st [.n ((x1 * y1) + (x2 * y3)), .n ((x1 * y2) + (x2 * y4)), .n ((x3 * y1) + (x4 * y3)), .n ((x3 * y2) + (x4 * y4))], Fq.any] [some (37, Fq.st [.n ((x1 * y1) + (x2 * y3)), .n ((x1 * y2) + (x2 * y4)), .n ((x3 * y1) + (x4 * y3)), .n ((x3 * y2) + (x4 * y4))]), none, none] [] E (fun hp => ⟨?_, ?_, ?_, ?_, ?_, ?_, ?_, ?_, ?_, ?_, ?_, ?_, ?_, ?_, ?_, ?_, ?_, ?_, ?_, ?_, ?_, ?_, ?_, ?_, ?_, ?_, ?_, ?_, ?_, ?_, ?_, ?_, ?_, ?_, ?_, ?_, ?_, ?_, tv⟩) ?_
 ·exact qa b1 0 0 hp (sqo 2)
 ·exact lN 0 2 hp (mq 2 rfl) zAc (sqi 0)
 ·exact qa b2 0 0 hp (sqo 3)
 ·exact lN 0 2 hp (mq 1 rfl) zAc (sqi 2)
 ·exact qa b1 0 2 hp (sqo 2)
 ·exact lN 2 2 hp (mq 2 rfl) zAc (sqi 4)
 ·exact qa b2 0 4 hp (sqo 3)
 ·exact lN 4 2 hp (mq 1 rfl) zAc (sqi 6)
 ·exact zDk (F := (Fq.num x1).P) (G := (Fq.num y1).P) (F3 := (Fq.num x2).P) (F4 := (Fq.num y3).P) hp fo tv (zEc) (sqi 1) (sqi 3) (sqi 5) (sqi 7) (fun v v' u u' w h h' g g' => zEd h h' g g' (Int.lt_of_lt_of_le hx1.out (zAb (by omega))) (Int.lt_of_lt_of_le hy1.out (zAb (by omega))) (Int.lt_of_lt_of_le hx2.out (zAb (by omega))) (Int.lt_of_lt_of_le hy3.out (zAb (by omega))))
 ·exact qa b1 0 0 hp (sqo 2)
 ·exact lN 0 2 hp (mq 2 rfl) zAc (sqi 9)
 ·exact qa b2 0 2 hp (sqo 3)
 ·exact lN 2 2 hp (mq 1 rfl) zAc (sqi 11)
 ·exact qa b1 0 2 hp (sqo 2)
 ·exact lN 2 2 hp (mq 2 rfl) zAc (sqi 13)
 ·exact qa b2 0 6 hp (sqo 3)
 ·exact lN 6 2 hp (mq 1 rfl) zAc (sqi 15)
 ·exact zDk (F := (Fq.num x1).P) (G := (Fq.num y2).P) (F3 := (Fq.num x2).P) (F4 := (Fq.num y4).P) hp fo tv (zEc) (sqi 10) (sqi 12) (sqi 14) (sqi 16) (fun v v' u u' w h h' g g' => zEd h h' g g' (Int.lt_of_lt_of_le hx1.out (zAb (by omega))) (Int.lt_of_lt_of_le hy2.out (zAb (by omega))) (Int.lt_of_lt_of_le hx2.out (zAb (by omega))) (Int.lt_of_lt_of_le hy4.out (zAb (by omega))))
 ·exact qa b1 0 4 hp (sqo 2)
 ·exact lN 4 2 hp (mq 2 rfl) zAc (sqi 18)
 ·exact qa b2 0 0 hp (sqo 3)
 ·exact lN 0 2 hp (mq 1 rfl) zAc (sqi 20)
 ·exact qa b1 0 6 hp (sqo 2)
 ·exact lN 6 2 hp (mq 2 rfl) zAc (sqi 22)
 ·exact qa b2 0 4 hp (sqo 3)
 ·exact lN 4 2 hp (mq 1 rfl) zAc (sqi 24)
 ·exact zDk (F := (Fq.num x3).P) (G := (Fq.num y1).P) (F3 := (Fq.num x4).P) (F4 := (Fq.num y3).P) hp fo tv (zEc) (sqi 19) (sqi 21) (sqi 23) (sqi 25) (fun v v' u u' w h h' g g' => zEd h h' g g' (Int.lt_of_lt_of_le hx3.out (zAb (by omega))) (Int.lt_of_lt_of_le hy1.out (zAb (by omega))) (Int.lt_of_lt_of_le hx4.out (zAb (by omega))) (Int.lt_of_lt_of_le hy3.out (zAb (by omega))))
 ·exact qa b1 0 4 hp (sqo 2)
 ·exact lN 4 2 hp (mq 2 rfl) zAc (sqi 27)
 ·exact qa b2 0 2 hp (sqo 3)
 ·exact lN 2 2 hp (mq 1 rfl) zAc (sqi 29)
 ·exact qa b1 0 6 hp (sqo 2)
 ·exact lN 6 2 hp (mq 2 rfl) zAc (sqi 31)
 ·exact qa b2 0 6 hp (sqo 3)
 ·exact lN 6 2 hp (mq 1 rfl) zAc (sqi 33)
 ·exact zDk (F := (Fq.num x3).P) (G := (Fq.num y2).P) (F3 := (Fq.num x4).P) (F4 := (Fq.num y4).P) hp fo tv (zEc) (sqi 28) (sqi 30) (sqi 32) (sqi 34) (fun v v' u u' w h h' g g' => zEd h h' g g' (Int.lt_of_lt_of_le hx3.out (zAb (by omega))) (Int.lt_of_lt_of_le hy2.out (zAb (by omega))) (Int.lt_of_lt_of_le hx4.out (zAb (by omega))) (Int.lt_of_lt_of_le hy4.out (zAb (by omega))))
 ·exact zHc (z0 := ((x1 * y1) + (x2 * y3))) (z1 := ((x1 * y2) + (x2 * y4))) (z2 := ((x3 * y1) + (x4 * y3))) (z3 := ((x3 * y2) + (x4 * y4))) hp fo tv (sqi 8) (sqi 17) (sqi 26) (sqi 35) (fun v w h => h)
 ·exact sO 0 36 hp (mq 0 rfl) zBz (sqo 4)
 intro L vs w16 nb hL hC hn E16
 have e0 := wXi hC 0
 have e2 := wXi hC 2
 have e4 := wXi hC 4
 have e6 := wXi hC 6
 have e9 := wXi hC 9
 have e11 := wXi hC 11
 have e13 := wXi hC 13
 have e15 := wXi hC 15
 have e18 := wXi hC 18
 have e20 := wXi hC 20
 have e22 := wXi hC 22
 have e24 := wXi hC 24
 have e27 := wXi hC 27
 have e29 := wXi hC 29
 have e31 := wXi hC 31
 have e33 := wXi hC 33
 have E := E16; try simp only [LM, zAd] at E
 rw [zAe hL]
 simp only [SP, Nat.zero_add, Nat.reduceAdd]
 rw [e0, e2, e4, e6, e9, e11, e13, e15, e18, e20, e22, e24, e27, e29, e31, e33]
 generalize vs 1 = u16_1
 generalize vs 3 = u16_3
 generalize vs 5 = u16_5
 generalize vs 7 = u16_7
 generalize vs 8 = u16_8
 generalize vs 10 = u16_10
 generalize vs 12 = u16_12
 generalize vs 14 = u16_14
 generalize vs 16 = u16_16
 generalize vs 17 = u16_17
 generalize vs 19 = u16_19
 generalize vs 21 = u16_21
 generalize vs 23 = u16_23
 generalize vs 25 = u16_25
 generalize vs 26 = u16_26
 generalize vs 28 = u16_28
 generalize vs 30 = u16_30
 generalize vs 32 = u16_32
 generalize vs 34 = u16_34
 generalize vs 35 = u16_35
 generalize vs 36 = u16_36
 clear e0 e2 e4 e6 e9 e11 e13 e15 e18 e20 e22 e24 e27 e29 e31 e33 hC hn E16 hL vs L nb
 obtain ⟨_, _, hc0, hf0⟩ := zBm (E.box 0 rfl)
 have hP0 := hf0
 obtain ⟨r0_p0, r0_q0, _, rfl, _r0_n0, r0_p1, r0_q1, _, rfl, _r0_n1, r0_p2, r0_q2, _, rfl, _r0_n2, r0_p3, r0_q3, _, rfl, _r0_n3, rfl⟩ := hf0
 have c0_0 := hc0 0 (by simp)
 have c0_1 := hc0 1 (by simp)
 have c0_2 := hc0 2 (by simp)
 have c0_3 := hc0 3 (by simp)
 have c0_4 := hc0 4 (by simp)
 have c0_5 := hc0 5 (by simp)
 have c0_6 := hc0 6 (by simp)
 have c0_7 := hc0 7 (by simp)
 simp only [List.getD_cons_zero, List.getD_cons_succ] at c0_0 c0_1 c0_2 c0_3 c0_4 c0_5 c0_6 c0_7
 clear hc0
 clear B4 B5 B6 B7 B8 B9 B10 B11 B12 B13 B14 B15 hx1 hx2 hx3 hx4 hy1 hy2 hy3 hy4
 go_wp2
 refine bodyPost_ret (v := .agg #[r0_p0, r0_q0, r0_p1, r0_q1, r0_p2, r0_q2, r0_p3, r0_q3]) ?_ rfl ⟨_, rfl, E.below, ⟨_, rfl, hP0⟩⟩
 simp [results, Tryz.results32, go_sem, c0_0, c0_1, c0_2, c0_3, c0_4, c0_5, c0_6, c0_7]

set_option maxRecDepth 100000 in
set_option maxHeartbeats 4000000 in
theorem exQEqual0 {w : World} {v v' : Value} {a b c x y z : Int} (h : (Fq.st [.n a, .n b, .n c]).P v w) (h' : (Fq.st [.n x, .n y, .n z]).P v' w) (e0 : ¬ a = x) {t : Bool} (ht : eqF a b c x y z = t) :
  Calls Tryz.prog 16 #[v, v'] w fun e w' => ∃ v', e = .returned v' ∧ Below w.heap.size w w' ∧ v' = .bool t := by
 have ht2 : t = false := ht.symm.trans (by unfold eqF; simp [e0])
 subst ht2
 clear ht
 have T0 := hidd (decide_eq_false e0)
 clear e0
 obtain ⟨_, rfl, hf0⟩ := h
 have hF0 := hf0
 obtain ⟨y0_p0, y0_q0, _, rfl, _y0_n0, y0_p1, y0_q1, _, rfl, _y0_n1, y0_p2, y0_q2, _, rfl, _y0_n2, rfl⟩ := hf0
 obtain ⟨_, rfl, hf1⟩ := h'
 have hF1 := hf1
 obtain ⟨y1_p0, y1_q0, _, rfl, _y1_n0, y1_p1, y1_q1, _, rfl, _y1_n1, y1_p2, y1_q2, _, rfl, _y1_n2, rfl⟩ := hf1
 obtain ⟨w1, b1, hw1, hb1, hs1, E⟩ := gS w 33 hF0
 obtain ⟨w2, b2, hw2, hb2, hs2, E⟩ := fS E hs1 33 hF1
 go_enter Tryz.func16, Tryz.ntmps16
 go_upto_region 1 with (fail)
 rw [← hw1]
 rw [← hw2]
 rw [← hb2]
 rw [← hb1]
 clear hw1 hw2 hb1 hb2 hs2 hs1
 refine rg [ip b1 0, Fq.num a, ip b2 0, Fq.num x, yF, yF, Fq.is (undef), Fq.is (undef), Fq.is (undef), Fq.is (undef), Fq.is (undef), yF, yF, Fq.is (undef), Fq.is (undef), Fq.is (undef), Fq.is (undef), Fq.is (undef), yF, yF] N2 [] E (fun hp => ⟨?_, ?_, ?_, ?_, ?_, ?_, ?_, ?_, ?_, ?_, ?_, ?_, ?_, ?_, ?_, ?_, ?_, ?_, ?_, ?_, tv⟩) ?_
 ·exact qa b1 0 0 hp (sqo 2)
 ·exact lN 0 2 hp (mq 1 rfl) zAc (sqi 0)
 ·exact qa b2 0 0 hp (sqo 3)
 ·exact lN 0 2 hp (mq 0 rfl) zAc (sqi 2)
 ·exact wXb (Fq.num a) (Fq.num x) hp zCs (sqi 1) (sqi 3) fun v v' w h h' => zCt h h' T0.out
 ·exact zAa hp fo tv (sqi 4)
 ·exact zAi hp fo rfl gqi (fun _ => rfl)
 ·exact zAi hp fo rfl gqi (fun _ => rfl)
 ·exact zAi hp fo rfl gqi (fun _ => rfl)
 ·exact zAi hp fo rfl gqi (fun _ => rfl)
 ·exact zAi hp fo rfl gqi (fun _ => rfl)
 ·exact zAg (F := fun v _ => v = .bool false) (G := fun v _ => v = .bool false) hp fo tv (sqi 5) (zAj (fun _ => rfl)) (fun ρ w hc h h' => ⟨_, by simp [execOp, go_sem, h, h'], rfl⟩)
 ·exact zAa hp fo tv (sqi 11)
 ·exact zAi hp fo rfl gqi (fun _ => rfl)
 ·exact zAi hp fo rfl gqi (fun _ => rfl)
 ·exact zAi hp fo rfl gqi (fun _ => rfl)
 ·exact zAi hp fo rfl gqi (fun _ => rfl)
 ·exact zAi hp fo rfl gqi (fun _ => rfl)
 ·exact zAg (F := fun v _ => v = .bool false) (G := fun v _ => v = .bool false) hp fo tv (sqi 12) (zAj (fun _ => rfl)) (fun ρ w hc h h' => ⟨_, by simp [execOp, go_sem, h, h'], rfl⟩)
 ·exact zAh hp fo tv (sqi 18)
 intro L vs w3 nb hL hC hn E3
 have e0 := wXi hC 0
 have e2 := wXi hC 2
 have e4 := wXi hC 4
 have e5 := wXi hC 5
 have e6 := wXi hC 6
 have e7 := wXi hC 7
 have e8 := wXi hC 8
 have e9 := wXi hC 9
 have e10 := wXi hC 10
 have e11 := wXi hC 11
 have e12 := wXi hC 12
 have e13 := wXi hC 13
 have e14 := wXi hC 14
 have e15 := wXi hC 15
 have e16 := wXi hC 16
 have e17 := wXi hC 17
 have e18 := wXi hC 18
 have e19 := wXi hC 19
 have E := E3; try simp only [LM, zAd] at E
 rw [zAe hL]
 simp only [SP, Nat.zero_add, Nat.reduceAdd]
 rw [e0, e2, e4, e5, e6, e7, e8, e9, e10, e11, e12, e13, e14, e15, e16, e17, e18, e19]
 generalize vs 1 = u3_1
 generalize vs 3 = u3_3
 clear e0 e2 e4 e5 e6 e7 e8 e9 e10 e11 e12 e13 e14 e15 e16 e17 e18 e19 hC hn E3 hL vs L nb
 clear T0
 go_wp2
 refine bodyPost_ret (v := .bool false) ?_ rfl ⟨_, rfl, E.below, rfl⟩
 simp [results, Tryz.results16, go_sem]

set_option maxRecDepth 100000 in
set_option maxHeartbeats 4000000 in
theorem exQEqual1 {w : World} {v v' : Value} {a b c x y z : Int} (h : (Fq.st [.n a, .n b, .n c]).P v w) (h' : (Fq.st [.n x, .n y, .n z]).P v' w) (e0 : a = x) (e1 : ¬ b = y) {t : Bool} (ht : eqF a b c x y z = t) :
  Calls Tryz.prog 16 #[v, v'] w fun e w' => ∃ v', e = .returned v' ∧ Below w.heap.size w w' ∧ v' = .bool t := by
 have ht2 : t = false := ht.symm.trans (by unfold eqF; simp [e0, e1])
 subst ht2
 clear ht
 have T0 := hidd (decide_eq_true e0)
 have T1 := hidd (decide_eq_false e1)
 clear e0 e1
 obtain ⟨_, rfl, hf0⟩ := h
 have hF0 := hf0
 obtain ⟨y0_p0, y0_q0, _, rfl, _y0_n0, y0_p1, y0_q1, _, rfl, _y0_n1, y0_p2, y0_q2, _, rfl, _y0_n2, rfl⟩ := hf0
 obtain ⟨_, rfl, hf1⟩ := h'
 have hF1 := hf1
 obtain ⟨y1_p0, y1_q0, _, rfl, _y1_n0, y1_p1, y1_q1, _, rfl, _y1_n1, y1_p2, y1_q2, _, rfl, _y1_n2, rfl⟩ := hf1
 obtain ⟨w1, b1, hw1, hb1, hs1, E⟩ := gS w 33 hF0
 obtain ⟨w2, b2, hw2, hb2, hs2, E⟩ := fS E hs1 33 hF1
 go_enter Tryz.func16, Tryz.ntmps16
 go_upto_region 1 with (fail)
 rw [← hw1]
 rw [← hw2]
 rw [← hb2]
 rw [← hb1]
 clear hw1 hw2 hb1 hb2 hs2 hs1
 refine rg [ip b1 0, Fq.num a, ip b2 0, Fq.num x, yT, yT, ip b1 2, Fq.num b, ip b2 2, Fq.num y, yF, yF, yF, Fq.is (undef), Fq.is (undef), Fq.is (undef), Fq.is (undef), Fq.is (undef), yF, yF] N2 [] E (fun hp => ⟨?_, ?_, ?_, ?_, ?_, ?_, ?_, ?_, ?_, ?_, ?_, ?_, ?_, ?_, ?_, ?_, ?_, ?_, ?_, ?_, tv⟩) ?_
 ·exact qa b1 0 0 hp (sqo 2)
 ·exact lN 0 2 hp (mq 1 rfl) zAc (sqi 0)
 ·exact qa b2 0 0 hp (sqo 3)
 ·exact lN 0 2 hp (mq 0 rfl) zAc (sqi 2)
 ·exact wXb (Fq.num a) (Fq.num x) hp zCs (sqi 1) (sqi 3) fun v v' w h h' => zCt h h' T0.out
 ·exact zAa hp fo tv (sqi 4)
 ·exact zAl (b := b1) (off := 0) (off' := 2) hp fo gqi (sqo 2) (fun ρ w h => by simp [execOp, go_sem, h]) (fun _ => rfl)
 ·exact lG 2 2 hp gqi (mq 1 rfl) zAc (sqi 6) fun v w h => zAk h
 ·exact zAl (b := b2) (off := 0) (off' := 2) hp fo gqi (sqo 3) (fun ρ w h => by simp [execOp, go_sem, h]) (fun _ => rfl)
 ·exact lG 2 2 hp gqi (mq 0 rfl) zAc (sqi 8) fun v w h => zAk h
 ·exact zAx (F := (Fq.num b).P) (G := (Fq.num y).P) hp fo gqi (zCs) (sqi 7) (sqi 9) (fun v v' w h h' => zCt h h' T1.out)
 ·exact zAg (F := fun v _ => v = .bool true) (G := fun v _ => v = .bool false) hp fo tv (sqi 5) (sqi 10) (fun ρ w hc h h' => ⟨_, by simp [execOp, go_sem, h, h'], rfl⟩)
 ·exact zAa hp fo tv (sqi 11)
 ·exact zAi hp fo rfl gqi (fun _ => rfl)
 ·exact zAi hp fo rfl gqi (fun _ => rfl)
 ·exact zAi hp fo rfl gqi (fun _ => rfl)
 ·exact zAi hp fo rfl gqi (fun _ => rfl)
 ·exact zAi hp fo rfl gqi (fun _ => rfl)
 ·exact zAg (F := fun v _ => v = .bool false) (G := fun v _ => v = .bool false) hp fo tv (sqi 12) (zAj (fun _ => rfl)) (fun ρ w hc h h' => ⟨_, by simp [execOp, go_sem, h, h'], rfl⟩)
 ·exact zAh hp fo tv (sqi 18)
 intro L vs w3 nb hL hC hn E3
 have e0 := wXi hC 0
 have e2 := wXi hC 2
 have e4 := wXi hC 4
 have e5 := wXi hC 5
 have e6 := wXi hC 6
 have e8 := wXi hC 8
 have e10 := wXi hC 10
 have e11 := wXi hC 11
 have e12 := wXi hC 12
 have e13 := wXi hC 13
 have e14 := wXi hC 14
 have e15 := wXi hC 15
 have e16 := wXi hC 16
 have e17 := wXi hC 17
 have e18 := wXi hC 18
 have e19 := wXi hC 19
 have E := E3; try simp only [LM, zAd] at E
 rw [zAe hL]
 simp only [SP, Nat.zero_add, Nat.reduceAdd]
 rw [e0, e2, e4, e5, e6, e8, e10, e11, e12, e13, e14, e15, e16, e17, e18, e19]
 generalize vs 1 = u3_1
 generalize vs 3 = u3_3
 generalize vs 7 = u3_7
 generalize vs 9 = u3_9
 clear e0 e2 e4 e5 e6 e8 e10 e11 e12 e13 e14 e15 e16 e17 e18 e19 hC hn E3 hL vs L nb
 clear T0 T1
 go_wp2
 refine bodyPost_ret (v := .bool false) ?_ rfl ⟨_, rfl, E.below, rfl⟩
 simp [results, Tryz.results16, go_sem]

set_option maxRecDepth 100000 in
set_option maxHeartbeats 4000000 in
theorem exQEqual2 {w : World} {v v' : Value} {a b c x y z : Int} (h : (Fq.st [.n a, .n b, .n c]).P v w) (h' : (Fq.st [.n x, .n y, .n z]).P v' w) (e0 : a = x) (e1 : b = y) (e2 : ¬ c = z) {t : Bool} (ht : eqF a b c x y z = t) :
  Calls Tryz.prog 16 #[v, v'] w fun e w' => ∃ v', e = .returned v' ∧ Below w.heap.size w w' ∧ v' = .bool t := by
 have ht2 : t = false := ht.symm.trans (by unfold eqF; simp [e0, e1, e2])
 subst ht2
 clear ht
 have T0 := hidd (decide_eq_true e0)
 have T1 := hidd (decide_eq_true e1)
 have T2 := hidd (decide_eq_false e2)
 clear e0 e1 e2
 obtain ⟨_, rfl, hf0⟩ := h
 have hF0 := hf0
 obtain ⟨y0_p0, y0_q0, _, rfl, _y0_n0, y0_p1, y0_q1, _, rfl, _y0_n1, y0_p2, y0_q2, _, rfl, _y0_n2, rfl⟩ := hf0
 obtain ⟨_, rfl, hf1⟩ := h'
 have hF1 := hf1
 obtain ⟨y1_p0, y1_q0, _, rfl, _y1_n0, y1_p1, y1_q1, _, rfl, _y1_n1, y1_p2, y1_q2, _, rfl, _y1_n2, rfl⟩ := hf1
 obtain ⟨w1, b1, hw1, hb1, hs1, E⟩ := gS w 33 hF0
 obtain ⟨w2, b2, hw2, hb2, hs2, E⟩ := fS E hs1 33 hF1
 go_enter Tryz.func16, Tryz.ntmps16
 go_upto_region 1 with (fail)
 rw [← hw1]
 rw [← hw2]
 rw [← hb2]
 rw [← hb1]
 clear hw1 hw2 hb1 hb2 hs2 hs1
 refine rg [ip b1 0, Fq.num a, ip b2 0, Fq.num x, yT, yT, ip b1 2, Fq.num b, ip b2 2, Fq.num y, yT, yT, yT, ip b1 4, Fq.num c, ip b2 4, Fq.num z, yF, yF, yF] N2 [] E (fun hp => ⟨?_, ?_, ?_, ?_, ?_, ?_, ?_, ?_, ?_, ?_, ?_, ?_, ?_, ?_, ?_, ?_, ?_, ?_, ?_, ?_, tv⟩) ?_
 ·exact qa b1 0 0 hp (sqo 2)
 ·exact lN 0 2 hp (mq 1 rfl) zAc (sqi 0)
 ·exact qa b2 0 0 hp (sqo 3)
 ·exact lN 0 2 hp (mq 0 rfl) zAc (sqi 2)
 ·exact wXb (Fq.num a) (Fq.num x) hp zCs (sqi 1) (sqi 3) fun v v' w h h' => zCt h h' T0.out
 ·exact zAa hp fo tv (sqi 4)
 ·exact zAl (b := b1) (off := 0) (off' := 2) hp fo gqi (sqo 2) (fun ρ w h => by simp [execOp, go_sem, h]) (fun _ => rfl)
 ·exact lG 2 2 hp gqi (mq 1 rfl) zAc (sqi 6) fun v w h => zAk h
 ·exact zAl (b := b2) (off := 0) (off' := 2) hp fo gqi (sqo 3) (fun ρ w h => by simp [execOp, go_sem, h]) (fun _ => rfl)
 ·exact lG 2 2 hp gqi (mq 0 rfl) zAc (sqi 8) fun v w h => zAk h
 ·exact zAx (F := (Fq.num b).P) (G := (Fq.num y).P) hp fo gqi (zCs) (sqi 7) (sqi 9) (fun v v' w h h' => zCt h h' T1.out)
 ·exact zAg (F := fun v _ => v = .bool true) (G := fun v _ => v = .bool true) hp fo tv (sqi 5) (sqi 10) (fun ρ w hc h h' => ⟨_, by simp [execOp, go_sem, h, h'], rfl⟩)
 ·exact zAa hp fo tv (sqi 11)
 ·exact zAl (b := b1) (off := 0) (off' := 4) hp fo gqi (sqo 2) (fun ρ w h => by simp [execOp, go_sem, h]) (fun _ => rfl)
 ·exact lG 4 2 hp gqi (mq 1 rfl) zAc (sqi 13) fun v w h => zAk h
 ·exact zAl (b := b2) (off := 0) (off' := 4) hp fo gqi (sqo 3) (fun ρ w h => by simp [execOp, go_sem, h]) (fun _ => rfl)
 ·exact lG 4 2 hp gqi (mq 0 rfl) zAc (sqi 15) fun v w h => zAk h
 ·exact zAx (F := (Fq.num c).P) (G := (Fq.num z).P) hp fo gqi (zCs) (sqi 14) (sqi 16) (fun v v' w h h' => zCt h h' T2.out)
 ·exact zAg (F := fun v _ => v = .bool true) (G := fun v _ => v = .bool false) hp fo tv (sqi 12) (sqi 17) (fun ρ w hc h h' => ⟨_, by simp [execOp, go_sem, h, h'], rfl⟩)
 ·exact zAh hp fo tv (sqi 18)
 intro L vs w3 nb hL hC hn E3
 have e0 := wXi hC 0
 have e2 := wXi hC 2
 have e4 := wXi hC 4
 have e5 := wXi hC 5
 have e6 := wXi hC 6
 have e8 := wXi hC 8
 have e10 := wXi hC 10
 have e11 := wXi hC 11
 have e12 := wXi hC 12
 have e13 := wXi hC 13
 have e15 := wXi hC 15
 have e17 := wXi hC 17
 have e18 := wXi hC 18
 have e19 := wXi hC 19
 have E := E3; try simp only [LM, zAd] at E
 rw [zAe hL]
 simp only [SP, Nat.zero_add, Nat.reduceAdd]
 rw [e0, e2, e4, e5, e6, e8, e10, e11, e12, e13, e15, e17, e18, e19]
 generalize vs 1 = u3_1
 generalize vs 3 = u3_3
 generalize vs 7 = u3_7
 generalize vs 9 = u3_9
 generalize vs 14 = u3_14
 generalize vs 16 = u3_16
 clear e0 e2 e4 e5 e6 e8 e10 e11 e12 e13 e15 e17 e18 e19 hC hn E3 hL vs L nb
 clear T0 T1 T2
 go_wp2
 refine bodyPost_ret (v := .bool false) ?_ rfl ⟨_, rfl, E.below, rfl⟩
 simp [results, Tryz.results16, go_sem]

set_option maxRecDepth 100000 in
set_option maxHeartbeats 4000000 in
theorem exQEqual3 {w : World} {v v' : Value} {a b c x y z : Int} (h : (Fq.st [.n a, .n b, .n c]).P v w) (h' : (Fq.st [.n x, .n y, .n z]).P v' w) (e0 : a = x) (e1 : b = y) (e2 : c = z) {t : Bool} (ht : eqF a b c x y z = t) :
  Calls Tryz.prog 16 #[v, v'] w fun e w' => ∃ v', e = .returned v' ∧ Below w.heap.size w w' ∧ v' = .bool t := by
 have ht2 : t = true := ht.symm.trans (by unfold eqF; simp [e0, e1, e2])
 subst ht2
 clear ht
 have T0 := hidd (decide_eq_true e0)
 have T1 := hidd (decide_eq_true e1)
 have T2 := hidd (decide_eq_true e2)
 clear e0 e1 e2
 obtain ⟨_, rfl, hf0⟩ := h
 have hF0 := hf0
 obtain ⟨y0_p0, y0_q0, _, rfl, _y0_n0, y0_p1, y0_q1, _, rfl, _y0_n1, y0_p2, y0_q2, _, rfl, _y0_n2, rfl⟩ := hf0
 obtain ⟨_, rfl, hf1⟩ := h'
 have hF1 := hf1
 obtain ⟨y1_p0, y1_q0, _, rfl, _y1_n0, y1_p1, y1_q1, _, rfl, _y1_n1, y1_p2, y1_q2, _, rfl, _y1_n2, rfl⟩ := hf1
 obtain ⟨w1, b1, hw1, hb1, hs1, E⟩ := gS w 33 hF0
 obtain ⟨w2, b2, hw2, hb2, hs2, E⟩ := fS E hs1 33 hF1
 go_enter Tryz.func16, Tryz.ntmps16
 go_upto_region 1 with (fail)
 rw [← hw1]
 rw [← hw2]
 rw [← hb2]
 rw [← hb1]
 clear hw1 hw2 hb1 hb2 hs2 hs1
 refine rg [ip b1 0, Fq.num a, ip b2 0, Fq.num x, yT, yT, ip b1 2, Fq.num b, ip b2 2, Fq.num y, yT, yT, yT, ip b1 4, Fq.num c, ip b2 4, Fq.num z, yT, yT, yT] N2 [] E (fun hp => ⟨?_, ?_, ?_, ?_, ?_, ?_, ?_, ?_, ?_, ?_, ?_, ?_, ?_, ?_, ?_, ?_, ?_, ?_, ?_, ?_, tv⟩) ?_
 ·exact qa b1 0 0 hp (sqo 2)
 ·exact lN 0 2 hp (mq 1 rfl) zAc (sqi 0)
 ·exact qa b2 0 0 hp (sqo 3)
 ·exact lN 0 2 hp (mq 0 rfl) zAc (sqi 2)
 ·exact wXb (Fq.num a) (Fq.num x) hp zCs (sqi 1) (sqi 3) fun v v' w h h' => zCt h h' T0.out
 ·exact zAa hp fo tv (sqi 4)
 ·exact zAl (b := b1) (off := 0) (off' := 2) hp fo gqi (sqo 2) (fun ρ w h => by simp [execOp, go_sem, h]) (fun _ => rfl)
 ·exact lG 2 2 hp gqi (mq 1 rfl) zAc (sqi 6) fun v w h => zAk h
 ·exact zAl (b := b2) (off := 0) (off' := 2) hp fo gqi (sqo 3) (fun ρ w h => by simp [execOp, go_sem, h]) (fun _ => rfl)
 ·exact lG 2 2 hp gqi (mq 0 rfl) zAc (sqi 8) fun v w h => zAk h
 ·exact zAx (F := (Fq.num b).P) (G := (Fq.num y).P) hp fo gqi (zCs) (sqi 7) (sqi 9) (fun v v' w h h' => zCt h h' T1.out)
 ·exact zAg (F := fun v _ => v = .bool true) (G := fun v _ => v = .bool true) hp fo tv (sqi 5) (sqi 10) (fun ρ w hc h h' => ⟨_, by simp [execOp, go_sem, h, h'], rfl⟩)
 ·exact zAa hp fo tv (sqi 11)
 ·exact zAl (b := b1) (off := 0) (off' := 4) hp fo gqi (sqo 2) (fun ρ w h => by simp [execOp, go_sem, h]) (fun _ => rfl)
 ·exact lG 4 2 hp gqi (mq 1 rfl) zAc (sqi 13) fun v w h => zAk h
 ·exact zAl (b := b2) (off := 0) (off' := 4) hp fo gqi (sqo 3) (fun ρ w h => by simp [execOp, go_sem, h]) (fun _ => rfl)
 ·exact lG 4 2 hp gqi (mq 0 rfl) zAc (sqi 15) fun v w h => zAk h
 ·exact zAx (F := (Fq.num c).P) (G := (Fq.num z).P) hp fo gqi (zCs) (sqi 14) (sqi 16) (fun v v' w h h' => zCt h h' T2.out)
 ·exact zAg (F := fun v _ => v = .bool true) (G := fun v _ => v = .bool true) hp fo tv (sqi 12) (sqi 17) (fun ρ w hc h h' => ⟨_, by simp [execOp, go_sem, h, h'], rfl⟩)
 ·exact zAh hp fo tv (sqi 18)
 intro L vs w3 nb hL hC hn E3
 have e0 := wXi hC 0
 have e2 := wXi hC 2
 have e4 := wXi hC 4
 have e5 := wXi hC 5
 have e6 := wXi hC 6
 have e8 := wXi hC 8
 have e10 := wXi hC 10
 have e11 := wXi hC 11
 have e12 := wXi hC 12
 have e13 := wXi hC 13
 have e15 := wXi hC 15
 have e17 := wXi hC 17
 have e18 := wXi hC 18
 have e19 := wXi hC 19
 have E := E3; try simp only [LM, zAd] at E
 rw [zAe hL]
 simp only [SP, Nat.zero_add, Nat.reduceAdd]
 rw [e0, e2, e4, e5, e6, e8, e10, e11, e12, e13, e15, e17, e18, e19]
 generalize vs 1 = u3_1
 generalize vs 3 = u3_3
 generalize vs 7 = u3_7
 generalize vs 9 = u3_9
 generalize vs 14 = u3_14
 generalize vs 16 = u3_16
 clear e0 e2 e4 e5 e6 e8 e10 e11 e12 e13 e15 e17 e18 e19 hC hn E3 hL vs L nb
 clear T0 T1 T2
 go_wp2
 refine bodyPost_ret (v := .bool true) ?_ rfl ⟨_, rfl, E.below, rfl⟩
 simp [results, Tryz.results16, go_sem]

theorem zFa {w : World} {v v' : Value} {a b c x y z : Int} (h : (Fq.st [.n a, .n b, .n c]).P v w) (h' : (Fq.st [.n x, .n y, .n z]).P v' w) {t : Bool} (ht : eqF a b c x y z = t) :
  Calls Tryz.prog 16 #[v, v'] w fun e w' => ∃ v', e = .returned v' ∧ Below w.heap.size w w' ∧ v' = .bool t := by
 by_cases e0 : a = x
 ·by_cases e1 : b = y
  ·by_cases e2 : c = z
   ·exact exQEqual3 h h' e0 e1 e2 ht
   ·exact exQEqual2 h h' e0 e1 e2 ht
  ·exact exQEqual1 h h' e0 e1 ht
 ·exact exQEqual0 h h' e0 ht

set_option maxRecDepth 100000 in
set_option maxHeartbeats 4000000 in
theorem zNx {w : World} {v : Value} {a b c : Int} (h : (Fq.st [.n a, .n b, .n c]).P v w) (ha : ab a < pw 60) (hb : ab b < pw 60) (hc : ab c < pw 60) :
  Calls Tryz.prog 65 #[v] w fun e w' => ∃ v', e = .returned v' ∧ Below w.heap.size w w' ∧ Num w' v' ((Int.gcd (Int.gcd a b : Int) c : Int)) := by
 replace ha := hidd ha
 replace hb := hidd hb
 replace hc := hidd hc
 obtain ⟨_, rfl, hf0⟩ := h
 have hF0 := hf0
 obtain ⟨y0_p0, y0_q0, _, rfl, _y0_n0, y0_p1, y0_q1, _, rfl, _y0_n1, y0_p2, y0_q2, _, rfl, _y0_n2, rfl⟩ := hf0
 obtain ⟨w1, b1, hw1, hb1, hs1, E⟩ := gS w 33 hF0
 obtain ⟨w2, b2, hw2, hb2, hs2, E⟩ := fZ E hs1 31
 go_enter Tryz.func65, Tryz.ntmps65
 go_upto_region 1 with (fail)
 rw [← hw1]
 rw [← hw2]
 rw [← hb2]
 rw [← hb1]
 clear hw1 hw2 hb1 hb2 hs2 hs1
 have B3 : Hid (ab ((Int.gcd a b : Int)) < pw 60) := ab_gcdB ha.out hb.out (by omega) (by omega)
 have B4 : Hid (ab ((Int.gcd (Int.gcd a b : Int) c : Int)) < pw 60) := ab_gcdB B3.out hc.out (by omega) (by omega)
 refine rg [ip b1 0, Fq.num a, ip b1 2, Fq.num b, Fq.num (Int.gcd a b : Int), ip b1 4, Fq.num c, Fq.num (Int.gcd (Int.gcd a b : Int) c : Int), Fq.any] [some (8, Fq.num (Int.gcd (Int.gcd a b : Int) c : Int)), none] [] E (fun hp => ⟨?_, ?_, ?_, ?_, ?_, ?_, ?_, ?_, ?_, tv⟩) ?_
 ·exact qa b1 0 0 hp (sqo 1)
 ·exact lN 0 2 hp (mq 1 rfl) zAc (sqi 0)
 ·exact qa b1 0 2 hp (sqo 1)
 ·exact lN 2 2 hp (mq 1 rfl) zAc (sqi 2)
 ·exact wXb (Fq.num a) (Fq.num b) hp zJx (sqi 1) (sqi 3) fun v v' w h h' => exRGcd h h' (Int.lt_of_lt_of_le ha.out (zAb (by omega))) (Int.lt_of_lt_of_le hb.out (zAb (by omega)))
 ·exact qa b1 0 4 hp (sqo 1)
 ·exact lN 4 2 hp (mq 1 rfl) zAc (sqi 5)
 ·exact wXb (Fq.num (Int.gcd a b : Int)) (Fq.num c) hp zJx (sqi 4) (sqi 6) fun v v' w h h' => exRGcd h h' (Int.lt_of_lt_of_le B3.out (zAb (by omega))) (Int.lt_of_lt_of_le hc.out (zAb (by omega)))
 ·exact sP 7 hp (mq 0 rfl) (sqo 2)
 intro L vs w5 nb hL hC hn E5
 have e0 := wXi hC 0
 have e2 := wXi hC 2
 have e5 := wXi hC 5
 have E := E5; try simp only [LM, zAd] at E
 rw [zAe hL]
 simp only [SP, Nat.zero_add, Nat.reduceAdd]
 rw [e0, e2, e5]
 generalize vs 1 = u5_1
 generalize vs 3 = u5_3
 generalize vs 4 = u5_4
 generalize vs 6 = u5_6
 generalize vs 7 = u5_7
 clear e0 e2 e5 hC hn E5 hL vs L nb
 obtain ⟨p0_0, p0_1, c0_0, c0_1, hP0⟩ := zD0 (E.box 0 rfl)
 clear B3 B4 ha hb hc
 go_wp2
 refine bodyPost_ret (v := .agg #[p0_0, p0_1]) ?_ rfl ⟨_, rfl, E.below, hP0⟩
 simp [results, Tryz.results65, go_sem, c0_0, c0_1]

set_option maxRecDepth 100000 in
set_option maxHeartbeats 4000000 in
theorem zKb {w : World} {v : Value} {a b c : Int} (h : (Fq.st [.n a, .n b, .n c]).P v w) (ha : ab a < pw 60) (hb : ab b < pw 60) (hc : ab c < pw 60) {t : Bool} (ht : decide (cont a b c = 1) = t) :
  Calls Tryz.prog 21 #[v] w fun e w' => ∃ v', e = .returned v' ∧ Below w.heap.size w w' ∧ v' = .bool t := by
 replace ha := hidd ha
 replace hb := hidd hb
 replace hc := hidd hc
 have HT := hidd ht
 clear ht
 obtain ⟨_, rfl, hf0⟩ := h
 have hF0 := hf0
 obtain ⟨y0_p0, y0_q0, _, rfl, _y0_n0, y0_p1, y0_q1, _, rfl, _y0_n1, y0_p2, y0_q2, _, rfl, _y0_n2, rfl⟩ := hf0
 obtain ⟨w1, b1, hw1, hb1, hs1, E⟩ := gS w 33 hF0
 go_enter Tryz.func21, Tryz.ntmps21
 go_upto_region 1 with (fail)
 rw [← hw1]
 rw [← hb1]
 clear hw1 hb1 hs1
 have B2 : Hid (ab ((1)) < pw 3) := zBh (by decide)
 refine rg [Fq.st [.n a, .n b, .n c], Fq.num (cont a b c), Fq.num (1), Fq.is (.bool t), Fq.is (.bool t)] [none] [] E (fun hp => ⟨?_, ?_, ?_, ?_, ?_, tv⟩) ?_
 ·exact lS 0 6 hp (mq 0 rfl) zAm (sqo 1)
 ·exact wXa (Fq.st [.n a, .n b, .n c]) hp zMo (sqi 0) fun v w h => zNx h ha.out hb.out hc.out
 ·exact zAn (F := (Fq.is (.int .i64 1)).P) hp fo tv (zB2) (zAj (fun _ => rfl)) (fun v w h => (by subst h; exact rOfK w (1) (by omega) (by omega)))
 ·exact wXb (Fq.num (cont a b c)) (Fq.num (1)) hp zCs (sqi 1) (sqi 2) fun v v' w h h' => zCt h h' HT.out
 ·exact zAh hp fo tv (sqi 3)
 intro L vs w3 nb hL hC hn E3
 have e3 := wXi hC 3
 have e4 := wXi hC 4
 have E := E3; try simp only [LM, zAd] at E
 rw [zAe hL]
 simp only [SP, Nat.zero_add, Nat.reduceAdd]
 rw [e3, e4]
 generalize vs 0 = u3_0
 generalize vs 1 = u3_1
 generalize vs 2 = u3_2
 clear e3 e4 hC hn E3 hL vs L nb
 clear HT
 clear B2 ha hb hc
 go_wp2
 refine bodyPost_ret (v := .bool t) ?_ rfl ⟨_, rfl, E.below, rfl⟩
 simp [results, Tryz.results21, go_sem]

set_option maxRecDepth 100000 in
set_option maxHeartbeats 4000000 in
theorem zDs {w : World} {a b c : Int} (ha : -9223372036854775808 ≤ a ∧ a ≤ 9223372036854775807) (hb : -9223372036854775808 ≤ b ∧ b ≤ 9223372036854775807) (hc : -9223372036854775808 ≤ c ∧ c ≤ 9223372036854775807) :
  Calls Tryz.prog 39 #[.int .i64 a, .int .i64 b, .int .i64 c] w fun e w' => ∃ v', e = .returned v' ∧ Below w.heap.size w w' ∧ (Fq.st [.n a, .n b, .n c]).P v' w' := by
 have Ha := hidd ha
 have Ba : Hid (ab a < pw 3) := zAs ha.1 ha.2
 have Hb := hidd hb
 have Bb : Hid (ab b < pw 3) := zAs hb.1 hb.2
 have Hc := hidd hc
 have Bc : Hid (ab c < pw 3) := zAs hc.1 hc.2
 clear ha hb hc
 obtain ⟨w1, b1, hw1, hb1, hs1, E⟩ := zCu w (F := Fq.st [.n 0, .n 0, .n 0]) (us := [.bool false, .slice none 0 0, .bool false, .slice none 0 0, .bool false, .slice none 0 0]) 33 rfl (by simp) ((Fits.tame (zBb w))) (zOd _)
 go_enter Tryz.func39, Tryz.ntmps39
 go_upto_region 1 with (fail)
 rw [← hw1]
 rw [← hb1]
 clear hw1 hb1 hs1
 refine rg [Fq.is (.int .i64 a), Fq.num a, Fq.is (.int .i64 b), Fq.num b, Fq.is (.int .i64 c), Fq.num c, Fq.st [.n a, .n b, .n c], Fq.any] [some (7, Fq.st [.n a, .n b, .n c])] [] E (fun hp => ⟨?_, ?_, ?_, ?_, ?_, ?_, ?_, ?_, tv⟩) ?_
 ·exact zAa hp fo tv (sqo 0)
 ·exact wXa (Fq.is (.int .i64 a)) hp zB2 (sqi 0) fun v w h => (by subst h; exact rOfK w a Ha.out.1 Ha.out.2)
 ·exact zAa hp fo tv (sqo 1)
 ·exact wXa (Fq.is (.int .i64 b)) hp zB2 (sqi 2) fun v w h => (by subst h; exact rOfK w b Hb.out.1 Hb.out.2)
 ·exact zAa hp fo tv (sqo 2)
 ·exact wXa (Fq.is (.int .i64 c)) hp zB2 (sqi 4) fun v w h => (by subst h; exact rOfK w c Hc.out.1 Hc.out.2)
 ·exact zF2 (z0 := a) (z1 := b) (z2 := c) hp fo tv (sqi 1) (sqi 3) (sqi 5) (fun v w h => h)
 ·exact sO 0 6 hp (mq 0 rfl) zA7 (sqo 6)
 intro L vs w2 nb hL hC hn E2
 have e0 := wXi hC 0
 have e2 := wXi hC 2
 have e4 := wXi hC 4
 have E := E2; try simp only [LM, zAd] at E
 rw [zAe hL]
 simp only [SP, Nat.zero_add, Nat.reduceAdd]
 rw [e0, e2, e4]
 generalize vs 1 = u2_1
 generalize vs 3 = u2_3
 generalize vs 5 = u2_5
 generalize vs 6 = u2_6
 clear e0 e2 e4 hC hn E2 hL vs L nb
 clear Ha Hb Hc
 obtain ⟨_, _, hc0, hf0⟩ := zBm (E.box 0 rfl)
 have hP0 := hf0
 obtain ⟨r0_p0, r0_q0, _, rfl, _r0_n0, r0_p1, r0_q1, _, rfl, _r0_n1, r0_p2, r0_q2, _, rfl, _r0_n2, rfl⟩ := hf0
 have c0_0 := hc0 0 (by simp)
 have c0_1 := hc0 1 (by simp)
 have c0_2 := hc0 2 (by simp)
 have c0_3 := hc0 3 (by simp)
 have c0_4 := hc0 4 (by simp)
 have c0_5 := hc0 5 (by simp)
 simp only [List.getD_cons_zero, List.getD_cons_succ] at c0_0 c0_1 c0_2 c0_3 c0_4 c0_5
 clear hc0
 clear Ba Bb Bc
 go_wp2
 refine bodyPost_ret (v := .agg #[r0_p0, r0_q0, r0_p1, r0_q1, r0_p2, r0_q2]) ?_ rfl ⟨_, rfl, E.below, ⟨_, rfl, hP0⟩⟩
 simp [results, Tryz.results39, go_sem, c0_0, c0_1, c0_2, c0_3, c0_4, c0_5]

set_option maxRecDepth 100000 in
set_option maxHeartbeats 4000000 in
theorem zIe {w : World} {x1 x2 x3 x4 : Int} (hx1 : -9223372036854775808 ≤ x1 ∧ x1 ≤ 9223372036854775807) (hx2 : -9223372036854775808 ≤ x2 ∧ x2 ≤ 9223372036854775807) (hx3 : -9223372036854775808 ≤ x3 ∧ x3 ≤ 9223372036854775807) (hx4 : -9223372036854775808 ≤ x4 ∧ x4 ≤ 9223372036854775807) :
  Calls Tryz.prog 75 #[.int .i64 x1, .int .i64 x2, .int .i64 x3, .int .i64 x4] w fun e w' => ∃ v', e = .returned v' ∧ Below w.heap.size w w' ∧ (Fq.st [.n x1, .n x2, .n x3, .n x4]).P v' w' := by
 have Hx1 := hidd hx1
 have Bx1 : Hid (ab x1 < pw 3) := zAs hx1.1 hx1.2
 have Hx2 := hidd hx2
 have Bx2 : Hid (ab x2 < pw 3) := zAs hx2.1 hx2.2
 have Hx3 := hidd hx3
 have Bx3 : Hid (ab x3 < pw 3) := zAs hx3.1 hx3.2
 have Hx4 := hidd hx4
 have Bx4 : Hid (ab x4 < pw 3) := zAs hx4.1 hx4.2
 clear hx1 hx2 hx3 hx4
 obtain ⟨w1, b1, hw1, hb1, hs1, E⟩ := zCu w (F := Fq.st [.n 0, .n 0, .n 0, .n 0]) (us := [.bool false, .slice none 0 0, .bool false, .slice none 0 0, .bool false, .slice none 0 0, .bool false, .slice none 0 0]) 36 rfl (by simp) ((Fits.tame (zB5 w))) (zKf _)
 go_enter Tryz.func75, Tryz.ntmps75
 go_upto_region 1 with (fail)
 rw [← hw1]
 rw [← hb1]
 clear hw1 hb1 hs1
 refine rg [Fq.is (.int .i64 x1), Fq.num x1, Fq.is (.int .i64 x2), Fq.num x2, Fq.is (.int .i64 x3), Fq.num x3, Fq.is (.int .i64 x4), Fq.num x4, Fq.st [.n x1, .n x2, .n x3, .n x4], Fq.any] [some (9, Fq.st [.n x1, .n x2, .n x3, .n x4])] [] E (fun hp => ⟨?_, ?_, ?_, ?_, ?_, ?_, ?_, ?_, ?_, ?_, tv⟩) ?_
 ·exact zAa hp fo tv (sqo 0)
 ·exact wXa (Fq.is (.int .i64 x1)) hp zB2 (sqi 0) fun v w h => (by subst h; exact rOfK w x1 Hx1.out.1 Hx1.out.2)
 ·exact zAa hp fo tv (sqo 1)
 ·exact wXa (Fq.is (.int .i64 x2)) hp zB2 (sqi 2) fun v w h => (by subst h; exact rOfK w x2 Hx2.out.1 Hx2.out.2)
 ·exact zAa hp fo tv (sqo 2)
 ·exact wXa (Fq.is (.int .i64 x3)) hp zB2 (sqi 4) fun v w h => (by subst h; exact rOfK w x3 Hx3.out.1 Hx3.out.2)
 ·exact zAa hp fo tv (sqo 3)
 ·exact wXa (Fq.is (.int .i64 x4)) hp zB2 (sqi 6) fun v w h => (by subst h; exact rOfK w x4 Hx4.out.1 Hx4.out.2)
 ·exact zHc (z0 := x1) (z1 := x2) (z2 := x3) (z3 := x4) hp fo tv (sqi 1) (sqi 3) (sqi 5) (sqi 7) (fun v w h => h)
 ·exact sO 0 8 hp (mq 0 rfl) zBz (sqo 8)
 intro L vs w2 nb hL hC hn E2
 have e0 := wXi hC 0
 have e2 := wXi hC 2
 have e4 := wXi hC 4
 have e6 := wXi hC 6
 have E := E2; try simp only [LM, zAd] at E
 rw [zAe hL]
 simp only [SP, Nat.zero_add, Nat.reduceAdd]
 rw [e0, e2, e4, e6]
 generalize vs 1 = u2_1
 generalize vs 3 = u2_3
 generalize vs 5 = u2_5
 generalize vs 7 = u2_7
 generalize vs 8 = u2_8
 clear e0 e2 e4 e6 hC hn E2 hL vs L nb
 clear Hx1 Hx2 Hx3 Hx4
 obtain ⟨_, _, hc0, hf0⟩ := zBm (E.box 0 rfl)
 have hP0 := hf0
 obtain ⟨r0_p0, r0_q0, _, rfl, _r0_n0, r0_p1, r0_q1, _, rfl, _r0_n1, r0_p2, r0_q2, _, rfl, _r0_n2, r0_p3, r0_q3, _, rfl, _r0_n3, rfl⟩ := hf0
 have c0_0 := hc0 0 (by simp)
 have c0_1 := hc0 1 (by simp)
 have c0_2 := hc0 2 (by simp)
 have c0_3 := hc0 3 (by simp)
 have c0_4 := hc0 4 (by simp)
 have c0_5 := hc0 5 (by simp)
 have c0_6 := hc0 6 (by simp)
 have c0_7 := hc0 7 (by simp)
 simp only [List.getD_cons_zero, List.getD_cons_succ] at c0_0 c0_1 c0_2 c0_3 c0_4 c0_5 c0_6 c0_7
 clear hc0
 clear Bx1 Bx2 Bx3 Bx4
 go_wp2
 refine bodyPost_ret (v := .agg #[r0_p0, r0_q0, r0_p1, r0_q1, r0_p2, r0_q2, r0_p3, r0_q3]) ?_ rfl ⟨_, rfl, E.below, ⟨_, rfl, hP0⟩⟩
 simp [results, Tryz.results75, go_sem, c0_0, c0_1, c0_2, c0_3, c0_4, c0_5, c0_6, c0_7]

def FiveAt (zs : List Int) (g : Nat) (w : World) : Prop :=
 g < w.heap.size ∧ ∀ j, j < 5 → ∃ (n : Bool) (ao : Option Addr) (k c : Nat), w.cell? ⟨g, 2 * j, none⟩ = some (.bool n) ∧ w.cell? ⟨g, 2 * j + 1, none⟩ = some (.slice ao k c) ∧ Num w (.agg #[.bool n, .slice ao k c]) (zs.getD j 0)

theorem FiveAt.mono {zs : List Int} {g : Nat} {w w' : World} (h : FiveAt zs g w) (hb : Below w.heap.size w w') : FiveAt zs g w' := by
 refine ⟨Nat.lt_of_lt_of_le h.1 hb.size, fun j hj => ?_⟩
 obtain ⟨n, ao, k, c, h1, h2, h3⟩ := h.2 j hj
 exact ⟨n, ao, k, c, (hb.cell (p := ⟨g, 2 * j, none⟩) h.1).trans h1, (hb.cell (p := ⟨g, 2 * j + 1, none⟩) h.1).trans h2, h3.mono hb⟩

section
variable {os : List Oper} {Q : Exit → Act → World → Prop} {a : Act} {p : Plan} {B B0 : Nat} {w0 : World}
variable {i s : Nat} {d : Option Tmp} {ty : TypeId} {ps : String} {af : Array Edge} {gd : Option (Nat × Bool)}

end

theorem zL2 {neg : Bool} {xs : List Int} (hc : Canon xs) (hn : neg = true → xs.length ≠ 0) : zEi neg xs = true := by
 unfold zEi
 by_cases h : xs.length = 0
 ·rw [if_pos h]
  cases neg with
  | false => rfl
  | true => exact absurd h (hn rfl)
 ·rw [if_neg h]
  have h1 : pw (xs.length - 1) ≤ val xs := hc.2.resolve_left h
  have h2 := zAu xs (xs.length - 1)
  rw [show xs.length - 1 + 1 = xs.length by omega, List.take_length] at h2
  have h3 := zBa (hc.1.take (xs.length - 1))
  rw [List.length_take, Nat.min_eq_left (by omega)] at h3
  simp only [bne_iff_ne, ne_eq]
  intro h0
  rw [h0, Int.mul_zero] at h2
  omega

theorem exValid {w : World} {n : Bool} {ao : Option Addr} {k c : Nat} {z : Int} (h : Num w (.agg #[.bool n, .slice ao k c]) z) : Calls Tryz.prog 56 #[.agg #[.bool n, .slice ao k c]] w fun e w' => e = .returned (.bool true) ∧ Below w.heap.size w w' := by
 obtain ⟨neg, ao', k', c', xs, hv, hs, hn, hz, hc, hnn⟩ := h
 obtain ⟨rfl, rfl, rfl, rfl⟩ : n = neg ∧ ao = ao' ∧ k = k' ∧ c = c' := by
  simp at hv; exact ⟨hv.1, hv.2.1, hv.2.2.1, hv.2.2.2⟩
 have := Valid_any w n ao k c xs hs (by omega)
 rw [zL2 hc (by rw [hs.len]; exact hnn)] at this
 exact this

theorem exRValid {w : World} {n : Bool} {ao : Option Addr} {k c : Nat} {z : Int} (h : Num w (.agg #[.bool n, .slice ao k c]) z) : Calls Tryz.prog 58 #[.agg #[.bool n, .slice ao k c]] w fun e w' => e = .returned (.bool true) ∧ Below w.heap.size w w' := by
 obtain ⟨neg, ao', k', c', xs, hv, hs, hn, hz, hc, hnn⟩ := h
 obtain ⟨rfl, rfl, rfl, rfl⟩ : n = neg ∧ ao = ao' ∧ k = k' ∧ c = c' := by
  simp at hv; exact ⟨hv.1, hv.2.1, hv.2.2.1, hv.2.2.2⟩
 have := zO3 w n ao k c xs hs (by omega)
 rw [zL2 hc (by rw [hs.len]; exact hnn)] at this
 exact this

theorem zMl (args : Array Value) (w : World) : (callFunc 92 args).run Tryz.prog w = .ok (.enter 92 args) w := zAq Tryz.func92 (by kernel_rfl) rfl args w
def sqB (n : Int) : Bool := decide (0 ≤ n) && (List.range (n.toNat + 1)).any fun k => k * k == n.toNat
theorem sqB_iff {n : Int} : sqB n = true ↔ ∃ k : Int, k * k = n := by
 simp only [sqB, Bool.and_eq_true, decide_eq_true_eq, List.any_eq_true, List.mem_range, beq_iff_eq]
 constructor
 ·rintro ⟨h0, k, _, hk⟩
  refine ⟨(k : Int), ?_⟩
  have : ((k * k : Nat) : Int) = ((n.toNat : Nat) : Int) := by rw [hk]
  rw [Int.natCast_mul] at this
  omega
 ·rintro ⟨k, hk⟩
  have h0 := zDv k
  have h1 := zDl k
  have h2 : (k.natAbs : Int) * (k.natAbs : Int) = ((k.natAbs * k.natAbs : Nat) : Int) := by rw [Int.natCast_mul]
  have h3 : k.natAbs ≤ k.natAbs * k.natAbs := by
   rcases Nat.eq_zero_or_pos k.natAbs with e | e
   ·rw [e]; omega
   ·exact Nat.le_mul_of_pos_left _ e
  refine ⟨by omega, k.natAbs, by omega, by omega⟩
theorem isq_ex : ∀ p : Nat, ∃ s : Int, 0 ≤ s ∧ s * s ≤ p ∧ (p : Int) < (s + 1) * (s + 1)
 | 0 => ⟨0, by decide, by decide, by decide⟩
 | p + 1 => by
  obtain ⟨s, h0, h1, h2⟩ := isq_ex p
  have e : (s + 1 + 1) * (s + 1 + 1) = (s + 1) * (s + 1) + 2 * (s + 1) + 1 := by rw [Int.add_mul (s + 1) 1, Int.mul_add (s + 1) (s + 1) 1]; omega
  by_cases h : ((p + 1 : Nat) : Int) < (s + 1) * (s + 1)
  ·exact ⟨s, h0, by omega, h⟩
  ·exact ⟨s + 1, by omega, by omega, by rw [e]; omega⟩
theorem zIj {X r s : Int} (r0 : 0 ≤ r) (r1 : r * r ≤ X) (r2 : X < (r + 1) * (r + 1)) (s0 : 0 ≤ s) (h1 : s * s ≤ X) (h2 : X < (s + 1) * (s + 1)) : r = s := by
 rcases Int.lt_trichotomy r s with h | h | h
 ·have := Int.mul_le_mul (show r + 1 ≤ s by omega) (show r + 1 ≤ s by omega) (by omega) s0
  omega
 ·exact h
 ·have := Int.mul_le_mul (show s + 1 ≤ r by omega) (show s + 1 ≤ r by omega) (by omega) r0
  omega
theorem root_sq {X r : Int} (hr : IsRoot X 2 r) : 0 ≤ r ∧ r * r ≤ X ∧ X < (r + 1) * (r + 1) := by
 obtain ⟨r0, r1, r2⟩ := hr
 have e : ∀ z : Int, z ^ 2 = z * z := fun z => by rw [show (2 : Nat) = 1 + 1 by rfl, Int.pow_succ, Int.pow_succ, Int.pow_zero, Int.one_mul]
 rw [e] at r1 r2
 exact ⟨r0, r1, r2⟩
theorem zLu {n s : Int} (s0 : 0 ≤ s) (h1 : s * s ≤ n) (h2 : n < (s + 1) * (s + 1)) : sqB n = decide (n - s * s = 0) := by
 by_cases e : n - s * s = 0
 ·rw [decide_eq_true e]
  exact sqB_iff.2 ⟨s, by omega⟩
 ·rw [decide_eq_false e]
  refine Bool.eq_false_iff.2 fun h => e ?_
  obtain ⟨k, hk⟩ := sqB_iff.1 h
  have hk2 := zDl k
  have := zIj (X := n) (r := (k.natAbs : Int)) (by omega) (by omega) (by rw [Int.add_mul, Int.mul_add]; omega) s0 h1 h2
  rw [← this]
  omega
theorem exQSqrt {n : Int} (h0 : 0 ≤ n) (hn : ab n < pw 40) : ∃ s : Int, (∀ (w : World) (v : Value), Num w v n → Calls Tryz.prog 92 #[v] w fun e w' => ∃ v', e = .returned v' ∧ Below w.heap.size w w' ∧ (Fq.tup3 (Fq.num s) (Fq.num (n - s * s)) (Fq.is (.int .i64 0))).P v' w') ∧ sqB n = decide (n - s * s = 0) := by
 obtain ⟨s, s0, s1, s2⟩ := isq_ex n.toNat
 have e : ((n.toNat : Nat) : Int) = n := by omega
 rw [e] at s1 s2
 refine ⟨s, fun w v hv => (RSqrtV hv hn).mono fun e w' hh => ?_, zLu s0 s1 s2⟩
 obtain ⟨hB, ⟨h1, _⟩ | ⟨_, v1, v2, r, rfl, hr1, hr2, hr⟩⟩ := hh
 ·omega
 ·obtain ⟨q0, q1, q2⟩ := root_sq hr
  obtain rfl : r = s := zIj q0 q1 q2 s0 s1 s2
  have hbr : ab r < pw 40 := by
   have h4 := hn
   have h5 : r ≤ r * r := by
    rcases Int.lt_or_le 0 r with h | h
    ·have := Int.mul_le_mul_of_nonneg_left (show 1 ≤ r by omega) s0; omega
    ·have := Int.mul_nonneg s0 s0; omega
   unfold ab at *
   generalize pw 40 = k at *
   omega
  have hbr2 : ab (n - r * r) < pw 40 := by
   have h4 := hn
   have := Int.mul_nonneg s0 s0
   unfold ab at *
   generalize pw 40 = k at *
   omega
  exact ⟨_, rfl, hB, v1, v2, _, rfl, zDj hr1 hbr (by omega), zDj hr2 hbr2 (by omega), rfl⟩
theorem zHj {n : Int} (h : n < 0) : sqB n = false := by
 refine Bool.eq_false_iff.2 fun e => ?_
 obtain ⟨k, hk⟩ := sqB_iff.1 e
 have := zDv k
 omega
theorem zCf {a b c : Int} (ha : ab a < pw 15) (hb : ab b < pw 15) (hc : ab c < pw 15) : ab (b * b - 4 * (a * c)) < pw 40 :=
 zDp (zBi hb hb) (zBi (zAs (x := 4) (by decide) (by decide)) (zBi ha hc)) (by omega) (by omega)
theorem zC5 {w : World} {v : Value} {z : Int} (h : Num w v z) : Calls Tryz.prog 58 #[v] w fun e w' => ∃ v', e = .returned v' ∧ Below w.heap.size w w' ∧ v' = .bool true := by
 obtain ⟨n, ao, k, c, rfl⟩ := h.parts
 refine (exRValid h).mono ?_
 rintro e w' ⟨rfl, hb⟩
 exact ⟨_, rfl, hb, rfl⟩
def chkF (a b c : Int) : Int := if sqB (b * b - 4 * (a * c)) = true then 5 else if b * b - 4 * (a * c) < 0 ∧ a < 0 then 1 else 0
theorem zHt {a b c : Int} (hd : b * b - 4 * (a * c) < 0) (hz : ¬ a < 0) : chkF a b c = 0 := by
 unfold chkF
 rw [zHj hd, if_neg (by decide), if_neg fun x => hz x.2]
theorem zJu {a b c : Int} (hd : b * b - 4 * (a * c) < 0) (hz : a < 0) : chkF a b c = 1 := by
 unfold chkF
 rw [zHj hd, if_neg (by decide), if_pos ⟨hd, hz⟩]
theorem zHu {a b c : Int} (hd : ¬ b * b - 4 * (a * c) < 0) : chkF a b c = if sqB (b * b - 4 * (a * c)) = true then 5 else 0 := by
 unfold chkF
 by_cases h : sqB (b * b - 4 * (a * c)) = true
 ·rw [if_pos h, if_pos h]
 ·rw [if_neg h, if_neg h, if_neg fun x => hd x.1]
def dfB (a b c : Int) : Bool := decide (b * b - 4 * (a * c) < 0 ∧ 0 ≤ a)
section
variable {os : List Oper} {Q : Exit → Act → World → Prop} {a : Act} {p : Pq} {B B0 : Nat} {w0 : World}
variable {i s : Nat} {d : Option Tmp} {ty : TypeId} {ps : String} {af : Array Edge} {gd : Option (Nat × Bool)}
theorem zI0 (hp : p.Ok B B0) (hF : p.Free i) (hg : GdQ os a p B B0 w0 af gd) (hC : ∀ v w, (Fq.st [.n 0, .n 0, .n 0]).P v w → (p.c i).P v w) :
  zAr os Q a p B B0 w0 i { dst := d, op := .build 33 #[], type := ty, pos := ps, after := af, guard := gd } := by
 refine zBs hp hF hg fun L vs w hG hL hc hd => ?_
 refine ⟨.agg #[.bool false, .slice none 0 0, .bool false, .slice none 0 0, .bool false, .slice none 0 0], ?_, hC _ _ ⟨_, rfl, _, _, _, rfl, Num.zero w, _, _, _, rfl, Num.zero w, _, _, _, rfl, Num.zero w, rfl⟩⟩
 simp [execOp, go_sem]
end
set_option maxRecDepth 100000 in
set_option maxHeartbeats 4000000 in
theorem zOa {w : World} {v : Value} {n : Int} (h : Num w v n) (hn : ab n < pw 40) (hc : n < 0) {t : Bool} (ht : sqB n = t) :
  Calls Tryz.prog 51 #[v] w fun e w' => ∃ v', e = .returned v' ∧ Below w.heap.size w w' ∧ v' = .bool t := by
 replace hn := hidd hn
 have T1 : Hid (cmpI n 0 < 0) := cmpIqlt.2 hc
 have ht2 : t = false := ht.symm.trans (zHj hc)
 subst ht2
 clear ht
 clear hc
 obtain ⟨n0, ao0, k0, c0, rfl⟩ := h.parts
 obtain ⟨w1, b1, hw1, hb1, hs1, E⟩ := zCu w (F := Fq.num n) (us := [.bool n0, .slice ao0 k0 c0]) 31 rfl (by simp) (zB0 _ _ _ _) h
 go_enter Tryz.func51, Tryz.ntmps51
 go_upto_region 1 with (fail)
 rw [← hw1]
 rw [← hb1]
 clear hw1 hb1 hs1
 refine rg [Fq.num n, Fq.is (.int .i64 (cmpI n 0)), yT] [none] [] E (fun hp => ⟨?_, ?_, ?_, tv⟩) ?_
 ·exact lI 0 hp (mq 0 rfl) (sqo 1) fun us w hl h => zAp hl h
 ·exact wXa (Fq.num n) hp zB3 (sqi 0) fun v w h => zB4 h
 ·exact zAf (F := fun v _ => v = .int .i64 (cmpI n 0)) hp fo tv (sqi 1) (fun ρ w hc h => ⟨.bool true, by simp [execOp, go_sem, h, hc, T1.out], rfl⟩)
 intro L vs w2 nb hL hC hn E2
 have e1 := wXi hC 1
 have e2 := wXi hC 2
 have E := E2; try simp only [LM, zAd] at E
 rw [zAe hL]
 simp only [SP, Nat.zero_add, Nat.reduceAdd]
 rw [e1, e2]
 generalize vs 0 = u2_0
 clear e1 e2 hC hn E2 hL vs L nb
 go_upto_region 2 with (fail)
 refine rg [yF] [none] [] E (fun hp => ⟨?_, tv⟩) ?_
 ·exact zAh hp fo tv (zAj (fun _ => rfl))
 intro L vs w3 nb hL hC hn E3
 have e0 := wXi hC 0
 have E := E3; try simp only [LM, zAd] at E
 rw [zAe hL]
 simp only [SP, Nat.zero_add, Nat.reduceAdd]
 rw [e0]
 clear e0 hC hn E3 hL vs L nb
 clear T1
 clear hn
 go_wp2
 refine bodyPost_ret (v := .bool false) ?_ rfl ⟨_, rfl, E.below, rfl⟩
 simp [results, Tryz.results51, go_sem]

set_option maxRecDepth 100000 in
set_option maxHeartbeats 4000000 in
theorem zOb {w : World} {v : Value} {n : Int} (h : Num w v n) (hn : ab n < pw 40) (hc : ¬ n < 0) {t : Bool} (ht : sqB n = t) :
  Calls Tryz.prog 51 #[v] w fun e w' => ∃ v', e = .returned v' ∧ Below w.heap.size w w' ∧ v' = .bool t := by
 replace hn := hidd hn
 have T1 : Hid (¬ cmpI n 0 < 0) := fun e => hc (cmpIqlt.1 e)
 obtain ⟨s, hS, hq⟩ := exQSqrt (by omega) hn.out
 have HS := hidd hS
 have ht3 : t = decide (n - s * s = 0) := ht.symm.trans hq
 clear hc hS hq ht
 have HT : Hid (t = decide (n - s * s = 0)) := ht3
 clear ht3
 obtain ⟨n0, ao0, k0, c0, rfl⟩ := h.parts
 obtain ⟨w1, b1, hw1, hb1, hs1, E⟩ := zCu w (F := Fq.num n) (us := [.bool n0, .slice ao0 k0 c0]) 31 rfl (by simp) (zB0 _ _ _ _) h
 go_enter Tryz.func51, Tryz.ntmps51
 go_upto_region 1 with (fail)
 rw [← hw1]
 rw [← hb1]
 clear hw1 hb1 hs1
 refine rg [Fq.num n, Fq.is (.int .i64 (cmpI n 0)), yF] [none] [] E (fun hp => ⟨?_, ?_, ?_, tv⟩) ?_
 ·exact lI 0 hp (mq 0 rfl) (sqo 1) fun us w hl h => zAp hl h
 ·exact wXa (Fq.num n) hp zB3 (sqi 0) fun v w h => zB4 h
 ·exact zAf (F := fun v _ => v = .int .i64 (cmpI n 0)) hp fo tv (sqi 1) (fun ρ w hc h => ⟨.bool false, by simp [execOp, go_sem, h, hc, T1.out], rfl⟩)
 intro L vs w2 nb hL hC hn E2
 have e1 := wXi hC 1
 have e2 := wXi hC 2
 have E := E2; try simp only [LM, zAd] at E
 rw [zAe hL]
 simp only [SP, Nat.zero_add, Nat.reduceAdd]
 rw [e1, e2]
 generalize vs 0 = u2_0
 clear e1 e2 hC hn E2 hL vs L nb
 go_upto_region 3 with (fail)
 refine rg [Fq.num n, Fq.tup3 (Fq.num s) (Fq.num (n - s * s)) (Fq.is (.int .i64 0)), Fq.tup3 (Fq.num s) (Fq.num (n - s * s)) (Fq.is (.int .i64 0)), Fq.num s, Fq.num (n - s * s), Fq.is (.int .i64 0), Fq.any, Fq.any, Fq.any, Fq.any, Fq.is (.int .i64 0)] [none] [⟨6, 8, 2, Fq.num 0, Fq.num s, none⟩, ⟨7, 9, 2, Fq.num 0, Fq.num (n - s * s), none⟩] E (fun hp => ⟨?_, ?_, ?_, ?_, ?_, ?_, ?_, ?_, ?_, ?_, ?_, tv⟩) ?_
 ·exact lI 0 hp (mq 0 rfl) (sqo 1) fun us w hl h => zAp hl h
 ·exact wXa (Fq.num n) hp zMl (sqi 0) fun v w h => HS.out _ _ h
 ·exact zAa hp fo tv (sqi 1)
 ·exact zA1 hp fo tv (sqi 2) (fun v1 v2 v3 w h1 h2 h3 => ⟨_, rfl, h1⟩)
 ·exact zA1 hp fo tv (sqi 2) (fun v1 v2 v3 w h1 h2 h3 => ⟨_, rfl, h2⟩)
 ·exact zA1 hp fo tv (sqi 2) (fun v1 v2 v3 w h1 h2 h3 => ⟨_, rfl, h3⟩)
 ·exact aN hp (mq 0 rfl)
 ·exact aN hp (mq 1 rfl)
 ·exact sN 3 hp (mq 0 rfl)
 ·exact sN 4 hp (mq 1 rfl)
 ·exact zAh hp fo tv (sqi 5)
 intro L vs w3 nb hL hC hn E3
 have e5 := wXi hC 5
 have e10 := wXi hC 10
 have e6 : vs 6 = .pointer (some ⟨nb 6, 0, none⟩) := hn _ (mq 0 rfl)
 have e7 : vs 7 = .pointer (some ⟨nb 7, 0, none⟩) := hn _ (mq 1 rfl)
 have E := E3; try simp only [LM, zAd] at E
 rw [zAe hL]
 simp only [SP, Nat.zero_add, Nat.reduceAdd]
 rw [e5, e10, e6, e7]
 generalize nb 6 = b3_6 at E ⊢
 generalize nb 7 = b3_7 at E ⊢
 generalize vs 0 = u3_0
 generalize vs 1 = u3_1
 generalize vs 2 = u3_2
 generalize vs 3 = u3_3
 generalize vs 4 = u3_4
 clear e5 e10 e6 e7 hC hn E3 hL vs L nb
 go_upto_region 4 with (fail)
 by_cases hz : n - s * s = 0
 ·have T2 : Hid (cmpI (n - s * s) 0 = 0) := cmpIq0.2 hz
  have ht2 : t = true := HT.out.trans (decide_eq_true hz)
  subst ht2
  clear hz HT
  refine rg [Fq.num (n - s * s), Fq.is (.int .i64 (cmpI (n - s * s) 0)), yT, yT] N3 [] E (fun hp => ⟨?_, ?_, ?_, ?_, tv⟩) ?_
  ·exact lI 0 hp (mq 1 rfl) (sqo 4) fun us w hl h => zAp hl h
  ·exact wXa (Fq.num (n - s * s)) hp zB3 (sqi 0) fun v w h => zB4 h
  ·exact zAf (F := fun v _ => v = .int .i64 (cmpI (n - s * s) 0)) hp fo tv (sqi 1) (fun ρ w hc h => ⟨.bool true, by simp [execOp, go_sem, h, hc, T2.out], rfl⟩)
  ·exact zAh hp fo tv (sqi 2)
  intro L vs w4 nb hL hC hn E4
  have e1 := wXi hC 1
  have e2 := wXi hC 2
  have e3 := wXi hC 3
  have E := E4; try simp only [LM, zAd] at E
  rw [zAe hL]
  simp only [SP, Nat.zero_add, Nat.reduceAdd]
  rw [e1, e2, e3]
  generalize vs 0 = u4_0
  clear e1 e2 e3 hC hn E4 hL vs L nb
  clear T1 T2 HS
  clear hn
  go_wp2
  refine bodyPost_ret (v := .bool true) ?_ rfl ⟨_, rfl, E.below, rfl⟩
  simp [results, Tryz.results51, go_sem]
 ·have T2 : Hid (¬ cmpI (n - s * s) 0 = 0) := fun e => hz (cmpIq0.1 e)
  have ht2 : t = false := HT.out.trans (decide_eq_false hz)
  subst ht2
  clear hz HT
  refine rg [Fq.num (n - s * s), Fq.is (.int .i64 (cmpI (n - s * s) 0)), yF, yF] N3 [] E (fun hp => ⟨?_, ?_, ?_, ?_, tv⟩) ?_
  ·exact lI 0 hp (mq 1 rfl) (sqo 4) fun us w hl h => zAp hl h
  ·exact wXa (Fq.num (n - s * s)) hp zB3 (sqi 0) fun v w h => zB4 h
  ·exact zAf (F := fun v _ => v = .int .i64 (cmpI (n - s * s) 0)) hp fo tv (sqi 1) (fun ρ w hc h => ⟨.bool false, by simp [execOp, go_sem, h, hc, T2.out], rfl⟩)
  ·exact zAh hp fo tv (sqi 2)
  intro L vs w5 nb hL hC hn E5
  have e1 := wXi hC 1
  have e2 := wXi hC 2
  have e3 := wXi hC 3
  have E := E5; try simp only [LM, zAd] at E
  rw [zAe hL]
  simp only [SP, Nat.zero_add, Nat.reduceAdd]
  rw [e1, e2, e3]
  generalize vs 0 = u5_0
  clear e1 e2 e3 hC hn E5 hL vs L nb
  clear T1 T2 HS
  clear hn
  go_wp2
  refine bodyPost_ret (v := .bool false) ?_ rfl ⟨_, rfl, E.below, rfl⟩
  simp [results, Tryz.results51, go_sem]

theorem zGy {w : World} {v : Value} {n : Int} (h : Num w v n) (hn : ab n < pw 40) {t : Bool} (ht : sqB n = t) :
  Calls Tryz.prog 51 #[v] w fun e w' => ∃ v', e = .returned v' ∧ Below w.heap.size w w' ∧ v' = .bool t := by
 by_cases hc : n < 0
 ·exact zOa h hn hc ht
 ·exact zOb h hn hc ht

set_option maxRecDepth 100000 in
set_option maxHeartbeats 4000000 in
theorem zNw {w : World} {v : Value} {a b c : Int} (h : (Fq.st [.n a, .n b, .n c]).P v w) (ha : ab a < pw 15) (hb : ab b < pw 15) (hc : ab c < pw 15) (hq : sqB (b * b - 4 * (a * c)) = true) :
  Calls Tryz.prog 15 #[v] w fun e w' => ∃ v', e = .returned v' ∧ Below w.heap.size w w' ∧ v' = .int .i64 5 := by
 replace ha := hidd ha
 replace hb := hidd hb
 replace hc := hidd hc
 have HQ := hidd hq
 clear hq
 have HDB := hidd (zCf ha.out hb.out hc.out)
 obtain ⟨_, rfl, hf0⟩ := h
 have hF0 := hf0
 obtain ⟨y0_p0, y0_q0, _, rfl, _y0_n0, y0_p1, y0_q1, _, rfl, _y0_n1, y0_p2, y0_q2, _, rfl, _y0_n2, rfl⟩ := hf0
 obtain ⟨w1, b1, hw1, hb1, hs1, E⟩ := gS w 33 hF0
 go_enter Tryz.func15, Tryz.ntmps15
 go_upto_region 1 with (fail)
 rw [← hw1]
 rw [← hb1]
 clear hw1 hb1 hs1
 refine rg [ip b1 0, Fq.num a, yT, yF, yF, ip b1 2, Fq.num b, yT, yF, yF, yF, ip b1 4, Fq.num c, yT, yF, yF] [none] [] E (fun hp => ⟨?_, ?_, ?_, ?_, ?_, ?_, ?_, ?_, ?_, ?_, ?_, ?_, ?_, ?_, ?_, ?_, tv⟩) ?_
 ·exact qa b1 0 0 hp (sqo 1)
 ·exact lN 0 2 hp (mq 0 rfl) zAc (sqi 0)
 ·exact wXa (Fq.num a) hp zC2 (sqi 1) fun v w h => zC5 h
 ·exact zAf (F := fun v _ => v = .bool true) hp fo tv (sqi 2) (fun ρ w _ h => ⟨.bool false, by simp [execOp, go_sem, h], rfl⟩)
 ·exact zAa hp fo tv (sqi 3)
 ·exact zAl (b := b1) (off := 0) (off' := 2) hp fo gqi (sqo 1) (fun ρ w h => by simp [execOp, go_sem, h]) (fun _ => rfl)
 ·exact lG 2 2 hp gqi (mq 0 rfl) zAc (sqi 5) fun v w h => zAk h
 ·exact zAn (F := (Fq.num b).P) hp fo gqi (zC2) (sqi 6) (fun v w h => zC5 h)
 ·exact zAf (F := fun v _ => v = .bool true) hp fo gqi (sqi 7) (fun ρ w _ h => ⟨.bool false, by simp [execOp, go_sem, h], rfl⟩)
 ·exact zAg (F := fun v _ => v = .bool false) (G := fun v _ => v = .bool false) hp fo tv (sqi 4) (sqi 8) (fun ρ w hc h h' => ⟨_, by simp [execOp, go_sem, h, h'], rfl⟩)
 ·exact zAa hp fo tv (sqi 9)
 ·exact zAl (b := b1) (off := 0) (off' := 4) hp fo gqi (sqo 1) (fun ρ w h => by simp [execOp, go_sem, h]) (fun _ => rfl)
 ·exact lG 4 2 hp gqi (mq 0 rfl) zAc (sqi 11) fun v w h => zAk h
 ·exact zAn (F := (Fq.num c).P) hp fo gqi (zC2) (sqi 12) (fun v w h => zC5 h)
 ·exact zAf (F := fun v _ => v = .bool true) hp fo gqi (sqi 13) (fun ρ w _ h => ⟨.bool false, by simp [execOp, go_sem, h], rfl⟩)
 ·exact zAg (F := fun v _ => v = .bool false) (G := fun v _ => v = .bool false) hp fo tv (sqi 10) (sqi 14) (fun ρ w hc h h' => ⟨_, by simp [execOp, go_sem, h, h'], rfl⟩)
 intro L vs w2 nb hL hC hn E2
 have e0 := wXi hC 0
 have e2 := wXi hC 2
 have e3 := wXi hC 3
 have e4 := wXi hC 4
 have e5 := wXi hC 5
 have e7 := wXi hC 7
 have e8 := wXi hC 8
 have e9 := wXi hC 9
 have e10 := wXi hC 10
 have e11 := wXi hC 11
 have e13 := wXi hC 13
 have e14 := wXi hC 14
 have e15 := wXi hC 15
 have E := E2; try simp only [LM, zAd] at E
 rw [zAe hL]
 simp only [SP, Nat.zero_add, Nat.reduceAdd]
 rw [e0, e2, e3, e4, e5, e7, e8, e9, e10, e11, e13, e14, e15]
 generalize vs 1 = u2_1
 generalize vs 6 = u2_6
 generalize vs 12 = u2_12
 clear e0 e2 e3 e4 e5 e7 e8 e9 e10 e11 e13 e14 e15 hC hn E2 hL vs L nb
 go_upto_region 3 with (fail)
 refine rg [Fq.st [.n a, .n b, .n c], Fq.num (b * b - 4 * (a * c)), Fq.any, Fq.any] [none] [⟨2, 3, 2, Fq.num 0, Fq.num (b * b - 4 * (a * c)), none⟩] E (fun hp => ⟨?_, ?_, ?_, ?_, tv⟩) ?_
 ·exact lS 0 6 hp (mq 0 rfl) zAm (sqo 1)
 ·exact wXa (Fq.st [.n a, .n b, .n c]) hp zE0 (sqi 0) fun v w h => zE9 h (Int.lt_of_lt_of_le ha.out (zAb (by omega))) (Int.lt_of_lt_of_le hb.out (zAb (by omega))) (Int.lt_of_lt_of_le hc.out (zAb (by omega)))
 ·exact aN hp (mq 0 rfl)
 ·exact sN 1 hp (mq 0 rfl)
 intro L vs w3 nb hL hC hn E3
 have e2 : vs 2 = .pointer (some ⟨nb 2, 0, none⟩) := hn _ (mq 0 rfl)
 have E := E3; try simp only [LM, zAd] at E
 rw [zAe hL]
 simp only [SP, Nat.zero_add, Nat.reduceAdd]
 rw [e2]
 generalize nb 2 = b3_2 at E ⊢
 generalize vs 0 = u3_0
 generalize vs 1 = u3_1
 clear e2 hC hn E3 hL vs L nb
 go_upto_region 4 with (fail)
 refine rg [Fq.num (b * b - 4 * (a * c)), yT] N2 [] E (fun hp => ⟨?_, ?_, tv⟩) ?_
 ·exact lI 0 hp (mq 0 rfl) (sqo 3) fun us w hl h => zAp hl h
 ·exact wXa (Fq.num (b * b - 4 * (a * c))) hp zGr (sqi 0) fun v w h => zGy h HDB.out HQ.out
 intro L vs w4 nb hL hC hn E4
 have e1 := wXi hC 1
 have E := E4; try simp only [LM, zAd] at E
 rw [zAe hL]
 simp only [SP, Nat.zero_add, Nat.reduceAdd]
 rw [e1]
 generalize vs 0 = u4_0
 clear e1 hC hn E4 hL vs L nb
 go_upto_region 5 with (fail)
 refine rg [Fq.is (.int .i64 5)] N2 [] E (fun hp => ⟨?_, tv⟩) ?_
 ·exact zAh hp fo tv (zAj (fun _ => rfl))
 intro L vs w5 nb hL hC hn E5
 have e0 := wXi hC 0
 have E := E5; try simp only [LM, zAd] at E
 rw [zAe hL]
 simp only [SP, Nat.zero_add, Nat.reduceAdd]
 rw [e0]
 clear e0 hC hn E5 hL vs L nb
 clear HQ
 clear ha hb hc HDB
 go_wp2
 refine bodyPost_ret (v := .int .i64 5) ?_ rfl ⟨_, rfl, E.below, rfl⟩
 simp [results, Tryz.results15, go_sem]

set_option maxRecDepth 100000 in
set_option maxHeartbeats 4000000 in
theorem zNv {w : World} {v : Value} {a b c : Int} (h : (Fq.st [.n a, .n b, .n c]).P v w) (ha : ab a < pw 15) (hb : ab b < pw 15) (hc : ab c < pw 15) (hq : sqB (b * b - 4 * (a * c)) = false) (hd : (b * b - 4 * (a * c)) < 0) (hz : a < 0) :
  Calls Tryz.prog 15 #[v] w fun e w' => ∃ v', e = .returned v' ∧ Below w.heap.size w w' ∧ v' = .int .i64 1 := by
 replace ha := hidd ha
 replace hb := hidd hb
 replace hc := hidd hc
 have HQ := hidd hq
 clear hq
 have HDB := hidd (zCf ha.out hb.out hc.out)
 have T1 : Hid (cmpI (b * b - 4 * (a * c)) 0 < 0) := cmpIqlt.2 hd
 clear hd
 have T2 : Hid (cmpI a 0 < 0) := cmpIqlt.2 hz
 clear hz
 obtain ⟨_, rfl, hf0⟩ := h
 have hF0 := hf0
 obtain ⟨y0_p0, y0_q0, _, rfl, _y0_n0, y0_p1, y0_q1, _, rfl, _y0_n1, y0_p2, y0_q2, _, rfl, _y0_n2, rfl⟩ := hf0
 obtain ⟨w1, b1, hw1, hb1, hs1, E⟩ := gS w 33 hF0
 go_enter Tryz.func15, Tryz.ntmps15
 go_upto_region 1 with (fail)
 rw [← hw1]
 rw [← hb1]
 clear hw1 hb1 hs1
 refine rg [ip b1 0, Fq.num a, yT, yF, yF, ip b1 2, Fq.num b, yT, yF, yF, yF, ip b1 4, Fq.num c, yT, yF, yF] [none] [] E (fun hp => ⟨?_, ?_, ?_, ?_, ?_, ?_, ?_, ?_, ?_, ?_, ?_, ?_, ?_, ?_, ?_, ?_, tv⟩) ?_
 ·exact qa b1 0 0 hp (sqo 1)
 ·exact lN 0 2 hp (mq 0 rfl) zAc (sqi 0)
 ·exact wXa (Fq.num a) hp zC2 (sqi 1) fun v w h => zC5 h
 ·exact zAf (F := fun v _ => v = .bool true) hp fo tv (sqi 2) (fun ρ w _ h => ⟨.bool false, by simp [execOp, go_sem, h], rfl⟩)
 ·exact zAa hp fo tv (sqi 3)
 ·exact zAl (b := b1) (off := 0) (off' := 2) hp fo gqi (sqo 1) (fun ρ w h => by simp [execOp, go_sem, h]) (fun _ => rfl)
 ·exact lG 2 2 hp gqi (mq 0 rfl) zAc (sqi 5) fun v w h => zAk h
 ·exact zAn (F := (Fq.num b).P) hp fo gqi (zC2) (sqi 6) (fun v w h => zC5 h)
 ·exact zAf (F := fun v _ => v = .bool true) hp fo gqi (sqi 7) (fun ρ w _ h => ⟨.bool false, by simp [execOp, go_sem, h], rfl⟩)
 ·exact zAg (F := fun v _ => v = .bool false) (G := fun v _ => v = .bool false) hp fo tv (sqi 4) (sqi 8) (fun ρ w hc h h' => ⟨_, by simp [execOp, go_sem, h, h'], rfl⟩)
 ·exact zAa hp fo tv (sqi 9)
 ·exact zAl (b := b1) (off := 0) (off' := 4) hp fo gqi (sqo 1) (fun ρ w h => by simp [execOp, go_sem, h]) (fun _ => rfl)
 ·exact lG 4 2 hp gqi (mq 0 rfl) zAc (sqi 11) fun v w h => zAk h
 ·exact zAn (F := (Fq.num c).P) hp fo gqi (zC2) (sqi 12) (fun v w h => zC5 h)
 ·exact zAf (F := fun v _ => v = .bool true) hp fo gqi (sqi 13) (fun ρ w _ h => ⟨.bool false, by simp [execOp, go_sem, h], rfl⟩)
 ·exact zAg (F := fun v _ => v = .bool false) (G := fun v _ => v = .bool false) hp fo tv (sqi 10) (sqi 14) (fun ρ w hc h h' => ⟨_, by simp [execOp, go_sem, h, h'], rfl⟩)
 intro L vs w2 nb hL hC hn E2
 have e0 := wXi hC 0
 have e2 := wXi hC 2
 have e3 := wXi hC 3
 have e4 := wXi hC 4
 have e5 := wXi hC 5
 have e7 := wXi hC 7
 have e8 := wXi hC 8
 have e9 := wXi hC 9
 have e10 := wXi hC 10
 have e11 := wXi hC 11
 have e13 := wXi hC 13
 have e14 := wXi hC 14
 have e15 := wXi hC 15
 have E := E2; try simp only [LM, zAd] at E
 rw [zAe hL]
 simp only [SP, Nat.zero_add, Nat.reduceAdd]
 rw [e0, e2, e3, e4, e5, e7, e8, e9, e10, e11, e13, e14, e15]
 generalize vs 1 = u2_1
 generalize vs 6 = u2_6
 generalize vs 12 = u2_12
 clear e0 e2 e3 e4 e5 e7 e8 e9 e10 e11 e13 e14 e15 hC hn E2 hL vs L nb
 go_upto_region 3 with (fail)
 refine rg [Fq.st [.n a, .n b, .n c], Fq.num (b * b - 4 * (a * c)), Fq.any, Fq.any] [none] [⟨2, 3, 2, Fq.num 0, Fq.num (b * b - 4 * (a * c)), none⟩] E (fun hp => ⟨?_, ?_, ?_, ?_, tv⟩) ?_
 ·exact lS 0 6 hp (mq 0 rfl) zAm (sqo 1)
 ·exact wXa (Fq.st [.n a, .n b, .n c]) hp zE0 (sqi 0) fun v w h => zE9 h (Int.lt_of_lt_of_le ha.out (zAb (by omega))) (Int.lt_of_lt_of_le hb.out (zAb (by omega))) (Int.lt_of_lt_of_le hc.out (zAb (by omega)))
 ·exact aN hp (mq 0 rfl)
 ·exact sN 1 hp (mq 0 rfl)
 intro L vs w3 nb hL hC hn E3
 have e2 : vs 2 = .pointer (some ⟨nb 2, 0, none⟩) := hn _ (mq 0 rfl)
 have E := E3; try simp only [LM, zAd] at E
 rw [zAe hL]
 simp only [SP, Nat.zero_add, Nat.reduceAdd]
 rw [e2]
 generalize nb 2 = b3_2 at E ⊢
 generalize vs 0 = u3_0
 generalize vs 1 = u3_1
 clear e2 hC hn E3 hL vs L nb
 go_upto_region 4 with (fail)
 refine rg [Fq.num (b * b - 4 * (a * c)), yF] N2 [] E (fun hp => ⟨?_, ?_, tv⟩) ?_
 ·exact lI 0 hp (mq 0 rfl) (sqo 3) fun us w hl h => zAp hl h
 ·exact wXa (Fq.num (b * b - 4 * (a * c))) hp zGr (sqi 0) fun v w h => zGy h HDB.out HQ.out
 intro L vs w4 nb hL hC hn E4
 have e1 := wXi hC 1
 have E := E4; try simp only [LM, zAd] at E
 rw [zAe hL]
 simp only [SP, Nat.zero_add, Nat.reduceAdd]
 rw [e1]
 generalize vs 0 = u4_0
 clear e1 hC hn E4 hL vs L nb
 go_upto_region 6 with (fail)
 refine rg [Fq.num (b * b - 4 * (a * c)), Fq.is (.int .i64 (cmpI (b * b - 4 * (a * c)) 0)), yT, yT, ip b1 0, Fq.num a, Fq.is (.int .i64 (cmpI a 0)), yT, yT] N2 [] E (fun hp => ⟨?_, ?_, ?_, ?_, ?_, ?_, ?_, ?_, ?_, tv⟩) ?_
 ·exact lI 0 hp (mq 0 rfl) (sqo 3) fun us w hl h => zAp hl h
 ·exact wXa (Fq.num (b * b - 4 * (a * c))) hp zB3 (sqi 0) fun v w h => zB4 h
 ·exact zAf (F := fun v _ => v = .int .i64 (cmpI (b * b - 4 * (a * c)) 0)) hp fo tv (sqi 1) (fun ρ w hc h => ⟨.bool true, by simp [execOp, go_sem, h, hc, T1.out], rfl⟩)
 ·exact zAa hp fo tv (sqi 2)
 ·exact zAl (b := b1) (off := 0) (off' := 0) hp fo gqi (sqo 1) (fun ρ w h => by simp [execOp, go_sem, h]) (fun _ => rfl)
 ·exact lG 0 2 hp gqi (mq 1 rfl) zAc (sqi 4) fun v w h => zAk h
 ·exact zAn (F := (Fq.num a).P) hp fo gqi (zB3) (sqi 5) (fun v w h => zB4 h)
 ·exact zAf (F := fun v _ => v = .int .i64 (cmpI a 0)) hp fo gqi (sqi 6) (fun ρ w hc h => ⟨.bool true, by simp [execOp, go_sem, h, hc, T2.out], rfl⟩)
 ·exact zAg (F := fun v _ => v = .bool true) (G := fun v _ => v = .bool true) hp fo tv (sqi 3) (sqi 7) (fun ρ w hc h h' => ⟨_, by simp [execOp, go_sem, h, h'], rfl⟩)
 intro L vs w5 nb hL hC hn E5
 have e1 := wXi hC 1
 have e2 := wXi hC 2
 have e3 := wXi hC 3
 have e4 := wXi hC 4
 have e6 := wXi hC 6
 have e7 := wXi hC 7
 have e8 := wXi hC 8
 have E := E5; try simp only [LM, zAd] at E
 rw [zAe hL]
 simp only [SP, Nat.zero_add, Nat.reduceAdd]
 rw [e1, e2, e3, e4, e6, e7, e8]
 generalize vs 0 = u5_0
 generalize vs 5 = u5_5
 clear e1 e2 e3 e4 e6 e7 e8 hC hn E5 hL vs L nb
 go_upto_region 7 with (fail)
 refine rg [Fq.is (.int .i64 1)] N2 [] E (fun hp => ⟨?_, tv⟩) ?_
 ·exact zAh hp fo tv (zAj (fun _ => rfl))
 intro L vs w6 nb hL hC hn E6
 have e0 := wXi hC 0
 have E := E6; try simp only [LM, zAd] at E
 rw [zAe hL]
 simp only [SP, Nat.zero_add, Nat.reduceAdd]
 rw [e0]
 clear e0 hC hn E6 hL vs L nb
 clear HQ T1 T2
 clear ha hb hc HDB
 go_wp2
 refine bodyPost_ret (v := .int .i64 1) ?_ rfl ⟨_, rfl, E.below, rfl⟩
 simp [results, Tryz.results15, go_sem]

set_option maxRecDepth 100000 in
set_option maxHeartbeats 4000000 in
theorem zNt {w : World} {v : Value} {a b c : Int} (h : (Fq.st [.n a, .n b, .n c]).P v w) (ha : ab a < pw 15) (hb : ab b < pw 15) (hc : ab c < pw 15) (hq : sqB (b * b - 4 * (a * c)) = false) (hd : (b * b - 4 * (a * c)) < 0) (hz : ¬ a < 0) :
  Calls Tryz.prog 15 #[v] w fun e w' => ∃ v', e = .returned v' ∧ Below w.heap.size w w' ∧ v' = .int .i64 0 := by
 replace ha := hidd ha
 replace hb := hidd hb
 replace hc := hidd hc
 have HQ := hidd hq
 clear hq
 have HDB := hidd (zCf ha.out hb.out hc.out)
 have T1 : Hid (cmpI (b * b - 4 * (a * c)) 0 < 0) := cmpIqlt.2 hd
 clear hd
 have T2 : Hid (¬ cmpI a 0 < 0) := fun e => hz (cmpIqlt.1 e)
 clear hz
 obtain ⟨_, rfl, hf0⟩ := h
 have hF0 := hf0
 obtain ⟨y0_p0, y0_q0, _, rfl, _y0_n0, y0_p1, y0_q1, _, rfl, _y0_n1, y0_p2, y0_q2, _, rfl, _y0_n2, rfl⟩ := hf0
 obtain ⟨w1, b1, hw1, hb1, hs1, E⟩ := gS w 33 hF0
 go_enter Tryz.func15, Tryz.ntmps15
 go_upto_region 1 with (fail)
 rw [← hw1]
 rw [← hb1]
 clear hw1 hb1 hs1
 refine rg [ip b1 0, Fq.num a, yT, yF, yF, ip b1 2, Fq.num b, yT, yF, yF, yF, ip b1 4, Fq.num c, yT, yF, yF] [none] [] E (fun hp => ⟨?_, ?_, ?_, ?_, ?_, ?_, ?_, ?_, ?_, ?_, ?_, ?_, ?_, ?_, ?_, ?_, tv⟩) ?_
 ·exact qa b1 0 0 hp (sqo 1)
 ·exact lN 0 2 hp (mq 0 rfl) zAc (sqi 0)
 ·exact wXa (Fq.num a) hp zC2 (sqi 1) fun v w h => zC5 h
 ·exact zAf (F := fun v _ => v = .bool true) hp fo tv (sqi 2) (fun ρ w _ h => ⟨.bool false, by simp [execOp, go_sem, h], rfl⟩)
 ·exact zAa hp fo tv (sqi 3)
 ·exact zAl (b := b1) (off := 0) (off' := 2) hp fo gqi (sqo 1) (fun ρ w h => by simp [execOp, go_sem, h]) (fun _ => rfl)
 ·exact lG 2 2 hp gqi (mq 0 rfl) zAc (sqi 5) fun v w h => zAk h
 ·exact zAn (F := (Fq.num b).P) hp fo gqi (zC2) (sqi 6) (fun v w h => zC5 h)
 ·exact zAf (F := fun v _ => v = .bool true) hp fo gqi (sqi 7) (fun ρ w _ h => ⟨.bool false, by simp [execOp, go_sem, h], rfl⟩)
 ·exact zAg (F := fun v _ => v = .bool false) (G := fun v _ => v = .bool false) hp fo tv (sqi 4) (sqi 8) (fun ρ w hc h h' => ⟨_, by simp [execOp, go_sem, h, h'], rfl⟩)
 ·exact zAa hp fo tv (sqi 9)
 ·exact zAl (b := b1) (off := 0) (off' := 4) hp fo gqi (sqo 1) (fun ρ w h => by simp [execOp, go_sem, h]) (fun _ => rfl)
 ·exact lG 4 2 hp gqi (mq 0 rfl) zAc (sqi 11) fun v w h => zAk h
 ·exact zAn (F := (Fq.num c).P) hp fo gqi (zC2) (sqi 12) (fun v w h => zC5 h)
 ·exact zAf (F := fun v _ => v = .bool true) hp fo gqi (sqi 13) (fun ρ w _ h => ⟨.bool false, by simp [execOp, go_sem, h], rfl⟩)
 ·exact zAg (F := fun v _ => v = .bool false) (G := fun v _ => v = .bool false) hp fo tv (sqi 10) (sqi 14) (fun ρ w hc h h' => ⟨_, by simp [execOp, go_sem, h, h'], rfl⟩)
 intro L vs w2 nb hL hC hn E2
 have e0 := wXi hC 0
 have e2 := wXi hC 2
 have e3 := wXi hC 3
 have e4 := wXi hC 4
 have e5 := wXi hC 5
 have e7 := wXi hC 7
 have e8 := wXi hC 8
 have e9 := wXi hC 9
 have e10 := wXi hC 10
 have e11 := wXi hC 11
 have e13 := wXi hC 13
 have e14 := wXi hC 14
 have e15 := wXi hC 15
 have E := E2; try simp only [LM, zAd] at E
 rw [zAe hL]
 simp only [SP, Nat.zero_add, Nat.reduceAdd]
 rw [e0, e2, e3, e4, e5, e7, e8, e9, e10, e11, e13, e14, e15]
 generalize vs 1 = u2_1
 generalize vs 6 = u2_6
 generalize vs 12 = u2_12
 clear e0 e2 e3 e4 e5 e7 e8 e9 e10 e11 e13 e14 e15 hC hn E2 hL vs L nb
 go_upto_region 3 with (fail)
 refine rg [Fq.st [.n a, .n b, .n c], Fq.num (b * b - 4 * (a * c)), Fq.any, Fq.any] [none] [⟨2, 3, 2, Fq.num 0, Fq.num (b * b - 4 * (a * c)), none⟩] E (fun hp => ⟨?_, ?_, ?_, ?_, tv⟩) ?_
 ·exact lS 0 6 hp (mq 0 rfl) zAm (sqo 1)
 ·exact wXa (Fq.st [.n a, .n b, .n c]) hp zE0 (sqi 0) fun v w h => zE9 h (Int.lt_of_lt_of_le ha.out (zAb (by omega))) (Int.lt_of_lt_of_le hb.out (zAb (by omega))) (Int.lt_of_lt_of_le hc.out (zAb (by omega)))
 ·exact aN hp (mq 0 rfl)
 ·exact sN 1 hp (mq 0 rfl)
 intro L vs w3 nb hL hC hn E3
 have e2 : vs 2 = .pointer (some ⟨nb 2, 0, none⟩) := hn _ (mq 0 rfl)
 have E := E3; try simp only [LM, zAd] at E
 rw [zAe hL]
 simp only [SP, Nat.zero_add, Nat.reduceAdd]
 rw [e2]
 generalize nb 2 = b3_2 at E ⊢
 generalize vs 0 = u3_0
 generalize vs 1 = u3_1
 clear e2 hC hn E3 hL vs L nb
 go_upto_region 4 with (fail)
 refine rg [Fq.num (b * b - 4 * (a * c)), yF] N2 [] E (fun hp => ⟨?_, ?_, tv⟩) ?_
 ·exact lI 0 hp (mq 0 rfl) (sqo 3) fun us w hl h => zAp hl h
 ·exact wXa (Fq.num (b * b - 4 * (a * c))) hp zGr (sqi 0) fun v w h => zGy h HDB.out HQ.out
 intro L vs w4 nb hL hC hn E4
 have e1 := wXi hC 1
 have E := E4; try simp only [LM, zAd] at E
 rw [zAe hL]
 simp only [SP, Nat.zero_add, Nat.reduceAdd]
 rw [e1]
 generalize vs 0 = u4_0
 clear e1 hC hn E4 hL vs L nb
 go_upto_region 6 with (fail)
 refine rg [Fq.num (b * b - 4 * (a * c)), Fq.is (.int .i64 (cmpI (b * b - 4 * (a * c)) 0)), yT, yT, ip b1 0, Fq.num a, Fq.is (.int .i64 (cmpI a 0)), yF, yF] N2 [] E (fun hp => ⟨?_, ?_, ?_, ?_, ?_, ?_, ?_, ?_, ?_, tv⟩) ?_
 ·exact lI 0 hp (mq 0 rfl) (sqo 3) fun us w hl h => zAp hl h
 ·exact wXa (Fq.num (b * b - 4 * (a * c))) hp zB3 (sqi 0) fun v w h => zB4 h
 ·exact zAf (F := fun v _ => v = .int .i64 (cmpI (b * b - 4 * (a * c)) 0)) hp fo tv (sqi 1) (fun ρ w hc h => ⟨.bool true, by simp [execOp, go_sem, h, hc, T1.out], rfl⟩)
 ·exact zAa hp fo tv (sqi 2)
 ·exact zAl (b := b1) (off := 0) (off' := 0) hp fo gqi (sqo 1) (fun ρ w h => by simp [execOp, go_sem, h]) (fun _ => rfl)
 ·exact lG 0 2 hp gqi (mq 1 rfl) zAc (sqi 4) fun v w h => zAk h
 ·exact zAn (F := (Fq.num a).P) hp fo gqi (zB3) (sqi 5) (fun v w h => zB4 h)
 ·exact zAf (F := fun v _ => v = .int .i64 (cmpI a 0)) hp fo gqi (sqi 6) (fun ρ w hc h => ⟨.bool false, by simp [execOp, go_sem, h, hc, T2.out], rfl⟩)
 ·exact zAg (F := fun v _ => v = .bool true) (G := fun v _ => v = .bool false) hp fo tv (sqi 3) (sqi 7) (fun ρ w hc h h' => ⟨_, by simp [execOp, go_sem, h, h'], rfl⟩)
 intro L vs w5 nb hL hC hn E5
 have e1 := wXi hC 1
 have e2 := wXi hC 2
 have e3 := wXi hC 3
 have e4 := wXi hC 4
 have e6 := wXi hC 6
 have e7 := wXi hC 7
 have e8 := wXi hC 8
 have E := E5; try simp only [LM, zAd] at E
 rw [zAe hL]
 simp only [SP, Nat.zero_add, Nat.reduceAdd]
 rw [e1, e2, e3, e4, e6, e7, e8]
 generalize vs 0 = u5_0
 generalize vs 5 = u5_5
 clear e1 e2 e3 e4 e6 e7 e8 hC hn E5 hL vs L nb
 go_upto_region 8 with (fail)
 refine rg [Fq.is (.int .i64 0)] N2 [] E (fun hp => ⟨?_, tv⟩) ?_
 ·exact zAh hp fo tv (zAj (fun _ => rfl))
 intro L vs w6 nb hL hC hn E6
 have e0 := wXi hC 0
 have E := E6; try simp only [LM, zAd] at E
 rw [zAe hL]
 simp only [SP, Nat.zero_add, Nat.reduceAdd]
 rw [e0]
 clear e0 hC hn E6 hL vs L nb
 clear HQ T1 T2
 clear ha hb hc HDB
 go_wp2
 refine bodyPost_ret (v := .int .i64 0) ?_ rfl ⟨_, rfl, E.below, rfl⟩
 simp [results, Tryz.results15, go_sem]

set_option maxRecDepth 100000 in
set_option maxHeartbeats 4000000 in
theorem zNu {w : World} {v : Value} {a b c : Int} (h : (Fq.st [.n a, .n b, .n c]).P v w) (ha : ab a < pw 15) (hb : ab b < pw 15) (hc : ab c < pw 15) (hq : sqB (b * b - 4 * (a * c)) = false) (hd : ¬ (b * b - 4 * (a * c)) < 0) :
  Calls Tryz.prog 15 #[v] w fun e w' => ∃ v', e = .returned v' ∧ Below w.heap.size w w' ∧ v' = .int .i64 0 := by
 replace ha := hidd ha
 replace hb := hidd hb
 replace hc := hidd hc
 have HQ := hidd hq
 clear hq
 have HDB := hidd (zCf ha.out hb.out hc.out)
 have T1 : Hid (¬ cmpI (b * b - 4 * (a * c)) 0 < 0) := fun e => hd (cmpIqlt.1 e)
 clear hd
 obtain ⟨_, rfl, hf0⟩ := h
 have hF0 := hf0
 obtain ⟨y0_p0, y0_q0, _, rfl, _y0_n0, y0_p1, y0_q1, _, rfl, _y0_n1, y0_p2, y0_q2, _, rfl, _y0_n2, rfl⟩ := hf0
 obtain ⟨w1, b1, hw1, hb1, hs1, E⟩ := gS w 33 hF0
 go_enter Tryz.func15, Tryz.ntmps15
 go_upto_region 1 with (fail)
 rw [← hw1]
 rw [← hb1]
 clear hw1 hb1 hs1
 refine rg [ip b1 0, Fq.num a, yT, yF, yF, ip b1 2, Fq.num b, yT, yF, yF, yF, ip b1 4, Fq.num c, yT, yF, yF] [none] [] E (fun hp => ⟨?_, ?_, ?_, ?_, ?_, ?_, ?_, ?_, ?_, ?_, ?_, ?_, ?_, ?_, ?_, ?_, tv⟩) ?_
 ·exact qa b1 0 0 hp (sqo 1)
 ·exact lN 0 2 hp (mq 0 rfl) zAc (sqi 0)
 ·exact wXa (Fq.num a) hp zC2 (sqi 1) fun v w h => zC5 h
 ·exact zAf (F := fun v _ => v = .bool true) hp fo tv (sqi 2) (fun ρ w _ h => ⟨.bool false, by simp [execOp, go_sem, h], rfl⟩)
 ·exact zAa hp fo tv (sqi 3)
 ·exact zAl (b := b1) (off := 0) (off' := 2) hp fo gqi (sqo 1) (fun ρ w h => by simp [execOp, go_sem, h]) (fun _ => rfl)
 ·exact lG 2 2 hp gqi (mq 0 rfl) zAc (sqi 5) fun v w h => zAk h
 ·exact zAn (F := (Fq.num b).P) hp fo gqi (zC2) (sqi 6) (fun v w h => zC5 h)
 ·exact zAf (F := fun v _ => v = .bool true) hp fo gqi (sqi 7) (fun ρ w _ h => ⟨.bool false, by simp [execOp, go_sem, h], rfl⟩)
 ·exact zAg (F := fun v _ => v = .bool false) (G := fun v _ => v = .bool false) hp fo tv (sqi 4) (sqi 8) (fun ρ w hc h h' => ⟨_, by simp [execOp, go_sem, h, h'], rfl⟩)
 ·exact zAa hp fo tv (sqi 9)
 ·exact zAl (b := b1) (off := 0) (off' := 4) hp fo gqi (sqo 1) (fun ρ w h => by simp [execOp, go_sem, h]) (fun _ => rfl)
 ·exact lG 4 2 hp gqi (mq 0 rfl) zAc (sqi 11) fun v w h => zAk h
 ·exact zAn (F := (Fq.num c).P) hp fo gqi (zC2) (sqi 12) (fun v w h => zC5 h)
 ·exact zAf (F := fun v _ => v = .bool true) hp fo gqi (sqi 13) (fun ρ w _ h => ⟨.bool false, by simp [execOp, go_sem, h], rfl⟩)
 ·exact zAg (F := fun v _ => v = .bool false) (G := fun v _ => v = .bool false) hp fo tv (sqi 10) (sqi 14) (fun ρ w hc h h' => ⟨_, by simp [execOp, go_sem, h, h'], rfl⟩)
 intro L vs w2 nb hL hC hn E2
 have e0 := wXi hC 0
 have e2 := wXi hC 2
 have e3 := wXi hC 3
 have e4 := wXi hC 4
 have e5 := wXi hC 5
 have e7 := wXi hC 7
 have e8 := wXi hC 8
 have e9 := wXi hC 9
 have e10 := wXi hC 10
 have e11 := wXi hC 11
 have e13 := wXi hC 13
 have e14 := wXi hC 14
 have e15 := wXi hC 15
 have E := E2; try simp only [LM, zAd] at E
 rw [zAe hL]
 simp only [SP, Nat.zero_add, Nat.reduceAdd]
 rw [e0, e2, e3, e4, e5, e7, e8, e9, e10, e11, e13, e14, e15]
 generalize vs 1 = u2_1
 generalize vs 6 = u2_6
 generalize vs 12 = u2_12
 clear e0 e2 e3 e4 e5 e7 e8 e9 e10 e11 e13 e14 e15 hC hn E2 hL vs L nb
 go_upto_region 3 with (fail)
 refine rg [Fq.st [.n a, .n b, .n c], Fq.num (b * b - 4 * (a * c)), Fq.any, Fq.any] [none] [⟨2, 3, 2, Fq.num 0, Fq.num (b * b - 4 * (a * c)), none⟩] E (fun hp => ⟨?_, ?_, ?_, ?_, tv⟩) ?_
 ·exact lS 0 6 hp (mq 0 rfl) zAm (sqo 1)
 ·exact wXa (Fq.st [.n a, .n b, .n c]) hp zE0 (sqi 0) fun v w h => zE9 h (Int.lt_of_lt_of_le ha.out (zAb (by omega))) (Int.lt_of_lt_of_le hb.out (zAb (by omega))) (Int.lt_of_lt_of_le hc.out (zAb (by omega)))
 ·exact aN hp (mq 0 rfl)
 ·exact sN 1 hp (mq 0 rfl)
 intro L vs w3 nb hL hC hn E3
 have e2 : vs 2 = .pointer (some ⟨nb 2, 0, none⟩) := hn _ (mq 0 rfl)
 have E := E3; try simp only [LM, zAd] at E
 rw [zAe hL]
 simp only [SP, Nat.zero_add, Nat.reduceAdd]
 rw [e2]
 generalize nb 2 = b3_2 at E ⊢
 generalize vs 0 = u3_0
 generalize vs 1 = u3_1
 clear e2 hC hn E3 hL vs L nb
 go_upto_region 4 with (fail)
 refine rg [Fq.num (b * b - 4 * (a * c)), yF] N2 [] E (fun hp => ⟨?_, ?_, tv⟩) ?_
 ·exact lI 0 hp (mq 0 rfl) (sqo 3) fun us w hl h => zAp hl h
 ·exact wXa (Fq.num (b * b - 4 * (a * c))) hp zGr (sqi 0) fun v w h => zGy h HDB.out HQ.out
 intro L vs w4 nb hL hC hn E4
 have e1 := wXi hC 1
 have E := E4; try simp only [LM, zAd] at E
 rw [zAe hL]
 simp only [SP, Nat.zero_add, Nat.reduceAdd]
 rw [e1]
 generalize vs 0 = u4_0
 clear e1 hC hn E4 hL vs L nb
 go_upto_region 6 with (fail)
 refine rg [Fq.num (b * b - 4 * (a * c)), Fq.is (.int .i64 (cmpI (b * b - 4 * (a * c)) 0)), yF, yF, Fq.is (undef), Fq.is (undef), Fq.is (undef), Fq.is (undef), yF] N2 [] E (fun hp => ⟨?_, ?_, ?_, ?_, ?_, ?_, ?_, ?_, ?_, tv⟩) ?_
 ·exact lI 0 hp (mq 0 rfl) (sqo 3) fun us w hl h => zAp hl h
 ·exact wXa (Fq.num (b * b - 4 * (a * c))) hp zB3 (sqi 0) fun v w h => zB4 h
 ·exact zAf (F := fun v _ => v = .int .i64 (cmpI (b * b - 4 * (a * c)) 0)) hp fo tv (sqi 1) (fun ρ w hc h => ⟨.bool false, by simp [execOp, go_sem, h, hc, T1.out], rfl⟩)
 ·exact zAa hp fo tv (sqi 2)
 ·exact zAi hp fo rfl gqi (fun _ => rfl)
 ·exact zAi hp fo rfl gqi (fun _ => rfl)
 ·exact zAi hp fo rfl gqi (fun _ => rfl)
 ·exact zAi hp fo rfl gqi (fun _ => rfl)
 ·exact zAg (F := fun v _ => v = .bool false) (G := fun v _ => v = .bool false) hp fo tv (sqi 3) (zAj (fun _ => rfl)) (fun ρ w hc h h' => ⟨_, by simp [execOp, go_sem, h, h'], rfl⟩)
 intro L vs w5 nb hL hC hn E5
 have e1 := wXi hC 1
 have e2 := wXi hC 2
 have e3 := wXi hC 3
 have e4 := wXi hC 4
 have e5 := wXi hC 5
 have e6 := wXi hC 6
 have e7 := wXi hC 7
 have e8 := wXi hC 8
 have E := E5; try simp only [LM, zAd] at E
 rw [zAe hL]
 simp only [SP, Nat.zero_add, Nat.reduceAdd]
 rw [e1, e2, e3, e4, e5, e6, e7, e8]
 generalize vs 0 = u5_0
 clear e1 e2 e3 e4 e5 e6 e7 e8 hC hn E5 hL vs L nb
 go_upto_region 8 with (fail)
 refine rg [Fq.is (.int .i64 0)] N2 [] E (fun hp => ⟨?_, tv⟩) ?_
 ·exact zAh hp fo tv (zAj (fun _ => rfl))
 intro L vs w6 nb hL hC hn E6
 have e0 := wXi hC 0
 have E := E6; try simp only [LM, zAd] at E
 rw [zAe hL]
 simp only [SP, Nat.zero_add, Nat.reduceAdd]
 rw [e0]
 clear e0 hC hn E6 hL vs L nb
 clear HQ T1
 clear ha hb hc HDB
 go_wp2
 refine bodyPost_ret (v := .int .i64 0) ?_ rfl ⟨_, rfl, E.below, rfl⟩
 simp [results, Tryz.results15, go_sem]

theorem zGx {w : World} {v : Value} {a b c : Int} (h : (Fq.st [.n a, .n b, .n c]).P v w) (ha : ab a < pw 15) (hb : ab b < pw 15) (hc : ab c < pw 15) {e0 : Int} (he : chkF a b c = e0) :
  Calls Tryz.prog 15 #[v] w fun e w' => ∃ v', e = .returned v' ∧ Below w.heap.size w w' ∧ v' = .int .i64 e0 := by
 subst he
 unfold chkF
 cases hq : sqB (b * b - 4 * (a * c)) with
 | true => rw [if_pos rfl]; exact zNw h ha hb hc hq
 | false =>
  rw [if_neg (by decide)]
  by_cases hd : (b * b - 4 * (a * c)) < 0
  ·by_cases hz : a < 0
   ·rw [if_pos ⟨hd, hz⟩]; exact zNv h ha hb hc hq hd hz
   ·rw [if_neg fun x => hz x.2]; exact zNt h ha hb hc hq hd hz
  ·rw [if_neg fun x => hd x.1]; exact zNu h ha hb hc hq hd

set_option maxRecDepth 100000 in
set_option maxHeartbeats 4000000 in
theorem zN1 {w : World} {v : Value} {a b c : Int} (h : (Fq.st [.n a, .n b, .n c]).P v w) (ha : ab a < pw 15) (hb : ab b < pw 15) (hc : ab c < pw 15) (hd : (b * b - 4 * (a * c)) < 0) (hz : ¬ a < 0) {t : Bool} (ht : dfB a b c = t) :
  Calls Tryz.prog 67 #[v] w fun e w' => ∃ v', e = .returned v' ∧ Below w.heap.size w w' ∧ v' = .bool t := by
 replace ha := hidd ha
 replace hb := hidd hb
 replace hc := hidd hc
 have HC := hidd (zHt hd hz)
 have HDB := hidd (zCf ha.out hb.out hc.out)
 have ht2 : t = true := ht.symm.trans (by unfold dfB; exact decide_eq_true (by omega))
 subst ht2
 clear ht
 have T1 : Hid (cmpI (b * b - 4 * (a * c)) 0 < 0) := cmpIqlt.2 hd
 clear hd hz
 obtain ⟨_, rfl, hf0⟩ := h
 have hF0 := hf0
 obtain ⟨y0_p0, y0_q0, _, rfl, _y0_n0, y0_p1, y0_q1, _, rfl, _y0_n1, y0_p2, y0_q2, _, rfl, _y0_n2, rfl⟩ := hf0
 obtain ⟨w1, b1, hw1, hb1, hs1, E⟩ := gS w 33 hF0
 go_enter Tryz.func67, Tryz.ntmps67
 go_upto_region 1 with (fail)
 rw [← hw1]
 rw [← hb1]
 clear hw1 hb1 hs1
 refine rg [Fq.st [.n a, .n b, .n c], Fq.is (.int .i64 0), yT, yT, Fq.st [.n a, .n b, .n c], Fq.num (b * b - 4 * (a * c)), Fq.is (.int .i64 (cmpI (b * b - 4 * (a * c)) 0)), yT, yT, yT] [none] [] E (fun hp => ⟨?_, ?_, ?_, ?_, ?_, ?_, ?_, ?_, ?_, ?_, tv⟩) ?_
 ·exact lS 0 6 hp (mq 0 rfl) zAm (sqo 1)
 ·exact wXa (Fq.st [.n a, .n b, .n c]) hp zGq (sqi 0) fun v w h => zGx h ha.out hb.out hc.out HC.out
 ·exact zAf (F := fun v _ => v = .int .i64 0) hp fo tv (sqi 1) (fun ρ w hc h => ⟨.bool true, by simp [execOp, go_sem, h, hc], rfl⟩)
 ·exact zAa hp fo tv (sqi 2)
 ·exact lG 0 6 hp gqi (mq 0 rfl) zAm (sqo 1) fun v w h => h
 ·exact zAn (F := (Fq.st [.n a, .n b, .n c]).P) hp fo gqi (zE0) (sqi 4) (fun v w h => zE9 h (Int.lt_of_lt_of_le ha.out (zAb (by omega))) (Int.lt_of_lt_of_le hb.out (zAb (by omega))) (Int.lt_of_lt_of_le hc.out (zAb (by omega))))
 ·exact zAn (F := (Fq.num (b * b - 4 * (a * c))).P) hp fo gqi (zB3) (sqi 5) (fun v w h => zB4 h)
 ·exact zAf (F := fun v _ => v = .int .i64 (cmpI (b * b - 4 * (a * c)) 0)) hp fo gqi (sqi 6) (fun ρ w hc h => ⟨.bool true, by simp [execOp, go_sem, h, hc, T1.out], rfl⟩)
 ·exact zAg (F := fun v _ => v = .bool true) (G := fun v _ => v = .bool true) hp fo tv (sqi 3) (sqi 7) (fun ρ w hc h h' => ⟨_, by simp [execOp, go_sem, h, h'], rfl⟩)
 ·exact zAh hp fo tv (sqi 8)
 intro L vs w2 nb hL hC hn E2
 have e1 := wXi hC 1
 have e2 := wXi hC 2
 have e3 := wXi hC 3
 have e6 := wXi hC 6
 have e7 := wXi hC 7
 have e8 := wXi hC 8
 have e9 := wXi hC 9
 have E := E2; try simp only [LM, zAd] at E
 rw [zAe hL]
 simp only [SP, Nat.zero_add, Nat.reduceAdd]
 rw [e1, e2, e3, e6, e7, e8, e9]
 generalize vs 0 = u2_0
 generalize vs 4 = u2_4
 generalize vs 5 = u2_5
 clear e1 e2 e3 e6 e7 e8 e9 hC hn E2 hL vs L nb
 clear HC T1
 clear ha hb hc HDB
 go_wp2
 refine bodyPost_ret (v := .bool true) ?_ rfl ⟨_, rfl, E.below, rfl⟩
 simp [results, Tryz.results67, go_sem]

set_option maxRecDepth 100000 in
set_option maxHeartbeats 4000000 in
theorem zNz {w : World} {v : Value} {a b c : Int} (h : (Fq.st [.n a, .n b, .n c]).P v w) (ha : ab a < pw 15) (hb : ab b < pw 15) (hc : ab c < pw 15) (hd : (b * b - 4 * (a * c)) < 0) (hz : a < 0) {t : Bool} (ht : dfB a b c = t) :
  Calls Tryz.prog 67 #[v] w fun e w' => ∃ v', e = .returned v' ∧ Below w.heap.size w w' ∧ v' = .bool t := by
 replace ha := hidd ha
 replace hb := hidd hb
 replace hc := hidd hc
 have HC := hidd (zJu hd hz)
 have HDB := hidd (zCf ha.out hb.out hc.out)
 have ht2 : t = false := ht.symm.trans (by unfold dfB; exact decide_eq_false (by omega))
 subst ht2
 clear ht
 clear hd hz
 obtain ⟨_, rfl, hf0⟩ := h
 have hF0 := hf0
 obtain ⟨y0_p0, y0_q0, _, rfl, _y0_n0, y0_p1, y0_q1, _, rfl, _y0_n1, y0_p2, y0_q2, _, rfl, _y0_n2, rfl⟩ := hf0
 obtain ⟨w1, b1, hw1, hb1, hs1, E⟩ := gS w 33 hF0
 go_enter Tryz.func67, Tryz.ntmps67
 go_upto_region 1 with (fail)
 rw [← hw1]
 rw [← hb1]
 clear hw1 hb1 hs1
 refine rg [Fq.st [.n a, .n b, .n c], Fq.is (.int .i64 1), yF, yF, Fq.is (undef), Fq.is (undef), Fq.is (undef), Fq.is (undef), yF, yF] [none] [] E (fun hp => ⟨?_, ?_, ?_, ?_, ?_, ?_, ?_, ?_, ?_, ?_, tv⟩) ?_
 ·exact lS 0 6 hp (mq 0 rfl) zAm (sqo 1)
 ·exact wXa (Fq.st [.n a, .n b, .n c]) hp zGq (sqi 0) fun v w h => zGx h ha.out hb.out hc.out HC.out
 ·exact zAf (F := fun v _ => v = .int .i64 1) hp fo tv (sqi 1) (fun ρ w hc h => ⟨.bool false, by simp [execOp, go_sem, h, hc], rfl⟩)
 ·exact zAa hp fo tv (sqi 2)
 ·exact zAi hp fo rfl gqi (fun _ => rfl)
 ·exact zAi hp fo rfl gqi (fun _ => rfl)
 ·exact zAi hp fo rfl gqi (fun _ => rfl)
 ·exact zAi hp fo rfl gqi (fun _ => rfl)
 ·exact zAg (F := fun v _ => v = .bool false) (G := fun v _ => v = .bool false) hp fo tv (sqi 3) (zAj (fun _ => rfl)) (fun ρ w hc h h' => ⟨_, by simp [execOp, go_sem, h, h'], rfl⟩)
 ·exact zAh hp fo tv (sqi 8)
 intro L vs w2 nb hL hC hn E2
 have e1 := wXi hC 1
 have e2 := wXi hC 2
 have e3 := wXi hC 3
 have e4 := wXi hC 4
 have e5 := wXi hC 5
 have e6 := wXi hC 6
 have e7 := wXi hC 7
 have e8 := wXi hC 8
 have e9 := wXi hC 9
 have E := E2; try simp only [LM, zAd] at E
 rw [zAe hL]
 simp only [SP, Nat.zero_add, Nat.reduceAdd]
 rw [e1, e2, e3, e4, e5, e6, e7, e8, e9]
 generalize vs 0 = u2_0
 clear e1 e2 e3 e4 e5 e6 e7 e8 e9 hC hn E2 hL vs L nb
 clear HC
 clear ha hb hc HDB
 go_wp2
 refine bodyPost_ret (v := .bool false) ?_ rfl ⟨_, rfl, E.below, rfl⟩
 simp [results, Tryz.results67, go_sem]

set_option maxRecDepth 100000 in
set_option maxHeartbeats 4000000 in
theorem zN0 {w : World} {v : Value} {a b c : Int} (h : (Fq.st [.n a, .n b, .n c]).P v w) (ha : ab a < pw 15) (hb : ab b < pw 15) (hc : ab c < pw 15) (hd : ¬ (b * b - 4 * (a * c)) < 0) (hz : sqB (b * b - 4 * (a * c)) = true) {t : Bool} (ht : dfB a b c = t) :
  Calls Tryz.prog 67 #[v] w fun e w' => ∃ v', e = .returned v' ∧ Below w.heap.size w w' ∧ v' = .bool t := by
 replace ha := hidd ha
 replace hb := hidd hb
 replace hc := hidd hc
 have HC := hidd ((zHu hd).trans (if_pos hz))
 have HDB := hidd (zCf ha.out hb.out hc.out)
 have ht2 : t = false := ht.symm.trans (by unfold dfB; exact decide_eq_false (by omega))
 subst ht2
 clear ht
 clear hd hz
 obtain ⟨_, rfl, hf0⟩ := h
 have hF0 := hf0
 obtain ⟨y0_p0, y0_q0, _, rfl, _y0_n0, y0_p1, y0_q1, _, rfl, _y0_n1, y0_p2, y0_q2, _, rfl, _y0_n2, rfl⟩ := hf0
 obtain ⟨w1, b1, hw1, hb1, hs1, E⟩ := gS w 33 hF0
 go_enter Tryz.func67, Tryz.ntmps67
 go_upto_region 1 with (fail)
 rw [← hw1]
 rw [← hb1]
 clear hw1 hb1 hs1
 refine rg [Fq.st [.n a, .n b, .n c], Fq.is (.int .i64 5), yF, yF, Fq.is (undef), Fq.is (undef), Fq.is (undef), Fq.is (undef), yF, yF] [none] [] E (fun hp => ⟨?_, ?_, ?_, ?_, ?_, ?_, ?_, ?_, ?_, ?_, tv⟩) ?_
 ·exact lS 0 6 hp (mq 0 rfl) zAm (sqo 1)
 ·exact wXa (Fq.st [.n a, .n b, .n c]) hp zGq (sqi 0) fun v w h => zGx h ha.out hb.out hc.out HC.out
 ·exact zAf (F := fun v _ => v = .int .i64 5) hp fo tv (sqi 1) (fun ρ w hc h => ⟨.bool false, by simp [execOp, go_sem, h, hc], rfl⟩)
 ·exact zAa hp fo tv (sqi 2)
 ·exact zAi hp fo rfl gqi (fun _ => rfl)
 ·exact zAi hp fo rfl gqi (fun _ => rfl)
 ·exact zAi hp fo rfl gqi (fun _ => rfl)
 ·exact zAi hp fo rfl gqi (fun _ => rfl)
 ·exact zAg (F := fun v _ => v = .bool false) (G := fun v _ => v = .bool false) hp fo tv (sqi 3) (zAj (fun _ => rfl)) (fun ρ w hc h h' => ⟨_, by simp [execOp, go_sem, h, h'], rfl⟩)
 ·exact zAh hp fo tv (sqi 8)
 intro L vs w2 nb hL hC hn E2
 have e1 := wXi hC 1
 have e2 := wXi hC 2
 have e3 := wXi hC 3
 have e4 := wXi hC 4
 have e5 := wXi hC 5
 have e6 := wXi hC 6
 have e7 := wXi hC 7
 have e8 := wXi hC 8
 have e9 := wXi hC 9
 have E := E2; try simp only [LM, zAd] at E
 rw [zAe hL]
 simp only [SP, Nat.zero_add, Nat.reduceAdd]
 rw [e1, e2, e3, e4, e5, e6, e7, e8, e9]
 generalize vs 0 = u2_0
 clear e1 e2 e3 e4 e5 e6 e7 e8 e9 hC hn E2 hL vs L nb
 clear HC
 clear ha hb hc HDB
 go_wp2
 refine bodyPost_ret (v := .bool false) ?_ rfl ⟨_, rfl, E.below, rfl⟩
 simp [results, Tryz.results67, go_sem]

set_option maxRecDepth 100000 in
set_option maxHeartbeats 4000000 in
theorem zNy {w : World} {v : Value} {a b c : Int} (h : (Fq.st [.n a, .n b, .n c]).P v w) (ha : ab a < pw 15) (hb : ab b < pw 15) (hc : ab c < pw 15) (hd : ¬ (b * b - 4 * (a * c)) < 0) (hz : ¬ sqB (b * b - 4 * (a * c)) = true) {t : Bool} (ht : dfB a b c = t) :
  Calls Tryz.prog 67 #[v] w fun e w' => ∃ v', e = .returned v' ∧ Below w.heap.size w w' ∧ v' = .bool t := by
 replace ha := hidd ha
 replace hb := hidd hb
 replace hc := hidd hc
 have HC := hidd ((zHu hd).trans (if_neg hz))
 have HDB := hidd (zCf ha.out hb.out hc.out)
 have ht2 : t = false := ht.symm.trans (by unfold dfB; exact decide_eq_false (by omega))
 subst ht2
 clear ht
 have T1 : Hid (¬ cmpI (b * b - 4 * (a * c)) 0 < 0) := fun e => hd (cmpIqlt.1 e)
 clear hd hz
 obtain ⟨_, rfl, hf0⟩ := h
 have hF0 := hf0
 obtain ⟨y0_p0, y0_q0, _, rfl, _y0_n0, y0_p1, y0_q1, _, rfl, _y0_n1, y0_p2, y0_q2, _, rfl, _y0_n2, rfl⟩ := hf0
 obtain ⟨w1, b1, hw1, hb1, hs1, E⟩ := gS w 33 hF0
 go_enter Tryz.func67, Tryz.ntmps67
 go_upto_region 1 with (fail)
 rw [← hw1]
 rw [← hb1]
 clear hw1 hb1 hs1
 refine rg [Fq.st [.n a, .n b, .n c], Fq.is (.int .i64 0), yT, yT, Fq.st [.n a, .n b, .n c], Fq.num (b * b - 4 * (a * c)), Fq.is (.int .i64 (cmpI (b * b - 4 * (a * c)) 0)), yF, yF, yF] [none] [] E (fun hp => ⟨?_, ?_, ?_, ?_, ?_, ?_, ?_, ?_, ?_, ?_, tv⟩) ?_
 ·exact lS 0 6 hp (mq 0 rfl) zAm (sqo 1)
 ·exact wXa (Fq.st [.n a, .n b, .n c]) hp zGq (sqi 0) fun v w h => zGx h ha.out hb.out hc.out HC.out
 ·exact zAf (F := fun v _ => v = .int .i64 0) hp fo tv (sqi 1) (fun ρ w hc h => ⟨.bool true, by simp [execOp, go_sem, h, hc], rfl⟩)
 ·exact zAa hp fo tv (sqi 2)
 ·exact lG 0 6 hp gqi (mq 0 rfl) zAm (sqo 1) fun v w h => h
 ·exact zAn (F := (Fq.st [.n a, .n b, .n c]).P) hp fo gqi (zE0) (sqi 4) (fun v w h => zE9 h (Int.lt_of_lt_of_le ha.out (zAb (by omega))) (Int.lt_of_lt_of_le hb.out (zAb (by omega))) (Int.lt_of_lt_of_le hc.out (zAb (by omega))))
 ·exact zAn (F := (Fq.num (b * b - 4 * (a * c))).P) hp fo gqi (zB3) (sqi 5) (fun v w h => zB4 h)
 ·exact zAf (F := fun v _ => v = .int .i64 (cmpI (b * b - 4 * (a * c)) 0)) hp fo gqi (sqi 6) (fun ρ w hc h => ⟨.bool false, by simp [execOp, go_sem, h, hc, T1.out], rfl⟩)
 ·exact zAg (F := fun v _ => v = .bool true) (G := fun v _ => v = .bool false) hp fo tv (sqi 3) (sqi 7) (fun ρ w hc h h' => ⟨_, by simp [execOp, go_sem, h, h'], rfl⟩)
 ·exact zAh hp fo tv (sqi 8)
 intro L vs w2 nb hL hC hn E2
 have e1 := wXi hC 1
 have e2 := wXi hC 2
 have e3 := wXi hC 3
 have e6 := wXi hC 6
 have e7 := wXi hC 7
 have e8 := wXi hC 8
 have e9 := wXi hC 9
 have E := E2; try simp only [LM, zAd] at E
 rw [zAe hL]
 simp only [SP, Nat.zero_add, Nat.reduceAdd]
 rw [e1, e2, e3, e6, e7, e8, e9]
 generalize vs 0 = u2_0
 generalize vs 4 = u2_4
 generalize vs 5 = u2_5
 clear e1 e2 e3 e6 e7 e8 e9 hC hn E2 hL vs L nb
 clear HC T1
 clear ha hb hc HDB
 go_wp2
 refine bodyPost_ret (v := .bool false) ?_ rfl ⟨_, rfl, E.below, rfl⟩
 simp [results, Tryz.results67, go_sem]

theorem zDe {w : World} {v : Value} {a b c : Int} (h : (Fq.st [.n a, .n b, .n c]).P v w) (ha : ab a < pw 15) (hb : ab b < pw 15) (hc : ab c < pw 15) {t : Bool} (ht : dfB a b c = t) :
  Calls Tryz.prog 67 #[v] w fun e w' => ∃ v', e = .returned v' ∧ Below w.heap.size w w' ∧ v' = .bool t := by
 by_cases hd : (b * b - 4 * (a * c)) < 0
 ·by_cases hz : a < 0
  ·exact zNz h ha hb hc hd hz ht
  ·exact zN1 h ha hb hc hd hz ht
 ·by_cases hz : sqB (b * b - 4 * (a * c)) = true
  ·exact zN0 h ha hb hc hd hz ht
  ·exact zNy h ha hb hc hd hz ht

set_option maxRecDepth 100000 in
set_option maxHeartbeats 4000000 in
theorem exQRed_no {w : World} {v : Value} {a b c : Int} (h : (Fq.st [.n a, .n b, .n c]).P v w) (ha : ab a < pw 15) (hb : ab b < pw 15) (hc : ab c < pw 15) (hdf : dfB a b c = false) {t : Bool} (ht : (dfB a b c && redB a b c) = t) :
  Calls Tryz.prog 23 #[v] w fun e w' => ∃ v', e = .returned v' ∧ Below w.heap.size w w' ∧ v' = .bool t := by
 replace ha := hidd ha
 replace hb := hidd hb
 replace hc := hidd hc
 have ht2 : t = false := ht.symm.trans (by rw [hdf]; rfl)
 subst ht2
 clear ht
 have HD := hidd hdf
 clear hdf
 obtain ⟨_, rfl, hf0⟩ := h
 have hF0 := hf0
 obtain ⟨y0_p0, y0_q0, _, rfl, _y0_n0, y0_p1, y0_q1, _, rfl, _y0_n1, y0_p2, y0_q2, _, rfl, _y0_n2, rfl⟩ := hf0
 obtain ⟨w1, b1, hw1, hb1, hs1, E⟩ := gS w 33 hF0
 go_enter Tryz.func23, Tryz.ntmps23
 go_upto_region 1 with (fail)
 rw [← hw1]
 rw [← hb1]
 clear hw1 hb1 hs1
 refine rg [Fq.st [.n a, .n b, .n c], yF, yT, yT, Fq.is (undef), Fq.is (undef), Fq.is (undef), Fq.is (undef), Fq.is (undef), Fq.is (undef), Fq.is (undef), yT, yT, Fq.is (undef), Fq.is (undef), Fq.is (undef), Fq.is (undef), Fq.is (undef), Fq.is (undef), yT] [none] [] E (fun hp => ⟨?_, ?_, ?_, ?_, ?_, ?_, ?_, ?_, ?_, ?_, ?_, ?_, ?_, ?_, ?_, ?_, ?_, ?_, ?_, ?_, tv⟩) ?_
 ·exact lS 0 6 hp (mq 0 rfl) zAm (sqo 1)
 ·exact wXa (Fq.st [.n a, .n b, .n c]) hp zDd (sqi 0) fun v w h => zDe h ha.out hb.out hc.out HD.out
 ·exact zAf (F := fun v _ => v = .bool false) hp fo tv (sqi 1) (fun ρ w _ h => ⟨.bool true, by simp [execOp, go_sem, h], rfl⟩)
 ·exact zAa hp fo tv (sqi 2)
 ·exact zAi hp fo rfl gqi (fun _ => rfl)
 ·exact zAi hp fo rfl gqi (fun _ => rfl)
 ·exact zAi hp fo rfl gqi (fun _ => rfl)
 ·exact zAi hp fo rfl gqi (fun _ => rfl)
 ·exact zAi hp fo rfl gqi (fun _ => rfl)
 ·exact zAi hp fo rfl gqi (fun _ => rfl)
 ·exact zAi hp fo rfl gqi (fun _ => rfl)
 ·exact zAg (F := fun v _ => v = .bool true) (G := fun v _ => v = .bool true) hp fo tv (sqi 3) (zAj (fun _ => rfl)) (fun ρ w hc h h' => ⟨_, by simp [execOp, go_sem, h, h'], rfl⟩)
 ·exact zAa hp fo tv (sqi 11)
 ·exact zAi hp fo rfl gqi (fun _ => rfl)
 ·exact zAi hp fo rfl gqi (fun _ => rfl)
 ·exact zAi hp fo rfl gqi (fun _ => rfl)
 ·exact zAi hp fo rfl gqi (fun _ => rfl)
 ·exact zAi hp fo rfl gqi (fun _ => rfl)
 ·exact zAi hp fo rfl gqi (fun _ => rfl)
 ·exact zAg (F := fun v _ => v = .bool true) (G := fun v _ => v = .bool true) hp fo tv (sqi 12) (zAj (fun _ => rfl)) (fun ρ w hc h h' => ⟨_, by simp [execOp, go_sem, h, h'], rfl⟩)
 intro L vs w2 nb hL hC hn E2
 have e1 := wXi hC 1
 have e2 := wXi hC 2
 have e3 := wXi hC 3
 have e4 := wXi hC 4
 have e5 := wXi hC 5
 have e6 := wXi hC 6
 have e7 := wXi hC 7
 have e8 := wXi hC 8
 have e9 := wXi hC 9
 have e10 := wXi hC 10
 have e11 := wXi hC 11
 have e12 := wXi hC 12
 have e13 := wXi hC 13
 have e14 := wXi hC 14
 have e15 := wXi hC 15
 have e16 := wXi hC 16
 have e17 := wXi hC 17
 have e18 := wXi hC 18
 have e19 := wXi hC 19
 have E := E2; try simp only [LM, zAd] at E
 rw [zAe hL]
 simp only [SP, Nat.zero_add, Nat.reduceAdd]
 rw [e1, e2, e3, e4, e5, e6, e7, e8, e9, e10, e11, e12, e13, e14, e15, e16, e17, e18, e19]
 generalize vs 0 = u2_0
 clear e1 e2 e3 e4 e5 e6 e7 e8 e9 e10 e11 e12 e13 e14 e15 e16 e17 e18 e19 hC hn E2 hL vs L nb
 go_upto_region 2 with (fail)
 refine rg [yF] [none] [] E (fun hp => ⟨?_, tv⟩) ?_
 ·exact zAh hp fo tv (zAj (fun _ => rfl))
 intro L vs w3 nb hL hC hn E3
 have e0 := wXi hC 0
 have E := E3; try simp only [LM, zAd] at E
 rw [zAe hL]
 simp only [SP, Nat.zero_add, Nat.reduceAdd]
 rw [e0]
 clear e0 hC hn E3 hL vs L nb
 clear HD
 clear ha hb hc
 go_wp2
 refine bodyPost_ret (v := .bool false) ?_ rfl ⟨_, rfl, E.below, rfl⟩
 simp [results, Tryz.results23, go_sem]

set_option maxRecDepth 100000 in
set_option maxHeartbeats 4000000 in
theorem exQRed_b {w : World} {v : Value} {a b c : Int} (h : (Fq.st [.n a, .n b, .n c]).P v w) (ha : ab a < pw 15) (hb : ab b < pw 15) (hc : ab c < pw 15) (hdf : dfB a b c = true) (hx : a < (Int.natAbs b : Int)) {t : Bool} (ht : (dfB a b c && redB a b c) = t) :
  Calls Tryz.prog 23 #[v] w fun e w' => ∃ v', e = .returned v' ∧ Below w.heap.size w w' ∧ v' = .bool t := by
 replace ha := hidd ha
 replace hb := hidd hb
 replace hc := hidd hc
 have ht2 : t = false := ht.symm.trans (by rw [hdf, Bool.true_and]; unfold redB; exact decide_eq_false (by omega))
 subst ht2
 clear ht
 have HD := hidd hdf
 clear hdf
 have T1 : Hid (0 < cmpI (Int.natAbs b : Int) a) := cmpIqgt.2 hx
 clear hx
 skip
 obtain ⟨_, rfl, hf0⟩ := h
 have hF0 := hf0
 obtain ⟨y0_p0, y0_q0, _, rfl, _y0_n0, y0_p1, y0_q1, _, rfl, _y0_n1, y0_p2, y0_q2, _, rfl, _y0_n2, rfl⟩ := hf0
 obtain ⟨w1, b1, hw1, hb1, hs1, E⟩ := gS w 33 hF0
 go_enter Tryz.func23, Tryz.ntmps23
 go_upto_region 1 with (fail)
 rw [← hw1]
 rw [← hb1]
 clear hw1 hb1 hs1
 have B2 : Hid (ab ((Int.natAbs b : Int)) < pw 15) := zBg hb.out
 refine rg [Fq.st [.n a, .n b, .n c], yT, yF, yF, ip b1 2, Fq.num b, Fq.num (Int.natAbs b : Int), ip b1 0, Fq.num a, Fq.is (.int .i64 (cmpI (Int.natAbs b : Int) a)), yT, yT, yT, Fq.is (undef), Fq.is (undef), Fq.is (undef), Fq.is (undef), Fq.is (undef), Fq.is (undef), yT] [none] [] E (fun hp => ⟨?_, ?_, ?_, ?_, ?_, ?_, ?_, ?_, ?_, ?_, ?_, ?_, ?_, ?_, ?_, ?_, ?_, ?_, ?_, ?_, tv⟩) ?_
 ·exact lS 0 6 hp (mq 0 rfl) zAm (sqo 1)
 ·exact wXa (Fq.st [.n a, .n b, .n c]) hp zDd (sqi 0) fun v w h => zDe h ha.out hb.out hc.out HD.out
 ·exact zAf (F := fun v _ => v = .bool true) hp fo tv (sqi 1) (fun ρ w _ h => ⟨.bool false, by simp [execOp, go_sem, h], rfl⟩)
 ·exact zAa hp fo tv (sqi 2)
 ·exact zAl (b := b1) (off := 0) (off' := 2) hp fo gqi (sqo 1) (fun ρ w h => by simp [execOp, go_sem, h]) (fun _ => rfl)
 ·exact lG 2 2 hp gqi (mq 0 rfl) zAc (sqi 4) fun v w h => zAk h
 ·exact zAn (F := (Fq.num b).P) hp fo gqi (zBo) (sqi 5) (fun v w h => exK (zBl h) B2.out (by omega))
 ·exact zAl (b := b1) (off := 0) (off' := 0) hp fo gqi (sqo 1) (fun ρ w h => by simp [execOp, go_sem, h]) (fun _ => rfl)
 ·exact lG 0 2 hp gqi (mq 0 rfl) zAc (sqi 7) fun v w h => zAk h
 ·exact zAx (F := (Fq.num (Int.natAbs b : Int)).P) (G := (Fq.num a).P) hp fo gqi (zA2) (sqi 6) (sqi 8) (fun v v' w h h' => zA3 h h')
 ·exact zAf (F := fun v _ => v = .int .i64 (cmpI (Int.natAbs b : Int) a)) hp fo gqi (sqi 9) (fun ρ w hc h => ⟨.bool true, by simp [execOp, go_sem, h, hc, T1.out], rfl⟩)
 ·exact zAg (F := fun v _ => v = .bool false) (G := fun v _ => v = .bool true) hp fo tv (sqi 3) (sqi 10) (fun ρ w hc h h' => ⟨_, by simp [execOp, go_sem, h, h'], rfl⟩)
 ·exact zAa hp fo tv (sqi 11)
 ·exact zAi hp fo rfl gqi (fun _ => rfl)
 ·exact zAi hp fo rfl gqi (fun _ => rfl)
 ·exact zAi hp fo rfl gqi (fun _ => rfl)
 ·exact zAi hp fo rfl gqi (fun _ => rfl)
 ·exact zAi hp fo rfl gqi (fun _ => rfl)
 ·exact zAi hp fo rfl gqi (fun _ => rfl)
 ·exact zAg (F := fun v _ => v = .bool true) (G := fun v _ => v = .bool true) hp fo tv (sqi 12) (zAj (fun _ => rfl)) (fun ρ w hc h h' => ⟨_, by simp [execOp, go_sem, h, h'], rfl⟩)
 intro L vs w3 nb hL hC hn E3
 have e1 := wXi hC 1
 have e2 := wXi hC 2
 have e3 := wXi hC 3
 have e4 := wXi hC 4
 have e7 := wXi hC 7
 have e9 := wXi hC 9
 have e10 := wXi hC 10
 have e11 := wXi hC 11
 have e12 := wXi hC 12
 have e13 := wXi hC 13
 have e14 := wXi hC 14
 have e15 := wXi hC 15
 have e16 := wXi hC 16
 have e17 := wXi hC 17
 have e18 := wXi hC 18
 have e19 := wXi hC 19
 have E := E3; try simp only [LM, zAd] at E
 rw [zAe hL]
 simp only [SP, Nat.zero_add, Nat.reduceAdd]
 rw [e1, e2, e3, e4, e7, e9, e10, e11, e12, e13, e14, e15, e16, e17, e18, e19]
 generalize vs 0 = u3_0
 generalize vs 5 = u3_5
 generalize vs 6 = u3_6
 generalize vs 8 = u3_8
 clear e1 e2 e3 e4 e7 e9 e10 e11 e12 e13 e14 e15 e16 e17 e18 e19 hC hn E3 hL vs L nb
 go_upto_region 2 with (fail)
 refine rg [yF] [none] [] E (fun hp => ⟨?_, tv⟩) ?_
 ·exact zAh hp fo tv (zAj (fun _ => rfl))
 intro L vs w4 nb hL hC hn E4
 have e0 := wXi hC 0
 have E := E4; try simp only [LM, zAd] at E
 rw [zAe hL]
 simp only [SP, Nat.zero_add, Nat.reduceAdd]
 rw [e0]
 clear e0 hC hn E4 hL vs L nb
 clear HD T1
 clear B2 ha hb hc
 go_wp2
 refine bodyPost_ret (v := .bool false) ?_ rfl ⟨_, rfl, E.below, rfl⟩
 simp [results, Tryz.results23, go_sem]

set_option maxRecDepth 100000 in
set_option maxHeartbeats 4000000 in
theorem exQRed_c {w : World} {v : Value} {a b c : Int} (h : (Fq.st [.n a, .n b, .n c]).P v w) (ha : ab a < pw 15) (hb : ab b < pw 15) (hc : ab c < pw 15) (hdf : dfB a b c = true) (hx : ¬ a < (Int.natAbs b : Int)) (hy : ¬ a ≤ c) {t : Bool} (ht : (dfB a b c && redB a b c) = t) :
  Calls Tryz.prog 23 #[v] w fun e w' => ∃ v', e = .returned v' ∧ Below w.heap.size w w' ∧ v' = .bool t := by
 replace ha := hidd ha
 replace hb := hidd hb
 replace hc := hidd hc
 have ht2 : t = false := ht.symm.trans (by rw [hdf, Bool.true_and]; unfold redB; exact decide_eq_false (by omega))
 subst ht2
 clear ht
 have HD := hidd hdf
 clear hdf
 have T1 : Hid (¬ 0 < cmpI (Int.natAbs b : Int) a) := fun e => by have := cmpIqgt.1 e; omega
 have T2 : Hid (0 < cmpI a c) := cmpIqgt.2 (by omega)
 clear hx hy
 obtain ⟨_, rfl, hf0⟩ := h
 have hF0 := hf0
 obtain ⟨y0_p0, y0_q0, _, rfl, _y0_n0, y0_p1, y0_q1, _, rfl, _y0_n1, y0_p2, y0_q2, _, rfl, _y0_n2, rfl⟩ := hf0
 obtain ⟨w1, b1, hw1, hb1, hs1, E⟩ := gS w 33 hF0
 go_enter Tryz.func23, Tryz.ntmps23
 go_upto_region 1 with (fail)
 rw [← hw1]
 rw [← hb1]
 clear hw1 hb1 hs1
 have B2 : Hid (ab ((Int.natAbs b : Int)) < pw 15) := zBg hb.out
 refine rg [Fq.st [.n a, .n b, .n c], yT, yF, yF, ip b1 2, Fq.num b, Fq.num (Int.natAbs b : Int), ip b1 0, Fq.num a, Fq.is (.int .i64 (cmpI (Int.natAbs b : Int) a)), yF, yF, yF, ip b1 0, Fq.num a, ip b1 4, Fq.num c, Fq.is (.int .i64 (cmpI a c)), yT, yT] [none] [] E (fun hp => ⟨?_, ?_, ?_, ?_, ?_, ?_, ?_, ?_, ?_, ?_, ?_, ?_, ?_, ?_, ?_, ?_, ?_, ?_, ?_, ?_, tv⟩) ?_
 ·exact lS 0 6 hp (mq 0 rfl) zAm (sqo 1)
 ·exact wXa (Fq.st [.n a, .n b, .n c]) hp zDd (sqi 0) fun v w h => zDe h ha.out hb.out hc.out HD.out
 ·exact zAf (F := fun v _ => v = .bool true) hp fo tv (sqi 1) (fun ρ w _ h => ⟨.bool false, by simp [execOp, go_sem, h], rfl⟩)
 ·exact zAa hp fo tv (sqi 2)
 ·exact zAl (b := b1) (off := 0) (off' := 2) hp fo gqi (sqo 1) (fun ρ w h => by simp [execOp, go_sem, h]) (fun _ => rfl)
 ·exact lG 2 2 hp gqi (mq 0 rfl) zAc (sqi 4) fun v w h => zAk h
 ·exact zAn (F := (Fq.num b).P) hp fo gqi (zBo) (sqi 5) (fun v w h => exK (zBl h) B2.out (by omega))
 ·exact zAl (b := b1) (off := 0) (off' := 0) hp fo gqi (sqo 1) (fun ρ w h => by simp [execOp, go_sem, h]) (fun _ => rfl)
 ·exact lG 0 2 hp gqi (mq 0 rfl) zAc (sqi 7) fun v w h => zAk h
 ·exact zAx (F := (Fq.num (Int.natAbs b : Int)).P) (G := (Fq.num a).P) hp fo gqi (zA2) (sqi 6) (sqi 8) (fun v v' w h h' => zA3 h h')
 ·exact zAf (F := fun v _ => v = .int .i64 (cmpI (Int.natAbs b : Int) a)) hp fo gqi (sqi 9) (fun ρ w hc h => ⟨.bool false, by simp [execOp, go_sem, h, hc, T1.out], rfl⟩)
 ·exact zAg (F := fun v _ => v = .bool false) (G := fun v _ => v = .bool false) hp fo tv (sqi 3) (sqi 10) (fun ρ w hc h h' => ⟨_, by simp [execOp, go_sem, h, h'], rfl⟩)
 ·exact zAa hp fo tv (sqi 11)
 ·exact zAl (b := b1) (off := 0) (off' := 0) hp fo gqi (sqo 1) (fun ρ w h => by simp [execOp, go_sem, h]) (fun _ => rfl)
 ·exact lG 0 2 hp gqi (mq 0 rfl) zAc (sqi 13) fun v w h => zAk h
 ·exact zAl (b := b1) (off := 0) (off' := 4) hp fo gqi (sqo 1) (fun ρ w h => by simp [execOp, go_sem, h]) (fun _ => rfl)
 ·exact lG 4 2 hp gqi (mq 0 rfl) zAc (sqi 15) fun v w h => zAk h
 ·exact zAx (F := (Fq.num a).P) (G := (Fq.num c).P) hp fo gqi (zA2) (sqi 14) (sqi 16) (fun v v' w h h' => zA3 h h')
 ·exact zAf (F := fun v _ => v = .int .i64 (cmpI a c)) hp fo gqi (sqi 17) (fun ρ w hc h => ⟨.bool true, by simp [execOp, go_sem, h, hc, T2.out], rfl⟩)
 ·exact zAg (F := fun v _ => v = .bool false) (G := fun v _ => v = .bool true) hp fo tv (sqi 12) (sqi 18) (fun ρ w hc h h' => ⟨_, by simp [execOp, go_sem, h, h'], rfl⟩)
 intro L vs w3 nb hL hC hn E3
 have e1 := wXi hC 1
 have e2 := wXi hC 2
 have e3 := wXi hC 3
 have e4 := wXi hC 4
 have e7 := wXi hC 7
 have e9 := wXi hC 9
 have e10 := wXi hC 10
 have e11 := wXi hC 11
 have e12 := wXi hC 12
 have e13 := wXi hC 13
 have e15 := wXi hC 15
 have e17 := wXi hC 17
 have e18 := wXi hC 18
 have e19 := wXi hC 19
 have E := E3; try simp only [LM, zAd] at E
 rw [zAe hL]
 simp only [SP, Nat.zero_add, Nat.reduceAdd]
 rw [e1, e2, e3, e4, e7, e9, e10, e11, e12, e13, e15, e17, e18, e19]
 generalize vs 0 = u3_0
 generalize vs 5 = u3_5
 generalize vs 6 = u3_6
 generalize vs 8 = u3_8
 generalize vs 14 = u3_14
 generalize vs 16 = u3_16
 clear e1 e2 e3 e4 e7 e9 e10 e11 e12 e13 e15 e17 e18 e19 hC hn E3 hL vs L nb
 go_upto_region 2 with (fail)
 refine rg [yF] [none] [] E (fun hp => ⟨?_, tv⟩) ?_
 ·exact zAh hp fo tv (zAj (fun _ => rfl))
 intro L vs w4 nb hL hC hn E4
 have e0 := wXi hC 0
 have E := E4; try simp only [LM, zAd] at E
 rw [zAe hL]
 simp only [SP, Nat.zero_add, Nat.reduceAdd]
 rw [e0]
 clear e0 hC hn E4 hL vs L nb
 clear HD T1 T2
 clear B2 ha hb hc
 go_wp2
 refine bodyPost_ret (v := .bool false) ?_ rfl ⟨_, rfl, E.below, rfl⟩
 simp [results, Tryz.results23, go_sem]

set_option maxRecDepth 100000 in
set_option maxHeartbeats 4000000 in
theorem zN2 {w : World} {v : Value} {a b c : Int} (h : (Fq.st [.n a, .n b, .n c]).P v w) (ha : ab a < pw 15) (hb : ab b < pw 15) (hc : ab c < pw 15) (hdf : dfB a b c = true) (hx : ¬ a < (Int.natAbs b : Int)) (hy : a ≤ c) (k0 : ¬ (Int.natAbs b : Int) = a) (k1 : ¬ a = c) (k2 : ¬ 0 ≤ b) {t : Bool} (ht : (dfB a b c && redB a b c) = t) :
  Calls Tryz.prog 23 #[v] w fun e w' => ∃ v', e = .returned v' ∧ Below w.heap.size w w' ∧ v' = .bool t := by
 replace ha := hidd ha
 replace hb := hidd hb
 replace hc := hidd hc
 have ht2 : t = true := ht.symm.trans (by rw [hdf, Bool.true_and]; unfold redB; exact decide_eq_true (by omega))
 subst ht2
 clear ht
 have HD := hidd hdf
 clear hdf
 have T1 : Hid (¬ 0 < cmpI (Int.natAbs b : Int) a) := fun e => by have := cmpIqgt.1 e; omega
 have T2 : Hid (¬ 0 < cmpI a c) := fun e => by have := cmpIqgt.1 e; omega
 have T3 : Hid (¬ cmpI (Int.natAbs b : Int) a = 0) := fun e => k0 (cmpIq0.1 e)
 have T4 : Hid (¬ cmpI a c = 0) := fun e => k1 (cmpIq0.1 e)
 have T5 : Hid (¬ 0 ≤ cmpI b 0) := by have := cmpIqlt.2 (show b < 0 by omega); show ¬ _ ≤ _; omega
 clear k0 k1 k2
 clear hx hy
 obtain ⟨_, rfl, hf0⟩ := h
 have hF0 := hf0
 obtain ⟨y0_p0, y0_q0, _, rfl, _y0_n0, y0_p1, y0_q1, _, rfl, _y0_n1, y0_p2, y0_q2, _, rfl, _y0_n2, rfl⟩ := hf0
 obtain ⟨w1, b1, hw1, hb1, hs1, E⟩ := gS w 33 hF0
 go_enter Tryz.func23, Tryz.ntmps23
 go_upto_region 1 with (fail)
 rw [← hw1]
 rw [← hb1]
 clear hw1 hb1 hs1
 have B2 : Hid (ab ((Int.natAbs b : Int)) < pw 15) := zBg hb.out
 refine rg [Fq.st [.n a, .n b, .n c], yT, yF, yF, ip b1 2, Fq.num b, Fq.num (Int.natAbs b : Int), ip b1 0, Fq.num a, Fq.is (.int .i64 (cmpI (Int.natAbs b : Int) a)), yF, yF, yF, ip b1 0, Fq.num a, ip b1 4, Fq.num c, Fq.is (.int .i64 (cmpI a c)), yF, yF] [none] [] E (fun hp => ⟨?_, ?_, ?_, ?_, ?_, ?_, ?_, ?_, ?_, ?_, ?_, ?_, ?_, ?_, ?_, ?_, ?_, ?_, ?_, ?_, tv⟩) ?_
 ·exact lS 0 6 hp (mq 0 rfl) zAm (sqo 1)
 ·exact wXa (Fq.st [.n a, .n b, .n c]) hp zDd (sqi 0) fun v w h => zDe h ha.out hb.out hc.out HD.out
 ·exact zAf (F := fun v _ => v = .bool true) hp fo tv (sqi 1) (fun ρ w _ h => ⟨.bool false, by simp [execOp, go_sem, h], rfl⟩)
 ·exact zAa hp fo tv (sqi 2)
 ·exact zAl (b := b1) (off := 0) (off' := 2) hp fo gqi (sqo 1) (fun ρ w h => by simp [execOp, go_sem, h]) (fun _ => rfl)
 ·exact lG 2 2 hp gqi (mq 0 rfl) zAc (sqi 4) fun v w h => zAk h
 ·exact zAn (F := (Fq.num b).P) hp fo gqi (zBo) (sqi 5) (fun v w h => exK (zBl h) B2.out (by omega))
 ·exact zAl (b := b1) (off := 0) (off' := 0) hp fo gqi (sqo 1) (fun ρ w h => by simp [execOp, go_sem, h]) (fun _ => rfl)
 ·exact lG 0 2 hp gqi (mq 0 rfl) zAc (sqi 7) fun v w h => zAk h
 ·exact zAx (F := (Fq.num (Int.natAbs b : Int)).P) (G := (Fq.num a).P) hp fo gqi (zA2) (sqi 6) (sqi 8) (fun v v' w h h' => zA3 h h')
 ·exact zAf (F := fun v _ => v = .int .i64 (cmpI (Int.natAbs b : Int) a)) hp fo gqi (sqi 9) (fun ρ w hc h => ⟨.bool false, by simp [execOp, go_sem, h, hc, T1.out], rfl⟩)
 ·exact zAg (F := fun v _ => v = .bool false) (G := fun v _ => v = .bool false) hp fo tv (sqi 3) (sqi 10) (fun ρ w hc h h' => ⟨_, by simp [execOp, go_sem, h, h'], rfl⟩)
 ·exact zAa hp fo tv (sqi 11)
 ·exact zAl (b := b1) (off := 0) (off' := 0) hp fo gqi (sqo 1) (fun ρ w h => by simp [execOp, go_sem, h]) (fun _ => rfl)
 ·exact lG 0 2 hp gqi (mq 0 rfl) zAc (sqi 13) fun v w h => zAk h
 ·exact zAl (b := b1) (off := 0) (off' := 4) hp fo gqi (sqo 1) (fun ρ w h => by simp [execOp, go_sem, h]) (fun _ => rfl)
 ·exact lG 4 2 hp gqi (mq 0 rfl) zAc (sqi 15) fun v w h => zAk h
 ·exact zAx (F := (Fq.num a).P) (G := (Fq.num c).P) hp fo gqi (zA2) (sqi 14) (sqi 16) (fun v v' w h h' => zA3 h h')
 ·exact zAf (F := fun v _ => v = .int .i64 (cmpI a c)) hp fo gqi (sqi 17) (fun ρ w hc h => ⟨.bool false, by simp [execOp, go_sem, h, hc, T2.out], rfl⟩)
 ·exact zAg (F := fun v _ => v = .bool false) (G := fun v _ => v = .bool false) hp fo tv (sqi 12) (sqi 18) (fun ρ w hc h h' => ⟨_, by simp [execOp, go_sem, h, h'], rfl⟩)
 intro L vs w3 nb hL hC hn E3
 have e1 := wXi hC 1
 have e2 := wXi hC 2
 have e3 := wXi hC 3
 have e4 := wXi hC 4
 have e7 := wXi hC 7
 have e9 := wXi hC 9
 have e10 := wXi hC 10
 have e11 := wXi hC 11
 have e12 := wXi hC 12
 have e13 := wXi hC 13
 have e15 := wXi hC 15
 have e17 := wXi hC 17
 have e18 := wXi hC 18
 have e19 := wXi hC 19
 have E := E3; try simp only [LM, zAd] at E
 rw [zAe hL]
 simp only [SP, Nat.zero_add, Nat.reduceAdd]
 rw [e1, e2, e3, e4, e7, e9, e10, e11, e12, e13, e15, e17, e18, e19]
 generalize vs 0 = u3_0
 generalize vs 5 = u3_5
 generalize vs 6 = u3_6
 generalize vs 8 = u3_8
 generalize vs 14 = u3_14
 generalize vs 16 = u3_16
 clear e1 e2 e3 e4 e7 e9 e10 e11 e12 e13 e15 e17 e18 e19 hC hn E3 hL vs L nb
 go_upto_region 3 with (fail)
 refine rg [ip b1 2, Fq.num b, Fq.num (Int.natAbs b : Int), ip b1 0, Fq.num a, Fq.is (.int .i64 (cmpI (Int.natAbs b : Int) a)), yF, yF, ip b1 0, Fq.num a, ip b1 4, Fq.num c, Fq.is (.int .i64 (cmpI a c)), yF, yF, yF] [none] [] E (fun hp => ⟨?_, ?_, ?_, ?_, ?_, ?_, ?_, ?_, ?_, ?_, ?_, ?_, ?_, ?_, ?_, ?_, tv⟩) ?_
 ·exact qa b1 0 2 hp (sqo 1)
 ·exact lN 2 2 hp (mq 0 rfl) zAc (sqi 0)
 ·exact wXa (Fq.num b) hp zBo (sqi 1) fun v w h => exK (zBl h) B2.out (by omega)
 ·exact qa b1 0 0 hp (sqo 1)
 ·exact lN 0 2 hp (mq 0 rfl) zAc (sqi 3)
 ·exact wXb (Fq.num (Int.natAbs b : Int)) (Fq.num a) hp zA2 (sqi 2) (sqi 4) fun v v' w h h' => zA3 h h'
 ·exact zAf (F := fun v _ => v = .int .i64 (cmpI (Int.natAbs b : Int) a)) hp fo tv (sqi 5) (fun ρ w hc h => ⟨.bool false, by simp [execOp, go_sem, h, hc, T3.out], rfl⟩)
 ·exact zAa hp fo tv (sqi 6)
 ·exact zAl (b := b1) (off := 0) (off' := 0) hp fo gqi (sqo 1) (fun ρ w h => by simp [execOp, go_sem, h]) (fun _ => rfl)
 ·exact lG 0 2 hp gqi (mq 0 rfl) zAc (sqi 8) fun v w h => zAk h
 ·exact zAl (b := b1) (off := 0) (off' := 4) hp fo gqi (sqo 1) (fun ρ w h => by simp [execOp, go_sem, h]) (fun _ => rfl)
 ·exact lG 4 2 hp gqi (mq 0 rfl) zAc (sqi 10) fun v w h => zAk h
 ·exact zAx (F := (Fq.num a).P) (G := (Fq.num c).P) hp fo gqi (zA2) (sqi 9) (sqi 11) (fun v v' w h h' => zA3 h h')
 ·exact zAf (F := fun v _ => v = .int .i64 (cmpI a c)) hp fo gqi (sqi 12) (fun ρ w hc h => ⟨.bool false, by simp [execOp, go_sem, h, hc, T4.out], rfl⟩)
 ·exact zAg (F := fun v _ => v = .bool false) (G := fun v _ => v = .bool false) hp fo tv (sqi 7) (sqi 13) (fun ρ w hc h h' => ⟨_, by simp [execOp, go_sem, h, h'], rfl⟩)
 ·exact zAh hp fo tv (sqi 14)
 intro L vs w4 nb hL hC hn E4
 have e0 := wXi hC 0
 have e3 := wXi hC 3
 have e5 := wXi hC 5
 have e6 := wXi hC 6
 have e7 := wXi hC 7
 have e8 := wXi hC 8
 have e10 := wXi hC 10
 have e12 := wXi hC 12
 have e13 := wXi hC 13
 have e14 := wXi hC 14
 have e15 := wXi hC 15
 have E := E4; try simp only [LM, zAd] at E
 rw [zAe hL]
 simp only [SP, Nat.zero_add, Nat.reduceAdd]
 rw [e0, e3, e5, e6, e7, e8, e10, e12, e13, e14, e15]
 generalize vs 1 = u4_1
 generalize vs 2 = u4_2
 generalize vs 4 = u4_4
 generalize vs 9 = u4_9
 generalize vs 11 = u4_11
 clear e0 e3 e5 e6 e7 e8 e10 e12 e13 e14 e15 hC hn E4 hL vs L nb
 go_upto_region 4 with (fail)
 refine rg [yF, yT, yT, Fq.is (undef), Fq.is (undef), Fq.is (undef), Fq.is (undef), yT, yT] [none] [] E (fun hp => ⟨?_, ?_, ?_, ?_, ?_, ?_, ?_, ?_, ?_, tv⟩) ?_
 ·exact zAa hp fo tv (sqo 3)
 ·exact zAf (F := fun v _ => v = .bool false) hp fo tv (sqi 0) (fun ρ w _ h => ⟨.bool true, by simp [execOp, go_sem, h], rfl⟩)
 ·exact zAa hp fo tv (sqi 1)
 ·exact zAi hp fo rfl gqi (fun _ => rfl)
 ·exact zAi hp fo rfl gqi (fun _ => rfl)
 ·exact zAi hp fo rfl gqi (fun _ => rfl)
 ·exact zAi hp fo rfl gqi (fun _ => rfl)
 ·exact zAg (F := fun v _ => v = .bool true) (G := fun v _ => v = .bool true) hp fo tv (sqi 2) (zAj (fun _ => rfl)) (fun ρ w hc h h' => ⟨_, by simp [execOp, go_sem, h, h'], rfl⟩)
 ·exact zAh hp fo tv (sqi 7)
 intro L vs w5 nb hL hC hn E5
 have e0 := wXi hC 0
 have e1 := wXi hC 1
 have e2 := wXi hC 2
 have e3 := wXi hC 3
 have e4 := wXi hC 4
 have e5 := wXi hC 5
 have e6 := wXi hC 6
 have e7 := wXi hC 7
 have e8 := wXi hC 8
 have E := E5; try simp only [LM, zAd] at E
 rw [zAe hL]
 simp only [SP, Nat.zero_add, Nat.reduceAdd]
 rw [e0, e1, e2, e3, e4, e5, e6, e7, e8]
 clear e0 e1 e2 e3 e4 e5 e6 e7 e8 hC hn E5 hL vs L nb
 clear HD T1 T2 T3 T4 T5
 clear B2 ha hb hc
 go_wp2
 refine bodyPost_ret (v := .bool true) ?_ rfl ⟨_, rfl, E.below, rfl⟩
 simp [results, Tryz.results23, go_sem]

set_option maxRecDepth 100000 in
set_option maxHeartbeats 4000000 in
theorem zN3 {w : World} {v : Value} {a b c : Int} (h : (Fq.st [.n a, .n b, .n c]).P v w) (ha : ab a < pw 15) (hb : ab b < pw 15) (hc : ab c < pw 15) (hdf : dfB a b c = true) (hx : ¬ a < (Int.natAbs b : Int)) (hy : a ≤ c) (k0 : ¬ (Int.natAbs b : Int) = a) (k1 : ¬ a = c) (k2 : 0 ≤ b) {t : Bool} (ht : (dfB a b c && redB a b c) = t) :
  Calls Tryz.prog 23 #[v] w fun e w' => ∃ v', e = .returned v' ∧ Below w.heap.size w w' ∧ v' = .bool t := by
 replace ha := hidd ha
 replace hb := hidd hb
 replace hc := hidd hc
 have ht2 : t = true := ht.symm.trans (by rw [hdf, Bool.true_and]; unfold redB; exact decide_eq_true (by omega))
 subst ht2
 clear ht
 have HD := hidd hdf
 clear hdf
 have T1 : Hid (¬ 0 < cmpI (Int.natAbs b : Int) a) := fun e => by have := cmpIqgt.1 e; omega
 have T2 : Hid (¬ 0 < cmpI a c) := fun e => by have := cmpIqgt.1 e; omega
 have T3 : Hid (¬ cmpI (Int.natAbs b : Int) a = 0) := fun e => k0 (cmpIq0.1 e)
 have T4 : Hid (¬ cmpI a c = 0) := fun e => k1 (cmpIq0.1 e)
 have T5 : Hid (0 ≤ cmpI b 0) := by have := mt cmpIqlt.1 (show ¬ b < 0 by omega); show _ ≤ _; omega
 clear k0 k1 k2
 clear hx hy
 obtain ⟨_, rfl, hf0⟩ := h
 have hF0 := hf0
 obtain ⟨y0_p0, y0_q0, _, rfl, _y0_n0, y0_p1, y0_q1, _, rfl, _y0_n1, y0_p2, y0_q2, _, rfl, _y0_n2, rfl⟩ := hf0
 obtain ⟨w1, b1, hw1, hb1, hs1, E⟩ := gS w 33 hF0
 go_enter Tryz.func23, Tryz.ntmps23
 go_upto_region 1 with (fail)
 rw [← hw1]
 rw [← hb1]
 clear hw1 hb1 hs1
 have B2 : Hid (ab ((Int.natAbs b : Int)) < pw 15) := zBg hb.out
 refine rg [Fq.st [.n a, .n b, .n c], yT, yF, yF, ip b1 2, Fq.num b, Fq.num (Int.natAbs b : Int), ip b1 0, Fq.num a, Fq.is (.int .i64 (cmpI (Int.natAbs b : Int) a)), yF, yF, yF, ip b1 0, Fq.num a, ip b1 4, Fq.num c, Fq.is (.int .i64 (cmpI a c)), yF, yF] [none] [] E (fun hp => ⟨?_, ?_, ?_, ?_, ?_, ?_, ?_, ?_, ?_, ?_, ?_, ?_, ?_, ?_, ?_, ?_, ?_, ?_, ?_, ?_, tv⟩) ?_
 ·exact lS 0 6 hp (mq 0 rfl) zAm (sqo 1)
 ·exact wXa (Fq.st [.n a, .n b, .n c]) hp zDd (sqi 0) fun v w h => zDe h ha.out hb.out hc.out HD.out
 ·exact zAf (F := fun v _ => v = .bool true) hp fo tv (sqi 1) (fun ρ w _ h => ⟨.bool false, by simp [execOp, go_sem, h], rfl⟩)
 ·exact zAa hp fo tv (sqi 2)
 ·exact zAl (b := b1) (off := 0) (off' := 2) hp fo gqi (sqo 1) (fun ρ w h => by simp [execOp, go_sem, h]) (fun _ => rfl)
 ·exact lG 2 2 hp gqi (mq 0 rfl) zAc (sqi 4) fun v w h => zAk h
 ·exact zAn (F := (Fq.num b).P) hp fo gqi (zBo) (sqi 5) (fun v w h => exK (zBl h) B2.out (by omega))
 ·exact zAl (b := b1) (off := 0) (off' := 0) hp fo gqi (sqo 1) (fun ρ w h => by simp [execOp, go_sem, h]) (fun _ => rfl)
 ·exact lG 0 2 hp gqi (mq 0 rfl) zAc (sqi 7) fun v w h => zAk h
 ·exact zAx (F := (Fq.num (Int.natAbs b : Int)).P) (G := (Fq.num a).P) hp fo gqi (zA2) (sqi 6) (sqi 8) (fun v v' w h h' => zA3 h h')
 ·exact zAf (F := fun v _ => v = .int .i64 (cmpI (Int.natAbs b : Int) a)) hp fo gqi (sqi 9) (fun ρ w hc h => ⟨.bool false, by simp [execOp, go_sem, h, hc, T1.out], rfl⟩)
 ·exact zAg (F := fun v _ => v = .bool false) (G := fun v _ => v = .bool false) hp fo tv (sqi 3) (sqi 10) (fun ρ w hc h h' => ⟨_, by simp [execOp, go_sem, h, h'], rfl⟩)
 ·exact zAa hp fo tv (sqi 11)
 ·exact zAl (b := b1) (off := 0) (off' := 0) hp fo gqi (sqo 1) (fun ρ w h => by simp [execOp, go_sem, h]) (fun _ => rfl)
 ·exact lG 0 2 hp gqi (mq 0 rfl) zAc (sqi 13) fun v w h => zAk h
 ·exact zAl (b := b1) (off := 0) (off' := 4) hp fo gqi (sqo 1) (fun ρ w h => by simp [execOp, go_sem, h]) (fun _ => rfl)
 ·exact lG 4 2 hp gqi (mq 0 rfl) zAc (sqi 15) fun v w h => zAk h
 ·exact zAx (F := (Fq.num a).P) (G := (Fq.num c).P) hp fo gqi (zA2) (sqi 14) (sqi 16) (fun v v' w h h' => zA3 h h')
 ·exact zAf (F := fun v _ => v = .int .i64 (cmpI a c)) hp fo gqi (sqi 17) (fun ρ w hc h => ⟨.bool false, by simp [execOp, go_sem, h, hc, T2.out], rfl⟩)
 ·exact zAg (F := fun v _ => v = .bool false) (G := fun v _ => v = .bool false) hp fo tv (sqi 12) (sqi 18) (fun ρ w hc h h' => ⟨_, by simp [execOp, go_sem, h, h'], rfl⟩)
 intro L vs w3 nb hL hC hn E3
 have e1 := wXi hC 1
 have e2 := wXi hC 2
 have e3 := wXi hC 3
 have e4 := wXi hC 4
 have e7 := wXi hC 7
 have e9 := wXi hC 9
 have e10 := wXi hC 10
 have e11 := wXi hC 11
 have e12 := wXi hC 12
 have e13 := wXi hC 13
 have e15 := wXi hC 15
 have e17 := wXi hC 17
 have e18 := wXi hC 18
 have e19 := wXi hC 19
 have E := E3; try simp only [LM, zAd] at E
 rw [zAe hL]
 simp only [SP, Nat.zero_add, Nat.reduceAdd]
 rw [e1, e2, e3, e4, e7, e9, e10, e11, e12, e13, e15, e17, e18, e19]
 generalize vs 0 = u3_0
 generalize vs 5 = u3_5
 generalize vs 6 = u3_6
 generalize vs 8 = u3_8
 generalize vs 14 = u3_14
 generalize vs 16 = u3_16
 clear e1 e2 e3 e4 e7 e9 e10 e11 e12 e13 e15 e17 e18 e19 hC hn E3 hL vs L nb
 go_upto_region 3 with (fail)
 refine rg [ip b1 2, Fq.num b, Fq.num (Int.natAbs b : Int), ip b1 0, Fq.num a, Fq.is (.int .i64 (cmpI (Int.natAbs b : Int) a)), yF, yF, ip b1 0, Fq.num a, ip b1 4, Fq.num c, Fq.is (.int .i64 (cmpI a c)), yF, yF, yF] [none] [] E (fun hp => ⟨?_, ?_, ?_, ?_, ?_, ?_, ?_, ?_, ?_, ?_, ?_, ?_, ?_, ?_, ?_, ?_, tv⟩) ?_
 ·exact qa b1 0 2 hp (sqo 1)
 ·exact lN 2 2 hp (mq 0 rfl) zAc (sqi 0)
 ·exact wXa (Fq.num b) hp zBo (sqi 1) fun v w h => exK (zBl h) B2.out (by omega)
 ·exact qa b1 0 0 hp (sqo 1)
 ·exact lN 0 2 hp (mq 0 rfl) zAc (sqi 3)
 ·exact wXb (Fq.num (Int.natAbs b : Int)) (Fq.num a) hp zA2 (sqi 2) (sqi 4) fun v v' w h h' => zA3 h h'
 ·exact zAf (F := fun v _ => v = .int .i64 (cmpI (Int.natAbs b : Int) a)) hp fo tv (sqi 5) (fun ρ w hc h => ⟨.bool false, by simp [execOp, go_sem, h, hc, T3.out], rfl⟩)
 ·exact zAa hp fo tv (sqi 6)
 ·exact zAl (b := b1) (off := 0) (off' := 0) hp fo gqi (sqo 1) (fun ρ w h => by simp [execOp, go_sem, h]) (fun _ => rfl)
 ·exact lG 0 2 hp gqi (mq 0 rfl) zAc (sqi 8) fun v w h => zAk h
 ·exact zAl (b := b1) (off := 0) (off' := 4) hp fo gqi (sqo 1) (fun ρ w h => by simp [execOp, go_sem, h]) (fun _ => rfl)
 ·exact lG 4 2 hp gqi (mq 0 rfl) zAc (sqi 10) fun v w h => zAk h
 ·exact zAx (F := (Fq.num a).P) (G := (Fq.num c).P) hp fo gqi (zA2) (sqi 9) (sqi 11) (fun v v' w h h' => zA3 h h')
 ·exact zAf (F := fun v _ => v = .int .i64 (cmpI a c)) hp fo gqi (sqi 12) (fun ρ w hc h => ⟨.bool false, by simp [execOp, go_sem, h, hc, T4.out], rfl⟩)
 ·exact zAg (F := fun v _ => v = .bool false) (G := fun v _ => v = .bool false) hp fo tv (sqi 7) (sqi 13) (fun ρ w hc h h' => ⟨_, by simp [execOp, go_sem, h, h'], rfl⟩)
 ·exact zAh hp fo tv (sqi 14)
 intro L vs w4 nb hL hC hn E4
 have e0 := wXi hC 0
 have e3 := wXi hC 3
 have e5 := wXi hC 5
 have e6 := wXi hC 6
 have e7 := wXi hC 7
 have e8 := wXi hC 8
 have e10 := wXi hC 10
 have e12 := wXi hC 12
 have e13 := wXi hC 13
 have e14 := wXi hC 14
 have e15 := wXi hC 15
 have E := E4; try simp only [LM, zAd] at E
 rw [zAe hL]
 simp only [SP, Nat.zero_add, Nat.reduceAdd]
 rw [e0, e3, e5, e6, e7, e8, e10, e12, e13, e14, e15]
 generalize vs 1 = u4_1
 generalize vs 2 = u4_2
 generalize vs 4 = u4_4
 generalize vs 9 = u4_9
 generalize vs 11 = u4_11
 clear e0 e3 e5 e6 e7 e8 e10 e12 e13 e14 e15 hC hn E4 hL vs L nb
 go_upto_region 4 with (fail)
 refine rg [yF, yT, yT, Fq.is (undef), Fq.is (undef), Fq.is (undef), Fq.is (undef), yT, yT] [none] [] E (fun hp => ⟨?_, ?_, ?_, ?_, ?_, ?_, ?_, ?_, ?_, tv⟩) ?_
 ·exact zAa hp fo tv (sqo 3)
 ·exact zAf (F := fun v _ => v = .bool false) hp fo tv (sqi 0) (fun ρ w _ h => ⟨.bool true, by simp [execOp, go_sem, h], rfl⟩)
 ·exact zAa hp fo tv (sqi 1)
 ·exact zAi hp fo rfl gqi (fun _ => rfl)
 ·exact zAi hp fo rfl gqi (fun _ => rfl)
 ·exact zAi hp fo rfl gqi (fun _ => rfl)
 ·exact zAi hp fo rfl gqi (fun _ => rfl)
 ·exact zAg (F := fun v _ => v = .bool true) (G := fun v _ => v = .bool true) hp fo tv (sqi 2) (zAj (fun _ => rfl)) (fun ρ w hc h h' => ⟨_, by simp [execOp, go_sem, h, h'], rfl⟩)
 ·exact zAh hp fo tv (sqi 7)
 intro L vs w5 nb hL hC hn E5
 have e0 := wXi hC 0
 have e1 := wXi hC 1
 have e2 := wXi hC 2
 have e3 := wXi hC 3
 have e4 := wXi hC 4
 have e5 := wXi hC 5
 have e6 := wXi hC 6
 have e7 := wXi hC 7
 have e8 := wXi hC 8
 have E := E5; try simp only [LM, zAd] at E
 rw [zAe hL]
 simp only [SP, Nat.zero_add, Nat.reduceAdd]
 rw [e0, e1, e2, e3, e4, e5, e6, e7, e8]
 clear e0 e1 e2 e3 e4 e5 e6 e7 e8 hC hn E5 hL vs L nb
 clear HD T1 T2 T3 T4 T5
 clear B2 ha hb hc
 go_wp2
 refine bodyPost_ret (v := .bool true) ?_ rfl ⟨_, rfl, E.below, rfl⟩
 simp [results, Tryz.results23, go_sem]

set_option maxRecDepth 100000 in
set_option maxHeartbeats 4000000 in
theorem zN4 {w : World} {v : Value} {a b c : Int} (h : (Fq.st [.n a, .n b, .n c]).P v w) (ha : ab a < pw 15) (hb : ab b < pw 15) (hc : ab c < pw 15) (hdf : dfB a b c = true) (hx : ¬ a < (Int.natAbs b : Int)) (hy : a ≤ c) (k0 : ¬ (Int.natAbs b : Int) = a) (k1 : a = c) (k2 : ¬ 0 ≤ b) {t : Bool} (ht : (dfB a b c && redB a b c) = t) :
  Calls Tryz.prog 23 #[v] w fun e w' => ∃ v', e = .returned v' ∧ Below w.heap.size w w' ∧ v' = .bool t := by
 replace ha := hidd ha
 replace hb := hidd hb
 replace hc := hidd hc
 have ht2 : t = false := ht.symm.trans (by rw [hdf, Bool.true_and]; unfold redB; exact decide_eq_false (by omega))
 subst ht2
 clear ht
 have HD := hidd hdf
 clear hdf
 have T1 : Hid (¬ 0 < cmpI (Int.natAbs b : Int) a) := fun e => by have := cmpIqgt.1 e; omega
 have T2 : Hid (¬ 0 < cmpI a c) := fun e => by have := cmpIqgt.1 e; omega
 have T3 : Hid (¬ cmpI (Int.natAbs b : Int) a = 0) := fun e => k0 (cmpIq0.1 e)
 have T4 : Hid (cmpI a c = 0) := cmpIq0.2 k1
 have T5 : Hid (¬ 0 ≤ cmpI b 0) := by have := cmpIqlt.2 (show b < 0 by omega); show ¬ _ ≤ _; omega
 clear k0 k1 k2
 clear hx hy
 obtain ⟨_, rfl, hf0⟩ := h
 have hF0 := hf0
 obtain ⟨y0_p0, y0_q0, _, rfl, _y0_n0, y0_p1, y0_q1, _, rfl, _y0_n1, y0_p2, y0_q2, _, rfl, _y0_n2, rfl⟩ := hf0
 obtain ⟨w1, b1, hw1, hb1, hs1, E⟩ := gS w 33 hF0
 go_enter Tryz.func23, Tryz.ntmps23
 go_upto_region 1 with (fail)
 rw [← hw1]
 rw [← hb1]
 clear hw1 hb1 hs1
 have B2 : Hid (ab ((Int.natAbs b : Int)) < pw 15) := zBg hb.out
 refine rg [Fq.st [.n a, .n b, .n c], yT, yF, yF, ip b1 2, Fq.num b, Fq.num (Int.natAbs b : Int), ip b1 0, Fq.num a, Fq.is (.int .i64 (cmpI (Int.natAbs b : Int) a)), yF, yF, yF, ip b1 0, Fq.num a, ip b1 4, Fq.num c, Fq.is (.int .i64 (cmpI a c)), yF, yF] [none] [] E (fun hp => ⟨?_, ?_, ?_, ?_, ?_, ?_, ?_, ?_, ?_, ?_, ?_, ?_, ?_, ?_, ?_, ?_, ?_, ?_, ?_, ?_, tv⟩) ?_
 ·exact lS 0 6 hp (mq 0 rfl) zAm (sqo 1)
 ·exact wXa (Fq.st [.n a, .n b, .n c]) hp zDd (sqi 0) fun v w h => zDe h ha.out hb.out hc.out HD.out
 ·exact zAf (F := fun v _ => v = .bool true) hp fo tv (sqi 1) (fun ρ w _ h => ⟨.bool false, by simp [execOp, go_sem, h], rfl⟩)
 ·exact zAa hp fo tv (sqi 2)
 ·exact zAl (b := b1) (off := 0) (off' := 2) hp fo gqi (sqo 1) (fun ρ w h => by simp [execOp, go_sem, h]) (fun _ => rfl)
 ·exact lG 2 2 hp gqi (mq 0 rfl) zAc (sqi 4) fun v w h => zAk h
 ·exact zAn (F := (Fq.num b).P) hp fo gqi (zBo) (sqi 5) (fun v w h => exK (zBl h) B2.out (by omega))
 ·exact zAl (b := b1) (off := 0) (off' := 0) hp fo gqi (sqo 1) (fun ρ w h => by simp [execOp, go_sem, h]) (fun _ => rfl)
 ·exact lG 0 2 hp gqi (mq 0 rfl) zAc (sqi 7) fun v w h => zAk h
 ·exact zAx (F := (Fq.num (Int.natAbs b : Int)).P) (G := (Fq.num a).P) hp fo gqi (zA2) (sqi 6) (sqi 8) (fun v v' w h h' => zA3 h h')
 ·exact zAf (F := fun v _ => v = .int .i64 (cmpI (Int.natAbs b : Int) a)) hp fo gqi (sqi 9) (fun ρ w hc h => ⟨.bool false, by simp [execOp, go_sem, h, hc, T1.out], rfl⟩)
 ·exact zAg (F := fun v _ => v = .bool false) (G := fun v _ => v = .bool false) hp fo tv (sqi 3) (sqi 10) (fun ρ w hc h h' => ⟨_, by simp [execOp, go_sem, h, h'], rfl⟩)
 ·exact zAa hp fo tv (sqi 11)
 ·exact zAl (b := b1) (off := 0) (off' := 0) hp fo gqi (sqo 1) (fun ρ w h => by simp [execOp, go_sem, h]) (fun _ => rfl)
 ·exact lG 0 2 hp gqi (mq 0 rfl) zAc (sqi 13) fun v w h => zAk h
 ·exact zAl (b := b1) (off := 0) (off' := 4) hp fo gqi (sqo 1) (fun ρ w h => by simp [execOp, go_sem, h]) (fun _ => rfl)
 ·exact lG 4 2 hp gqi (mq 0 rfl) zAc (sqi 15) fun v w h => zAk h
 ·exact zAx (F := (Fq.num a).P) (G := (Fq.num c).P) hp fo gqi (zA2) (sqi 14) (sqi 16) (fun v v' w h h' => zA3 h h')
 ·exact zAf (F := fun v _ => v = .int .i64 (cmpI a c)) hp fo gqi (sqi 17) (fun ρ w hc h => ⟨.bool false, by simp [execOp, go_sem, h, hc, T2.out], rfl⟩)
 ·exact zAg (F := fun v _ => v = .bool false) (G := fun v _ => v = .bool false) hp fo tv (sqi 12) (sqi 18) (fun ρ w hc h h' => ⟨_, by simp [execOp, go_sem, h, h'], rfl⟩)
 intro L vs w3 nb hL hC hn E3
 have e1 := wXi hC 1
 have e2 := wXi hC 2
 have e3 := wXi hC 3
 have e4 := wXi hC 4
 have e7 := wXi hC 7
 have e9 := wXi hC 9
 have e10 := wXi hC 10
 have e11 := wXi hC 11
 have e12 := wXi hC 12
 have e13 := wXi hC 13
 have e15 := wXi hC 15
 have e17 := wXi hC 17
 have e18 := wXi hC 18
 have e19 := wXi hC 19
 have E := E3; try simp only [LM, zAd] at E
 rw [zAe hL]
 simp only [SP, Nat.zero_add, Nat.reduceAdd]
 rw [e1, e2, e3, e4, e7, e9, e10, e11, e12, e13, e15, e17, e18, e19]
 generalize vs 0 = u3_0
 generalize vs 5 = u3_5
 generalize vs 6 = u3_6
 generalize vs 8 = u3_8
 generalize vs 14 = u3_14
 generalize vs 16 = u3_16
 clear e1 e2 e3 e4 e7 e9 e10 e11 e12 e13 e15 e17 e18 e19 hC hn E3 hL vs L nb
 go_upto_region 3 with (fail)
 refine rg [ip b1 2, Fq.num b, Fq.num (Int.natAbs b : Int), ip b1 0, Fq.num a, Fq.is (.int .i64 (cmpI (Int.natAbs b : Int) a)), yF, yF, ip b1 0, Fq.num a, ip b1 4, Fq.num c, Fq.is (.int .i64 (cmpI a c)), yT, yT, yT] [none] [] E (fun hp => ⟨?_, ?_, ?_, ?_, ?_, ?_, ?_, ?_, ?_, ?_, ?_, ?_, ?_, ?_, ?_, ?_, tv⟩) ?_
 ·exact qa b1 0 2 hp (sqo 1)
 ·exact lN 2 2 hp (mq 0 rfl) zAc (sqi 0)
 ·exact wXa (Fq.num b) hp zBo (sqi 1) fun v w h => exK (zBl h) B2.out (by omega)
 ·exact qa b1 0 0 hp (sqo 1)
 ·exact lN 0 2 hp (mq 0 rfl) zAc (sqi 3)
 ·exact wXb (Fq.num (Int.natAbs b : Int)) (Fq.num a) hp zA2 (sqi 2) (sqi 4) fun v v' w h h' => zA3 h h'
 ·exact zAf (F := fun v _ => v = .int .i64 (cmpI (Int.natAbs b : Int) a)) hp fo tv (sqi 5) (fun ρ w hc h => ⟨.bool false, by simp [execOp, go_sem, h, hc, T3.out], rfl⟩)
 ·exact zAa hp fo tv (sqi 6)
 ·exact zAl (b := b1) (off := 0) (off' := 0) hp fo gqi (sqo 1) (fun ρ w h => by simp [execOp, go_sem, h]) (fun _ => rfl)
 ·exact lG 0 2 hp gqi (mq 0 rfl) zAc (sqi 8) fun v w h => zAk h
 ·exact zAl (b := b1) (off := 0) (off' := 4) hp fo gqi (sqo 1) (fun ρ w h => by simp [execOp, go_sem, h]) (fun _ => rfl)
 ·exact lG 4 2 hp gqi (mq 0 rfl) zAc (sqi 10) fun v w h => zAk h
 ·exact zAx (F := (Fq.num a).P) (G := (Fq.num c).P) hp fo gqi (zA2) (sqi 9) (sqi 11) (fun v v' w h h' => zA3 h h')
 ·exact zAf (F := fun v _ => v = .int .i64 (cmpI a c)) hp fo gqi (sqi 12) (fun ρ w hc h => ⟨.bool true, by simp [execOp, go_sem, h, hc, T4.out], rfl⟩)
 ·exact zAg (F := fun v _ => v = .bool false) (G := fun v _ => v = .bool true) hp fo tv (sqi 7) (sqi 13) (fun ρ w hc h h' => ⟨_, by simp [execOp, go_sem, h, h'], rfl⟩)
 ·exact zAh hp fo tv (sqi 14)
 intro L vs w4 nb hL hC hn E4
 have e0 := wXi hC 0
 have e3 := wXi hC 3
 have e5 := wXi hC 5
 have e6 := wXi hC 6
 have e7 := wXi hC 7
 have e8 := wXi hC 8
 have e10 := wXi hC 10
 have e12 := wXi hC 12
 have e13 := wXi hC 13
 have e14 := wXi hC 14
 have e15 := wXi hC 15
 have E := E4; try simp only [LM, zAd] at E
 rw [zAe hL]
 simp only [SP, Nat.zero_add, Nat.reduceAdd]
 rw [e0, e3, e5, e6, e7, e8, e10, e12, e13, e14, e15]
 generalize vs 1 = u4_1
 generalize vs 2 = u4_2
 generalize vs 4 = u4_4
 generalize vs 9 = u4_9
 generalize vs 11 = u4_11
 clear e0 e3 e5 e6 e7 e8 e10 e12 e13 e14 e15 hC hn E4 hL vs L nb
 go_upto_region 4 with (fail)
 refine rg [yT, yF, yF, ip b1 2, Fq.num b, Fq.is (.int .i64 (cmpI b 0)), yF, yF, yF] [none] [] E (fun hp => ⟨?_, ?_, ?_, ?_, ?_, ?_, ?_, ?_, ?_, tv⟩) ?_
 ·exact zAa hp fo tv (sqo 3)
 ·exact zAf (F := fun v _ => v = .bool true) hp fo tv (sqi 0) (fun ρ w _ h => ⟨.bool false, by simp [execOp, go_sem, h], rfl⟩)
 ·exact zAa hp fo tv (sqi 1)
 ·exact zAl (b := b1) (off := 0) (off' := 2) hp fo gqi (sqo 1) (fun ρ w h => by simp [execOp, go_sem, h]) (fun _ => rfl)
 ·exact lG 2 2 hp gqi (mq 0 rfl) zAc (sqi 3) fun v w h => zAk h
 ·exact zAn (F := (Fq.num b).P) hp fo gqi (zB3) (sqi 4) (fun v w h => zB4 h)
 ·exact zAf (F := fun v _ => v = .int .i64 (cmpI b 0)) hp fo gqi (sqi 5) (fun ρ w hc h => ⟨.bool false, by simp [execOp, go_sem, h, hc, T5.out], rfl⟩)
 ·exact zAg (F := fun v _ => v = .bool false) (G := fun v _ => v = .bool false) hp fo tv (sqi 2) (sqi 6) (fun ρ w hc h h' => ⟨_, by simp [execOp, go_sem, h, h'], rfl⟩)
 ·exact zAh hp fo tv (sqi 7)
 intro L vs w5 nb hL hC hn E5
 have e0 := wXi hC 0
 have e1 := wXi hC 1
 have e2 := wXi hC 2
 have e3 := wXi hC 3
 have e5 := wXi hC 5
 have e6 := wXi hC 6
 have e7 := wXi hC 7
 have e8 := wXi hC 8
 have E := E5; try simp only [LM, zAd] at E
 rw [zAe hL]
 simp only [SP, Nat.zero_add, Nat.reduceAdd]
 rw [e0, e1, e2, e3, e5, e6, e7, e8]
 generalize vs 4 = u5_4
 clear e0 e1 e2 e3 e5 e6 e7 e8 hC hn E5 hL vs L nb
 clear HD T1 T2 T3 T4 T5
 clear B2 ha hb hc
 go_wp2
 refine bodyPost_ret (v := .bool false) ?_ rfl ⟨_, rfl, E.below, rfl⟩
 simp [results, Tryz.results23, go_sem]

set_option maxRecDepth 100000 in
set_option maxHeartbeats 4000000 in
theorem zN5 {w : World} {v : Value} {a b c : Int} (h : (Fq.st [.n a, .n b, .n c]).P v w) (ha : ab a < pw 15) (hb : ab b < pw 15) (hc : ab c < pw 15) (hdf : dfB a b c = true) (hx : ¬ a < (Int.natAbs b : Int)) (hy : a ≤ c) (k0 : ¬ (Int.natAbs b : Int) = a) (k1 : a = c) (k2 : 0 ≤ b) {t : Bool} (ht : (dfB a b c && redB a b c) = t) :
  Calls Tryz.prog 23 #[v] w fun e w' => ∃ v', e = .returned v' ∧ Below w.heap.size w w' ∧ v' = .bool t := by
 replace ha := hidd ha
 replace hb := hidd hb
 replace hc := hidd hc
 have ht2 : t = true := ht.symm.trans (by rw [hdf, Bool.true_and]; unfold redB; exact decide_eq_true (by omega))
 subst ht2
 clear ht
 have HD := hidd hdf
 clear hdf
 have T1 : Hid (¬ 0 < cmpI (Int.natAbs b : Int) a) := fun e => by have := cmpIqgt.1 e; omega
 have T2 : Hid (¬ 0 < cmpI a c) := fun e => by have := cmpIqgt.1 e; omega
 have T3 : Hid (¬ cmpI (Int.natAbs b : Int) a = 0) := fun e => k0 (cmpIq0.1 e)
 have T4 : Hid (cmpI a c = 0) := cmpIq0.2 k1
 have T5 : Hid (0 ≤ cmpI b 0) := by have := mt cmpIqlt.1 (show ¬ b < 0 by omega); show _ ≤ _; omega
 clear k0 k1 k2
 clear hx hy
 obtain ⟨_, rfl, hf0⟩ := h
 have hF0 := hf0
 obtain ⟨y0_p0, y0_q0, _, rfl, _y0_n0, y0_p1, y0_q1, _, rfl, _y0_n1, y0_p2, y0_q2, _, rfl, _y0_n2, rfl⟩ := hf0
 obtain ⟨w1, b1, hw1, hb1, hs1, E⟩ := gS w 33 hF0
 go_enter Tryz.func23, Tryz.ntmps23
 go_upto_region 1 with (fail)
 rw [← hw1]
 rw [← hb1]
 clear hw1 hb1 hs1
 have B2 : Hid (ab ((Int.natAbs b : Int)) < pw 15) := zBg hb.out
 refine rg [Fq.st [.n a, .n b, .n c], yT, yF, yF, ip b1 2, Fq.num b, Fq.num (Int.natAbs b : Int), ip b1 0, Fq.num a, Fq.is (.int .i64 (cmpI (Int.natAbs b : Int) a)), yF, yF, yF, ip b1 0, Fq.num a, ip b1 4, Fq.num c, Fq.is (.int .i64 (cmpI a c)), yF, yF] [none] [] E (fun hp => ⟨?_, ?_, ?_, ?_, ?_, ?_, ?_, ?_, ?_, ?_, ?_, ?_, ?_, ?_, ?_, ?_, ?_, ?_, ?_, ?_, tv⟩) ?_
 ·exact lS 0 6 hp (mq 0 rfl) zAm (sqo 1)
 ·exact wXa (Fq.st [.n a, .n b, .n c]) hp zDd (sqi 0) fun v w h => zDe h ha.out hb.out hc.out HD.out
 ·exact zAf (F := fun v _ => v = .bool true) hp fo tv (sqi 1) (fun ρ w _ h => ⟨.bool false, by simp [execOp, go_sem, h], rfl⟩)
 ·exact zAa hp fo tv (sqi 2)
 ·exact zAl (b := b1) (off := 0) (off' := 2) hp fo gqi (sqo 1) (fun ρ w h => by simp [execOp, go_sem, h]) (fun _ => rfl)
 ·exact lG 2 2 hp gqi (mq 0 rfl) zAc (sqi 4) fun v w h => zAk h
 ·exact zAn (F := (Fq.num b).P) hp fo gqi (zBo) (sqi 5) (fun v w h => exK (zBl h) B2.out (by omega))
 ·exact zAl (b := b1) (off := 0) (off' := 0) hp fo gqi (sqo 1) (fun ρ w h => by simp [execOp, go_sem, h]) (fun _ => rfl)
 ·exact lG 0 2 hp gqi (mq 0 rfl) zAc (sqi 7) fun v w h => zAk h
 ·exact zAx (F := (Fq.num (Int.natAbs b : Int)).P) (G := (Fq.num a).P) hp fo gqi (zA2) (sqi 6) (sqi 8) (fun v v' w h h' => zA3 h h')
 ·exact zAf (F := fun v _ => v = .int .i64 (cmpI (Int.natAbs b : Int) a)) hp fo gqi (sqi 9) (fun ρ w hc h => ⟨.bool false, by simp [execOp, go_sem, h, hc, T1.out], rfl⟩)
 ·exact zAg (F := fun v _ => v = .bool false) (G := fun v _ => v = .bool false) hp fo tv (sqi 3) (sqi 10) (fun ρ w hc h h' => ⟨_, by simp [execOp, go_sem, h, h'], rfl⟩)
 ·exact zAa hp fo tv (sqi 11)
 ·exact zAl (b := b1) (off := 0) (off' := 0) hp fo gqi (sqo 1) (fun ρ w h => by simp [execOp, go_sem, h]) (fun _ => rfl)
 ·exact lG 0 2 hp gqi (mq 0 rfl) zAc (sqi 13) fun v w h => zAk h
 ·exact zAl (b := b1) (off := 0) (off' := 4) hp fo gqi (sqo 1) (fun ρ w h => by simp [execOp, go_sem, h]) (fun _ => rfl)
 ·exact lG 4 2 hp gqi (mq 0 rfl) zAc (sqi 15) fun v w h => zAk h
 ·exact zAx (F := (Fq.num a).P) (G := (Fq.num c).P) hp fo gqi (zA2) (sqi 14) (sqi 16) (fun v v' w h h' => zA3 h h')
 ·exact zAf (F := fun v _ => v = .int .i64 (cmpI a c)) hp fo gqi (sqi 17) (fun ρ w hc h => ⟨.bool false, by simp [execOp, go_sem, h, hc, T2.out], rfl⟩)
 ·exact zAg (F := fun v _ => v = .bool false) (G := fun v _ => v = .bool false) hp fo tv (sqi 12) (sqi 18) (fun ρ w hc h h' => ⟨_, by simp [execOp, go_sem, h, h'], rfl⟩)
 intro L vs w3 nb hL hC hn E3
 have e1 := wXi hC 1
 have e2 := wXi hC 2
 have e3 := wXi hC 3
 have e4 := wXi hC 4
 have e7 := wXi hC 7
 have e9 := wXi hC 9
 have e10 := wXi hC 10
 have e11 := wXi hC 11
 have e12 := wXi hC 12
 have e13 := wXi hC 13
 have e15 := wXi hC 15
 have e17 := wXi hC 17
 have e18 := wXi hC 18
 have e19 := wXi hC 19
 have E := E3; try simp only [LM, zAd] at E
 rw [zAe hL]
 simp only [SP, Nat.zero_add, Nat.reduceAdd]
 rw [e1, e2, e3, e4, e7, e9, e10, e11, e12, e13, e15, e17, e18, e19]
 generalize vs 0 = u3_0
 generalize vs 5 = u3_5
 generalize vs 6 = u3_6
 generalize vs 8 = u3_8
 generalize vs 14 = u3_14
 generalize vs 16 = u3_16
 clear e1 e2 e3 e4 e7 e9 e10 e11 e12 e13 e15 e17 e18 e19 hC hn E3 hL vs L nb
 go_upto_region 3 with (fail)
 refine rg [ip b1 2, Fq.num b, Fq.num (Int.natAbs b : Int), ip b1 0, Fq.num a, Fq.is (.int .i64 (cmpI (Int.natAbs b : Int) a)), yF, yF, ip b1 0, Fq.num a, ip b1 4, Fq.num c, Fq.is (.int .i64 (cmpI a c)), yT, yT, yT] [none] [] E (fun hp => ⟨?_, ?_, ?_, ?_, ?_, ?_, ?_, ?_, ?_, ?_, ?_, ?_, ?_, ?_, ?_, ?_, tv⟩) ?_
 ·exact qa b1 0 2 hp (sqo 1)
 ·exact lN 2 2 hp (mq 0 rfl) zAc (sqi 0)
 ·exact wXa (Fq.num b) hp zBo (sqi 1) fun v w h => exK (zBl h) B2.out (by omega)
 ·exact qa b1 0 0 hp (sqo 1)
 ·exact lN 0 2 hp (mq 0 rfl) zAc (sqi 3)
 ·exact wXb (Fq.num (Int.natAbs b : Int)) (Fq.num a) hp zA2 (sqi 2) (sqi 4) fun v v' w h h' => zA3 h h'
 ·exact zAf (F := fun v _ => v = .int .i64 (cmpI (Int.natAbs b : Int) a)) hp fo tv (sqi 5) (fun ρ w hc h => ⟨.bool false, by simp [execOp, go_sem, h, hc, T3.out], rfl⟩)
 ·exact zAa hp fo tv (sqi 6)
 ·exact zAl (b := b1) (off := 0) (off' := 0) hp fo gqi (sqo 1) (fun ρ w h => by simp [execOp, go_sem, h]) (fun _ => rfl)
 ·exact lG 0 2 hp gqi (mq 0 rfl) zAc (sqi 8) fun v w h => zAk h
 ·exact zAl (b := b1) (off := 0) (off' := 4) hp fo gqi (sqo 1) (fun ρ w h => by simp [execOp, go_sem, h]) (fun _ => rfl)
 ·exact lG 4 2 hp gqi (mq 0 rfl) zAc (sqi 10) fun v w h => zAk h
 ·exact zAx (F := (Fq.num a).P) (G := (Fq.num c).P) hp fo gqi (zA2) (sqi 9) (sqi 11) (fun v v' w h h' => zA3 h h')
 ·exact zAf (F := fun v _ => v = .int .i64 (cmpI a c)) hp fo gqi (sqi 12) (fun ρ w hc h => ⟨.bool true, by simp [execOp, go_sem, h, hc, T4.out], rfl⟩)
 ·exact zAg (F := fun v _ => v = .bool false) (G := fun v _ => v = .bool true) hp fo tv (sqi 7) (sqi 13) (fun ρ w hc h h' => ⟨_, by simp [execOp, go_sem, h, h'], rfl⟩)
 ·exact zAh hp fo tv (sqi 14)
 intro L vs w4 nb hL hC hn E4
 have e0 := wXi hC 0
 have e3 := wXi hC 3
 have e5 := wXi hC 5
 have e6 := wXi hC 6
 have e7 := wXi hC 7
 have e8 := wXi hC 8
 have e10 := wXi hC 10
 have e12 := wXi hC 12
 have e13 := wXi hC 13
 have e14 := wXi hC 14
 have e15 := wXi hC 15
 have E := E4; try simp only [LM, zAd] at E
 rw [zAe hL]
 simp only [SP, Nat.zero_add, Nat.reduceAdd]
 rw [e0, e3, e5, e6, e7, e8, e10, e12, e13, e14, e15]
 generalize vs 1 = u4_1
 generalize vs 2 = u4_2
 generalize vs 4 = u4_4
 generalize vs 9 = u4_9
 generalize vs 11 = u4_11
 clear e0 e3 e5 e6 e7 e8 e10 e12 e13 e14 e15 hC hn E4 hL vs L nb
 go_upto_region 4 with (fail)
 refine rg [yT, yF, yF, ip b1 2, Fq.num b, Fq.is (.int .i64 (cmpI b 0)), yT, yT, yT] [none] [] E (fun hp => ⟨?_, ?_, ?_, ?_, ?_, ?_, ?_, ?_, ?_, tv⟩) ?_
 ·exact zAa hp fo tv (sqo 3)
 ·exact zAf (F := fun v _ => v = .bool true) hp fo tv (sqi 0) (fun ρ w _ h => ⟨.bool false, by simp [execOp, go_sem, h], rfl⟩)
 ·exact zAa hp fo tv (sqi 1)
 ·exact zAl (b := b1) (off := 0) (off' := 2) hp fo gqi (sqo 1) (fun ρ w h => by simp [execOp, go_sem, h]) (fun _ => rfl)
 ·exact lG 2 2 hp gqi (mq 0 rfl) zAc (sqi 3) fun v w h => zAk h
 ·exact zAn (F := (Fq.num b).P) hp fo gqi (zB3) (sqi 4) (fun v w h => zB4 h)
 ·exact zAf (F := fun v _ => v = .int .i64 (cmpI b 0)) hp fo gqi (sqi 5) (fun ρ w hc h => ⟨.bool true, by simp [execOp, go_sem, h, hc, T5.out], rfl⟩)
 ·exact zAg (F := fun v _ => v = .bool false) (G := fun v _ => v = .bool true) hp fo tv (sqi 2) (sqi 6) (fun ρ w hc h h' => ⟨_, by simp [execOp, go_sem, h, h'], rfl⟩)
 ·exact zAh hp fo tv (sqi 7)
 intro L vs w5 nb hL hC hn E5
 have e0 := wXi hC 0
 have e1 := wXi hC 1
 have e2 := wXi hC 2
 have e3 := wXi hC 3
 have e5 := wXi hC 5
 have e6 := wXi hC 6
 have e7 := wXi hC 7
 have e8 := wXi hC 8
 have E := E5; try simp only [LM, zAd] at E
 rw [zAe hL]
 simp only [SP, Nat.zero_add, Nat.reduceAdd]
 rw [e0, e1, e2, e3, e5, e6, e7, e8]
 generalize vs 4 = u5_4
 clear e0 e1 e2 e3 e5 e6 e7 e8 hC hn E5 hL vs L nb
 clear HD T1 T2 T3 T4 T5
 clear B2 ha hb hc
 go_wp2
 refine bodyPost_ret (v := .bool true) ?_ rfl ⟨_, rfl, E.below, rfl⟩
 simp [results, Tryz.results23, go_sem]

set_option maxRecDepth 100000 in
set_option maxHeartbeats 4000000 in
theorem zN6 {w : World} {v : Value} {a b c : Int} (h : (Fq.st [.n a, .n b, .n c]).P v w) (ha : ab a < pw 15) (hb : ab b < pw 15) (hc : ab c < pw 15) (hdf : dfB a b c = true) (hx : ¬ a < (Int.natAbs b : Int)) (hy : a ≤ c) (k0 : (Int.natAbs b : Int) = a) (k1 : ¬ a = c) (k2 : ¬ 0 ≤ b) {t : Bool} (ht : (dfB a b c && redB a b c) = t) :
  Calls Tryz.prog 23 #[v] w fun e w' => ∃ v', e = .returned v' ∧ Below w.heap.size w w' ∧ v' = .bool t := by
 replace ha := hidd ha
 replace hb := hidd hb
 replace hc := hidd hc
 have ht2 : t = false := ht.symm.trans (by rw [hdf, Bool.true_and]; unfold redB; exact decide_eq_false (by omega))
 subst ht2
 clear ht
 have HD := hidd hdf
 clear hdf
 have T1 : Hid (¬ 0 < cmpI (Int.natAbs b : Int) a) := fun e => by have := cmpIqgt.1 e; omega
 have T2 : Hid (¬ 0 < cmpI a c) := fun e => by have := cmpIqgt.1 e; omega
 have T3 : Hid (cmpI (Int.natAbs b : Int) a = 0) := cmpIq0.2 k0
 have T4 : Hid (¬ cmpI a c = 0) := fun e => k1 (cmpIq0.1 e)
 have T5 : Hid (¬ 0 ≤ cmpI b 0) := by have := cmpIqlt.2 (show b < 0 by omega); show ¬ _ ≤ _; omega
 clear k0 k1 k2
 clear hx hy
 obtain ⟨_, rfl, hf0⟩ := h
 have hF0 := hf0
 obtain ⟨y0_p0, y0_q0, _, rfl, _y0_n0, y0_p1, y0_q1, _, rfl, _y0_n1, y0_p2, y0_q2, _, rfl, _y0_n2, rfl⟩ := hf0
 obtain ⟨w1, b1, hw1, hb1, hs1, E⟩ := gS w 33 hF0
 go_enter Tryz.func23, Tryz.ntmps23
 go_upto_region 1 with (fail)
 rw [← hw1]
 rw [← hb1]
 clear hw1 hb1 hs1
 have B2 : Hid (ab ((Int.natAbs b : Int)) < pw 15) := zBg hb.out
 refine rg [Fq.st [.n a, .n b, .n c], yT, yF, yF, ip b1 2, Fq.num b, Fq.num (Int.natAbs b : Int), ip b1 0, Fq.num a, Fq.is (.int .i64 (cmpI (Int.natAbs b : Int) a)), yF, yF, yF, ip b1 0, Fq.num a, ip b1 4, Fq.num c, Fq.is (.int .i64 (cmpI a c)), yF, yF] [none] [] E (fun hp => ⟨?_, ?_, ?_, ?_, ?_, ?_, ?_, ?_, ?_, ?_, ?_, ?_, ?_, ?_, ?_, ?_, ?_, ?_, ?_, ?_, tv⟩) ?_
 ·exact lS 0 6 hp (mq 0 rfl) zAm (sqo 1)
 ·exact wXa (Fq.st [.n a, .n b, .n c]) hp zDd (sqi 0) fun v w h => zDe h ha.out hb.out hc.out HD.out
 ·exact zAf (F := fun v _ => v = .bool true) hp fo tv (sqi 1) (fun ρ w _ h => ⟨.bool false, by simp [execOp, go_sem, h], rfl⟩)
 ·exact zAa hp fo tv (sqi 2)
 ·exact zAl (b := b1) (off := 0) (off' := 2) hp fo gqi (sqo 1) (fun ρ w h => by simp [execOp, go_sem, h]) (fun _ => rfl)
 ·exact lG 2 2 hp gqi (mq 0 rfl) zAc (sqi 4) fun v w h => zAk h
 ·exact zAn (F := (Fq.num b).P) hp fo gqi (zBo) (sqi 5) (fun v w h => exK (zBl h) B2.out (by omega))
 ·exact zAl (b := b1) (off := 0) (off' := 0) hp fo gqi (sqo 1) (fun ρ w h => by simp [execOp, go_sem, h]) (fun _ => rfl)
 ·exact lG 0 2 hp gqi (mq 0 rfl) zAc (sqi 7) fun v w h => zAk h
 ·exact zAx (F := (Fq.num (Int.natAbs b : Int)).P) (G := (Fq.num a).P) hp fo gqi (zA2) (sqi 6) (sqi 8) (fun v v' w h h' => zA3 h h')
 ·exact zAf (F := fun v _ => v = .int .i64 (cmpI (Int.natAbs b : Int) a)) hp fo gqi (sqi 9) (fun ρ w hc h => ⟨.bool false, by simp [execOp, go_sem, h, hc, T1.out], rfl⟩)
 ·exact zAg (F := fun v _ => v = .bool false) (G := fun v _ => v = .bool false) hp fo tv (sqi 3) (sqi 10) (fun ρ w hc h h' => ⟨_, by simp [execOp, go_sem, h, h'], rfl⟩)
 ·exact zAa hp fo tv (sqi 11)
 ·exact zAl (b := b1) (off := 0) (off' := 0) hp fo gqi (sqo 1) (fun ρ w h => by simp [execOp, go_sem, h]) (fun _ => rfl)
 ·exact lG 0 2 hp gqi (mq 0 rfl) zAc (sqi 13) fun v w h => zAk h
 ·exact zAl (b := b1) (off := 0) (off' := 4) hp fo gqi (sqo 1) (fun ρ w h => by simp [execOp, go_sem, h]) (fun _ => rfl)
 ·exact lG 4 2 hp gqi (mq 0 rfl) zAc (sqi 15) fun v w h => zAk h
 ·exact zAx (F := (Fq.num a).P) (G := (Fq.num c).P) hp fo gqi (zA2) (sqi 14) (sqi 16) (fun v v' w h h' => zA3 h h')
 ·exact zAf (F := fun v _ => v = .int .i64 (cmpI a c)) hp fo gqi (sqi 17) (fun ρ w hc h => ⟨.bool false, by simp [execOp, go_sem, h, hc, T2.out], rfl⟩)
 ·exact zAg (F := fun v _ => v = .bool false) (G := fun v _ => v = .bool false) hp fo tv (sqi 12) (sqi 18) (fun ρ w hc h h' => ⟨_, by simp [execOp, go_sem, h, h'], rfl⟩)
 intro L vs w3 nb hL hC hn E3
 have e1 := wXi hC 1
 have e2 := wXi hC 2
 have e3 := wXi hC 3
 have e4 := wXi hC 4
 have e7 := wXi hC 7
 have e9 := wXi hC 9
 have e10 := wXi hC 10
 have e11 := wXi hC 11
 have e12 := wXi hC 12
 have e13 := wXi hC 13
 have e15 := wXi hC 15
 have e17 := wXi hC 17
 have e18 := wXi hC 18
 have e19 := wXi hC 19
 have E := E3; try simp only [LM, zAd] at E
 rw [zAe hL]
 simp only [SP, Nat.zero_add, Nat.reduceAdd]
 rw [e1, e2, e3, e4, e7, e9, e10, e11, e12, e13, e15, e17, e18, e19]
 generalize vs 0 = u3_0
 generalize vs 5 = u3_5
 generalize vs 6 = u3_6
 generalize vs 8 = u3_8
 generalize vs 14 = u3_14
 generalize vs 16 = u3_16
 clear e1 e2 e3 e4 e7 e9 e10 e11 e12 e13 e15 e17 e18 e19 hC hn E3 hL vs L nb
 go_upto_region 3 with (fail)
 refine rg [ip b1 2, Fq.num b, Fq.num (Int.natAbs b : Int), ip b1 0, Fq.num a, Fq.is (.int .i64 (cmpI (Int.natAbs b : Int) a)), yT, yT, Fq.is (undef), Fq.is (undef), Fq.is (undef), Fq.is (undef), Fq.is (undef), Fq.is (undef), yT, yT] [none] [] E (fun hp => ⟨?_, ?_, ?_, ?_, ?_, ?_, ?_, ?_, ?_, ?_, ?_, ?_, ?_, ?_, ?_, ?_, tv⟩) ?_
 ·exact qa b1 0 2 hp (sqo 1)
 ·exact lN 2 2 hp (mq 0 rfl) zAc (sqi 0)
 ·exact wXa (Fq.num b) hp zBo (sqi 1) fun v w h => exK (zBl h) B2.out (by omega)
 ·exact qa b1 0 0 hp (sqo 1)
 ·exact lN 0 2 hp (mq 0 rfl) zAc (sqi 3)
 ·exact wXb (Fq.num (Int.natAbs b : Int)) (Fq.num a) hp zA2 (sqi 2) (sqi 4) fun v v' w h h' => zA3 h h'
 ·exact zAf (F := fun v _ => v = .int .i64 (cmpI (Int.natAbs b : Int) a)) hp fo tv (sqi 5) (fun ρ w hc h => ⟨.bool true, by simp [execOp, go_sem, h, hc, T3.out], rfl⟩)
 ·exact zAa hp fo tv (sqi 6)
 ·exact zAi hp fo rfl gqi (fun _ => rfl)
 ·exact zAi hp fo rfl gqi (fun _ => rfl)
 ·exact zAi hp fo rfl gqi (fun _ => rfl)
 ·exact zAi hp fo rfl gqi (fun _ => rfl)
 ·exact zAi hp fo rfl gqi (fun _ => rfl)
 ·exact zAi hp fo rfl gqi (fun _ => rfl)
 ·exact zAg (F := fun v _ => v = .bool true) (G := fun v _ => v = .bool true) hp fo tv (sqi 7) (zAj (fun _ => rfl)) (fun ρ w hc h h' => ⟨_, by simp [execOp, go_sem, h, h'], rfl⟩)
 ·exact zAh hp fo tv (sqi 14)
 intro L vs w4 nb hL hC hn E4
 have e0 := wXi hC 0
 have e3 := wXi hC 3
 have e5 := wXi hC 5
 have e6 := wXi hC 6
 have e7 := wXi hC 7
 have e8 := wXi hC 8
 have e9 := wXi hC 9
 have e10 := wXi hC 10
 have e11 := wXi hC 11
 have e12 := wXi hC 12
 have e13 := wXi hC 13
 have e14 := wXi hC 14
 have e15 := wXi hC 15
 have E := E4; try simp only [LM, zAd] at E
 rw [zAe hL]
 simp only [SP, Nat.zero_add, Nat.reduceAdd]
 rw [e0, e3, e5, e6, e7, e8, e9, e10, e11, e12, e13, e14, e15]
 generalize vs 1 = u4_1
 generalize vs 2 = u4_2
 generalize vs 4 = u4_4
 clear e0 e3 e5 e6 e7 e8 e9 e10 e11 e12 e13 e14 e15 hC hn E4 hL vs L nb
 go_upto_region 4 with (fail)
 refine rg [yT, yF, yF, ip b1 2, Fq.num b, Fq.is (.int .i64 (cmpI b 0)), yF, yF, yF] [none] [] E (fun hp => ⟨?_, ?_, ?_, ?_, ?_, ?_, ?_, ?_, ?_, tv⟩) ?_
 ·exact zAa hp fo tv (sqo 3)
 ·exact zAf (F := fun v _ => v = .bool true) hp fo tv (sqi 0) (fun ρ w _ h => ⟨.bool false, by simp [execOp, go_sem, h], rfl⟩)
 ·exact zAa hp fo tv (sqi 1)
 ·exact zAl (b := b1) (off := 0) (off' := 2) hp fo gqi (sqo 1) (fun ρ w h => by simp [execOp, go_sem, h]) (fun _ => rfl)
 ·exact lG 2 2 hp gqi (mq 0 rfl) zAc (sqi 3) fun v w h => zAk h
 ·exact zAn (F := (Fq.num b).P) hp fo gqi (zB3) (sqi 4) (fun v w h => zB4 h)
 ·exact zAf (F := fun v _ => v = .int .i64 (cmpI b 0)) hp fo gqi (sqi 5) (fun ρ w hc h => ⟨.bool false, by simp [execOp, go_sem, h, hc, T5.out], rfl⟩)
 ·exact zAg (F := fun v _ => v = .bool false) (G := fun v _ => v = .bool false) hp fo tv (sqi 2) (sqi 6) (fun ρ w hc h h' => ⟨_, by simp [execOp, go_sem, h, h'], rfl⟩)
 ·exact zAh hp fo tv (sqi 7)
 intro L vs w5 nb hL hC hn E5
 have e0 := wXi hC 0
 have e1 := wXi hC 1
 have e2 := wXi hC 2
 have e3 := wXi hC 3
 have e5 := wXi hC 5
 have e6 := wXi hC 6
 have e7 := wXi hC 7
 have e8 := wXi hC 8
 have E := E5; try simp only [LM, zAd] at E
 rw [zAe hL]
 simp only [SP, Nat.zero_add, Nat.reduceAdd]
 rw [e0, e1, e2, e3, e5, e6, e7, e8]
 generalize vs 4 = u5_4
 clear e0 e1 e2 e3 e5 e6 e7 e8 hC hn E5 hL vs L nb
 clear HD T1 T2 T3 T4 T5
 clear B2 ha hb hc
 go_wp2
 refine bodyPost_ret (v := .bool false) ?_ rfl ⟨_, rfl, E.below, rfl⟩
 simp [results, Tryz.results23, go_sem]

set_option maxRecDepth 100000 in
set_option maxHeartbeats 4000000 in
theorem zN7 {w : World} {v : Value} {a b c : Int} (h : (Fq.st [.n a, .n b, .n c]).P v w) (ha : ab a < pw 15) (hb : ab b < pw 15) (hc : ab c < pw 15) (hdf : dfB a b c = true) (hx : ¬ a < (Int.natAbs b : Int)) (hy : a ≤ c) (k0 : (Int.natAbs b : Int) = a) (k1 : ¬ a = c) (k2 : 0 ≤ b) {t : Bool} (ht : (dfB a b c && redB a b c) = t) :
  Calls Tryz.prog 23 #[v] w fun e w' => ∃ v', e = .returned v' ∧ Below w.heap.size w w' ∧ v' = .bool t := by
 replace ha := hidd ha
 replace hb := hidd hb
 replace hc := hidd hc
 have ht2 : t = true := ht.symm.trans (by rw [hdf, Bool.true_and]; unfold redB; exact decide_eq_true (by omega))
 subst ht2
 clear ht
 have HD := hidd hdf
 clear hdf
 have T1 : Hid (¬ 0 < cmpI (Int.natAbs b : Int) a) := fun e => by have := cmpIqgt.1 e; omega
 have T2 : Hid (¬ 0 < cmpI a c) := fun e => by have := cmpIqgt.1 e; omega
 have T3 : Hid (cmpI (Int.natAbs b : Int) a = 0) := cmpIq0.2 k0
 have T4 : Hid (¬ cmpI a c = 0) := fun e => k1 (cmpIq0.1 e)
 have T5 : Hid (0 ≤ cmpI b 0) := by have := mt cmpIqlt.1 (show ¬ b < 0 by omega); show _ ≤ _; omega
 clear k0 k1 k2
 clear hx hy
 obtain ⟨_, rfl, hf0⟩ := h
 have hF0 := hf0
 obtain ⟨y0_p0, y0_q0, _, rfl, _y0_n0, y0_p1, y0_q1, _, rfl, _y0_n1, y0_p2, y0_q2, _, rfl, _y0_n2, rfl⟩ := hf0
 obtain ⟨w1, b1, hw1, hb1, hs1, E⟩ := gS w 33 hF0
 go_enter Tryz.func23, Tryz.ntmps23
 go_upto_region 1 with (fail)
 rw [← hw1]
 rw [← hb1]
 clear hw1 hb1 hs1
 have B2 : Hid (ab ((Int.natAbs b : Int)) < pw 15) := zBg hb.out
 refine rg [Fq.st [.n a, .n b, .n c], yT, yF, yF, ip b1 2, Fq.num b, Fq.num (Int.natAbs b : Int), ip b1 0, Fq.num a, Fq.is (.int .i64 (cmpI (Int.natAbs b : Int) a)), yF, yF, yF, ip b1 0, Fq.num a, ip b1 4, Fq.num c, Fq.is (.int .i64 (cmpI a c)), yF, yF] [none] [] E (fun hp => ⟨?_, ?_, ?_, ?_, ?_, ?_, ?_, ?_, ?_, ?_, ?_, ?_, ?_, ?_, ?_, ?_, ?_, ?_, ?_, ?_, tv⟩) ?_
 ·exact lS 0 6 hp (mq 0 rfl) zAm (sqo 1)
 ·exact wXa (Fq.st [.n a, .n b, .n c]) hp zDd (sqi 0) fun v w h => zDe h ha.out hb.out hc.out HD.out
 ·exact zAf (F := fun v _ => v = .bool true) hp fo tv (sqi 1) (fun ρ w _ h => ⟨.bool false, by simp [execOp, go_sem, h], rfl⟩)
 ·exact zAa hp fo tv (sqi 2)
 ·exact zAl (b := b1) (off := 0) (off' := 2) hp fo gqi (sqo 1) (fun ρ w h => by simp [execOp, go_sem, h]) (fun _ => rfl)
 ·exact lG 2 2 hp gqi (mq 0 rfl) zAc (sqi 4) fun v w h => zAk h
 ·exact zAn (F := (Fq.num b).P) hp fo gqi (zBo) (sqi 5) (fun v w h => exK (zBl h) B2.out (by omega))
 ·exact zAl (b := b1) (off := 0) (off' := 0) hp fo gqi (sqo 1) (fun ρ w h => by simp [execOp, go_sem, h]) (fun _ => rfl)
 ·exact lG 0 2 hp gqi (mq 0 rfl) zAc (sqi 7) fun v w h => zAk h
 ·exact zAx (F := (Fq.num (Int.natAbs b : Int)).P) (G := (Fq.num a).P) hp fo gqi (zA2) (sqi 6) (sqi 8) (fun v v' w h h' => zA3 h h')
 ·exact zAf (F := fun v _ => v = .int .i64 (cmpI (Int.natAbs b : Int) a)) hp fo gqi (sqi 9) (fun ρ w hc h => ⟨.bool false, by simp [execOp, go_sem, h, hc, T1.out], rfl⟩)
 ·exact zAg (F := fun v _ => v = .bool false) (G := fun v _ => v = .bool false) hp fo tv (sqi 3) (sqi 10) (fun ρ w hc h h' => ⟨_, by simp [execOp, go_sem, h, h'], rfl⟩)
 ·exact zAa hp fo tv (sqi 11)
 ·exact zAl (b := b1) (off := 0) (off' := 0) hp fo gqi (sqo 1) (fun ρ w h => by simp [execOp, go_sem, h]) (fun _ => rfl)
 ·exact lG 0 2 hp gqi (mq 0 rfl) zAc (sqi 13) fun v w h => zAk h
 ·exact zAl (b := b1) (off := 0) (off' := 4) hp fo gqi (sqo 1) (fun ρ w h => by simp [execOp, go_sem, h]) (fun _ => rfl)
 ·exact lG 4 2 hp gqi (mq 0 rfl) zAc (sqi 15) fun v w h => zAk h
 ·exact zAx (F := (Fq.num a).P) (G := (Fq.num c).P) hp fo gqi (zA2) (sqi 14) (sqi 16) (fun v v' w h h' => zA3 h h')
 ·exact zAf (F := fun v _ => v = .int .i64 (cmpI a c)) hp fo gqi (sqi 17) (fun ρ w hc h => ⟨.bool false, by simp [execOp, go_sem, h, hc, T2.out], rfl⟩)
 ·exact zAg (F := fun v _ => v = .bool false) (G := fun v _ => v = .bool false) hp fo tv (sqi 12) (sqi 18) (fun ρ w hc h h' => ⟨_, by simp [execOp, go_sem, h, h'], rfl⟩)
 intro L vs w3 nb hL hC hn E3
 have e1 := wXi hC 1
 have e2 := wXi hC 2
 have e3 := wXi hC 3
 have e4 := wXi hC 4
 have e7 := wXi hC 7
 have e9 := wXi hC 9
 have e10 := wXi hC 10
 have e11 := wXi hC 11
 have e12 := wXi hC 12
 have e13 := wXi hC 13
 have e15 := wXi hC 15
 have e17 := wXi hC 17
 have e18 := wXi hC 18
 have e19 := wXi hC 19
 have E := E3; try simp only [LM, zAd] at E
 rw [zAe hL]
 simp only [SP, Nat.zero_add, Nat.reduceAdd]
 rw [e1, e2, e3, e4, e7, e9, e10, e11, e12, e13, e15, e17, e18, e19]
 generalize vs 0 = u3_0
 generalize vs 5 = u3_5
 generalize vs 6 = u3_6
 generalize vs 8 = u3_8
 generalize vs 14 = u3_14
 generalize vs 16 = u3_16
 clear e1 e2 e3 e4 e7 e9 e10 e11 e12 e13 e15 e17 e18 e19 hC hn E3 hL vs L nb
 go_upto_region 3 with (fail)
 refine rg [ip b1 2, Fq.num b, Fq.num (Int.natAbs b : Int), ip b1 0, Fq.num a, Fq.is (.int .i64 (cmpI (Int.natAbs b : Int) a)), yT, yT, Fq.is (undef), Fq.is (undef), Fq.is (undef), Fq.is (undef), Fq.is (undef), Fq.is (undef), yT, yT] [none] [] E (fun hp => ⟨?_, ?_, ?_, ?_, ?_, ?_, ?_, ?_, ?_, ?_, ?_, ?_, ?_, ?_, ?_, ?_, tv⟩) ?_
 ·exact qa b1 0 2 hp (sqo 1)
 ·exact lN 2 2 hp (mq 0 rfl) zAc (sqi 0)
 ·exact wXa (Fq.num b) hp zBo (sqi 1) fun v w h => exK (zBl h) B2.out (by omega)
 ·exact qa b1 0 0 hp (sqo 1)
 ·exact lN 0 2 hp (mq 0 rfl) zAc (sqi 3)
 ·exact wXb (Fq.num (Int.natAbs b : Int)) (Fq.num a) hp zA2 (sqi 2) (sqi 4) fun v v' w h h' => zA3 h h'
 ·exact zAf (F := fun v _ => v = .int .i64 (cmpI (Int.natAbs b : Int) a)) hp fo tv (sqi 5) (fun ρ w hc h => ⟨.bool true, by simp [execOp, go_sem, h, hc, T3.out], rfl⟩)
 ·exact zAa hp fo tv (sqi 6)
 ·exact zAi hp fo rfl gqi (fun _ => rfl)
 ·exact zAi hp fo rfl gqi (fun _ => rfl)
 ·exact zAi hp fo rfl gqi (fun _ => rfl)
 ·exact zAi hp fo rfl gqi (fun _ => rfl)
 ·exact zAi hp fo rfl gqi (fun _ => rfl)
 ·exact zAi hp fo rfl gqi (fun _ => rfl)
 ·exact zAg (F := fun v _ => v = .bool true) (G := fun v _ => v = .bool true) hp fo tv (sqi 7) (zAj (fun _ => rfl)) (fun ρ w hc h h' => ⟨_, by simp [execOp, go_sem, h, h'], rfl⟩)
 ·exact zAh hp fo tv (sqi 14)
 intro L vs w4 nb hL hC hn E4
 have e0 := wXi hC 0
 have e3 := wXi hC 3
 have e5 := wXi hC 5
 have e6 := wXi hC 6
 have e7 := wXi hC 7
 have e8 := wXi hC 8
 have e9 := wXi hC 9
 have e10 := wXi hC 10
 have e11 := wXi hC 11
 have e12 := wXi hC 12
 have e13 := wXi hC 13
 have e14 := wXi hC 14
 have e15 := wXi hC 15
 have E := E4; try simp only [LM, zAd] at E
 rw [zAe hL]
 simp only [SP, Nat.zero_add, Nat.reduceAdd]
 rw [e0, e3, e5, e6, e7, e8, e9, e10, e11, e12, e13, e14, e15]
 generalize vs 1 = u4_1
 generalize vs 2 = u4_2
 generalize vs 4 = u4_4
 clear e0 e3 e5 e6 e7 e8 e9 e10 e11 e12 e13 e14 e15 hC hn E4 hL vs L nb
 go_upto_region 4 with (fail)
 refine rg [yT, yF, yF, ip b1 2, Fq.num b, Fq.is (.int .i64 (cmpI b 0)), yT, yT, yT] [none] [] E (fun hp => ⟨?_, ?_, ?_, ?_, ?_, ?_, ?_, ?_, ?_, tv⟩) ?_
 ·exact zAa hp fo tv (sqo 3)
 ·exact zAf (F := fun v _ => v = .bool true) hp fo tv (sqi 0) (fun ρ w _ h => ⟨.bool false, by simp [execOp, go_sem, h], rfl⟩)
 ·exact zAa hp fo tv (sqi 1)
 ·exact zAl (b := b1) (off := 0) (off' := 2) hp fo gqi (sqo 1) (fun ρ w h => by simp [execOp, go_sem, h]) (fun _ => rfl)
 ·exact lG 2 2 hp gqi (mq 0 rfl) zAc (sqi 3) fun v w h => zAk h
 ·exact zAn (F := (Fq.num b).P) hp fo gqi (zB3) (sqi 4) (fun v w h => zB4 h)
 ·exact zAf (F := fun v _ => v = .int .i64 (cmpI b 0)) hp fo gqi (sqi 5) (fun ρ w hc h => ⟨.bool true, by simp [execOp, go_sem, h, hc, T5.out], rfl⟩)
 ·exact zAg (F := fun v _ => v = .bool false) (G := fun v _ => v = .bool true) hp fo tv (sqi 2) (sqi 6) (fun ρ w hc h h' => ⟨_, by simp [execOp, go_sem, h, h'], rfl⟩)
 ·exact zAh hp fo tv (sqi 7)
 intro L vs w5 nb hL hC hn E5
 have e0 := wXi hC 0
 have e1 := wXi hC 1
 have e2 := wXi hC 2
 have e3 := wXi hC 3
 have e5 := wXi hC 5
 have e6 := wXi hC 6
 have e7 := wXi hC 7
 have e8 := wXi hC 8
 have E := E5; try simp only [LM, zAd] at E
 rw [zAe hL]
 simp only [SP, Nat.zero_add, Nat.reduceAdd]
 rw [e0, e1, e2, e3, e5, e6, e7, e8]
 generalize vs 4 = u5_4
 clear e0 e1 e2 e3 e5 e6 e7 e8 hC hn E5 hL vs L nb
 clear HD T1 T2 T3 T4 T5
 clear B2 ha hb hc
 go_wp2
 refine bodyPost_ret (v := .bool true) ?_ rfl ⟨_, rfl, E.below, rfl⟩
 simp [results, Tryz.results23, go_sem]

set_option maxRecDepth 100000 in
set_option maxHeartbeats 4000000 in
theorem zN8 {w : World} {v : Value} {a b c : Int} (h : (Fq.st [.n a, .n b, .n c]).P v w) (ha : ab a < pw 15) (hb : ab b < pw 15) (hc : ab c < pw 15) (hdf : dfB a b c = true) (hx : ¬ a < (Int.natAbs b : Int)) (hy : a ≤ c) (k0 : (Int.natAbs b : Int) = a) (k1 : a = c) (k2 : ¬ 0 ≤ b) {t : Bool} (ht : (dfB a b c && redB a b c) = t) :
  Calls Tryz.prog 23 #[v] w fun e w' => ∃ v', e = .returned v' ∧ Below w.heap.size w w' ∧ v' = .bool t := by
 replace ha := hidd ha
 replace hb := hidd hb
 replace hc := hidd hc
 have ht2 : t = false := ht.symm.trans (by rw [hdf, Bool.true_and]; unfold redB; exact decide_eq_false (by omega))
 subst ht2
 clear ht
 have HD := hidd hdf
 clear hdf
 have T1 : Hid (¬ 0 < cmpI (Int.natAbs b : Int) a) := fun e => by have := cmpIqgt.1 e; omega
 have T2 : Hid (¬ 0 < cmpI a c) := fun e => by have := cmpIqgt.1 e; omega
 have T3 : Hid (cmpI (Int.natAbs b : Int) a = 0) := cmpIq0.2 k0
 have T4 : Hid (cmpI a c = 0) := cmpIq0.2 k1
 have T5 : Hid (¬ 0 ≤ cmpI b 0) := by have := cmpIqlt.2 (show b < 0 by omega); show ¬ _ ≤ _; omega
 clear k0 k1 k2
 clear hx hy
 obtain ⟨_, rfl, hf0⟩ := h
 have hF0 := hf0
 obtain ⟨y0_p0, y0_q0, _, rfl, _y0_n0, y0_p1, y0_q1, _, rfl, _y0_n1, y0_p2, y0_q2, _, rfl, _y0_n2, rfl⟩ := hf0
 obtain ⟨w1, b1, hw1, hb1, hs1, E⟩ := gS w 33 hF0
 go_enter Tryz.func23, Tryz.ntmps23
 go_upto_region 1 with (fail)
 rw [← hw1]
 rw [← hb1]
 clear hw1 hb1 hs1
 have B2 : Hid (ab ((Int.natAbs b : Int)) < pw 15) := zBg hb.out
 refine rg [Fq.st [.n a, .n b, .n c], yT, yF, yF, ip b1 2, Fq.num b, Fq.num (Int.natAbs b : Int), ip b1 0, Fq.num a, Fq.is (.int .i64 (cmpI (Int.natAbs b : Int) a)), yF, yF, yF, ip b1 0, Fq.num a, ip b1 4, Fq.num c, Fq.is (.int .i64 (cmpI a c)), yF, yF] [none] [] E (fun hp => ⟨?_, ?_, ?_, ?_, ?_, ?_, ?_, ?_, ?_, ?_, ?_, ?_, ?_, ?_, ?_, ?_, ?_, ?_, ?_, ?_, tv⟩) ?_
 ·exact lS 0 6 hp (mq 0 rfl) zAm (sqo 1)
 ·exact wXa (Fq.st [.n a, .n b, .n c]) hp zDd (sqi 0) fun v w h => zDe h ha.out hb.out hc.out HD.out
 ·exact zAf (F := fun v _ => v = .bool true) hp fo tv (sqi 1) (fun ρ w _ h => ⟨.bool false, by simp [execOp, go_sem, h], rfl⟩)
 ·exact zAa hp fo tv (sqi 2)
 ·exact zAl (b := b1) (off := 0) (off' := 2) hp fo gqi (sqo 1) (fun ρ w h => by simp [execOp, go_sem, h]) (fun _ => rfl)
 ·exact lG 2 2 hp gqi (mq 0 rfl) zAc (sqi 4) fun v w h => zAk h
 ·exact zAn (F := (Fq.num b).P) hp fo gqi (zBo) (sqi 5) (fun v w h => exK (zBl h) B2.out (by omega))
 ·exact zAl (b := b1) (off := 0) (off' := 0) hp fo gqi (sqo 1) (fun ρ w h => by simp [execOp, go_sem, h]) (fun _ => rfl)
 ·exact lG 0 2 hp gqi (mq 0 rfl) zAc (sqi 7) fun v w h => zAk h
 ·exact zAx (F := (Fq.num (Int.natAbs b : Int)).P) (G := (Fq.num a).P) hp fo gqi (zA2) (sqi 6) (sqi 8) (fun v v' w h h' => zA3 h h')
 ·exact zAf (F := fun v _ => v = .int .i64 (cmpI (Int.natAbs b : Int) a)) hp fo gqi (sqi 9) (fun ρ w hc h => ⟨.bool false, by simp [execOp, go_sem, h, hc, T1.out], rfl⟩)
 ·exact zAg (F := fun v _ => v = .bool false) (G := fun v _ => v = .bool false) hp fo tv (sqi 3) (sqi 10) (fun ρ w hc h h' => ⟨_, by simp [execOp, go_sem, h, h'], rfl⟩)
 ·exact zAa hp fo tv (sqi 11)
 ·exact zAl (b := b1) (off := 0) (off' := 0) hp fo gqi (sqo 1) (fun ρ w h => by simp [execOp, go_sem, h]) (fun _ => rfl)
 ·exact lG 0 2 hp gqi (mq 0 rfl) zAc (sqi 13) fun v w h => zAk h
 ·exact zAl (b := b1) (off := 0) (off' := 4) hp fo gqi (sqo 1) (fun ρ w h => by simp [execOp, go_sem, h]) (fun _ => rfl)
 ·exact lG 4 2 hp gqi (mq 0 rfl) zAc (sqi 15) fun v w h => zAk h
 ·exact zAx (F := (Fq.num a).P) (G := (Fq.num c).P) hp fo gqi (zA2) (sqi 14) (sqi 16) (fun v v' w h h' => zA3 h h')
 ·exact zAf (F := fun v _ => v = .int .i64 (cmpI a c)) hp fo gqi (sqi 17) (fun ρ w hc h => ⟨.bool false, by simp [execOp, go_sem, h, hc, T2.out], rfl⟩)
 ·exact zAg (F := fun v _ => v = .bool false) (G := fun v _ => v = .bool false) hp fo tv (sqi 12) (sqi 18) (fun ρ w hc h h' => ⟨_, by simp [execOp, go_sem, h, h'], rfl⟩)
 intro L vs w3 nb hL hC hn E3
 have e1 := wXi hC 1
 have e2 := wXi hC 2
 have e3 := wXi hC 3
 have e4 := wXi hC 4
 have e7 := wXi hC 7
 have e9 := wXi hC 9
 have e10 := wXi hC 10
 have e11 := wXi hC 11
 have e12 := wXi hC 12
 have e13 := wXi hC 13
 have e15 := wXi hC 15
 have e17 := wXi hC 17
 have e18 := wXi hC 18
 have e19 := wXi hC 19
 have E := E3; try simp only [LM, zAd] at E
 rw [zAe hL]
 simp only [SP, Nat.zero_add, Nat.reduceAdd]
 rw [e1, e2, e3, e4, e7, e9, e10, e11, e12, e13, e15, e17, e18, e19]
 generalize vs 0 = u3_0
 generalize vs 5 = u3_5
 generalize vs 6 = u3_6
 generalize vs 8 = u3_8
 generalize vs 14 = u3_14
 generalize vs 16 = u3_16
 clear e1 e2 e3 e4 e7 e9 e10 e11 e12 e13 e15 e17 e18 e19 hC hn E3 hL vs L nb
 go_upto_region 3 with (fail)
 refine rg [ip b1 2, Fq.num b, Fq.num (Int.natAbs b : Int), ip b1 0, Fq.num a, Fq.is (.int .i64 (cmpI (Int.natAbs b : Int) a)), yT, yT, Fq.is (undef), Fq.is (undef), Fq.is (undef), Fq.is (undef), Fq.is (undef), Fq.is (undef), yT, yT] [none] [] E (fun hp => ⟨?_, ?_, ?_, ?_, ?_, ?_, ?_, ?_, ?_, ?_, ?_, ?_, ?_, ?_, ?_, ?_, tv⟩) ?_
 ·exact qa b1 0 2 hp (sqo 1)
 ·exact lN 2 2 hp (mq 0 rfl) zAc (sqi 0)
 ·exact wXa (Fq.num b) hp zBo (sqi 1) fun v w h => exK (zBl h) B2.out (by omega)
 ·exact qa b1 0 0 hp (sqo 1)
 ·exact lN 0 2 hp (mq 0 rfl) zAc (sqi 3)
 ·exact wXb (Fq.num (Int.natAbs b : Int)) (Fq.num a) hp zA2 (sqi 2) (sqi 4) fun v v' w h h' => zA3 h h'
 ·exact zAf (F := fun v _ => v = .int .i64 (cmpI (Int.natAbs b : Int) a)) hp fo tv (sqi 5) (fun ρ w hc h => ⟨.bool true, by simp [execOp, go_sem, h, hc, T3.out], rfl⟩)
 ·exact zAa hp fo tv (sqi 6)
 ·exact zAi hp fo rfl gqi (fun _ => rfl)
 ·exact zAi hp fo rfl gqi (fun _ => rfl)
 ·exact zAi hp fo rfl gqi (fun _ => rfl)
 ·exact zAi hp fo rfl gqi (fun _ => rfl)
 ·exact zAi hp fo rfl gqi (fun _ => rfl)
 ·exact zAi hp fo rfl gqi (fun _ => rfl)
 ·exact zAg (F := fun v _ => v = .bool true) (G := fun v _ => v = .bool true) hp fo tv (sqi 7) (zAj (fun _ => rfl)) (fun ρ w hc h h' => ⟨_, by simp [execOp, go_sem, h, h'], rfl⟩)
 ·exact zAh hp fo tv (sqi 14)
 intro L vs w4 nb hL hC hn E4
 have e0 := wXi hC 0
 have e3 := wXi hC 3
 have e5 := wXi hC 5
 have e6 := wXi hC 6
 have e7 := wXi hC 7
 have e8 := wXi hC 8
 have e9 := wXi hC 9
 have e10 := wXi hC 10
 have e11 := wXi hC 11
 have e12 := wXi hC 12
 have e13 := wXi hC 13
 have e14 := wXi hC 14
 have e15 := wXi hC 15
 have E := E4; try simp only [LM, zAd] at E
 rw [zAe hL]
 simp only [SP, Nat.zero_add, Nat.reduceAdd]
 rw [e0, e3, e5, e6, e7, e8, e9, e10, e11, e12, e13, e14, e15]
 generalize vs 1 = u4_1
 generalize vs 2 = u4_2
 generalize vs 4 = u4_4
 clear e0 e3 e5 e6 e7 e8 e9 e10 e11 e12 e13 e14 e15 hC hn E4 hL vs L nb
 go_upto_region 4 with (fail)
 refine rg [yT, yF, yF, ip b1 2, Fq.num b, Fq.is (.int .i64 (cmpI b 0)), yF, yF, yF] [none] [] E (fun hp => ⟨?_, ?_, ?_, ?_, ?_, ?_, ?_, ?_, ?_, tv⟩) ?_
 ·exact zAa hp fo tv (sqo 3)
 ·exact zAf (F := fun v _ => v = .bool true) hp fo tv (sqi 0) (fun ρ w _ h => ⟨.bool false, by simp [execOp, go_sem, h], rfl⟩)
 ·exact zAa hp fo tv (sqi 1)
 ·exact zAl (b := b1) (off := 0) (off' := 2) hp fo gqi (sqo 1) (fun ρ w h => by simp [execOp, go_sem, h]) (fun _ => rfl)
 ·exact lG 2 2 hp gqi (mq 0 rfl) zAc (sqi 3) fun v w h => zAk h
 ·exact zAn (F := (Fq.num b).P) hp fo gqi (zB3) (sqi 4) (fun v w h => zB4 h)
 ·exact zAf (F := fun v _ => v = .int .i64 (cmpI b 0)) hp fo gqi (sqi 5) (fun ρ w hc h => ⟨.bool false, by simp [execOp, go_sem, h, hc, T5.out], rfl⟩)
 ·exact zAg (F := fun v _ => v = .bool false) (G := fun v _ => v = .bool false) hp fo tv (sqi 2) (sqi 6) (fun ρ w hc h h' => ⟨_, by simp [execOp, go_sem, h, h'], rfl⟩)
 ·exact zAh hp fo tv (sqi 7)
 intro L vs w5 nb hL hC hn E5
 have e0 := wXi hC 0
 have e1 := wXi hC 1
 have e2 := wXi hC 2
 have e3 := wXi hC 3
 have e5 := wXi hC 5
 have e6 := wXi hC 6
 have e7 := wXi hC 7
 have e8 := wXi hC 8
 have E := E5; try simp only [LM, zAd] at E
 rw [zAe hL]
 simp only [SP, Nat.zero_add, Nat.reduceAdd]
 rw [e0, e1, e2, e3, e5, e6, e7, e8]
 generalize vs 4 = u5_4
 clear e0 e1 e2 e3 e5 e6 e7 e8 hC hn E5 hL vs L nb
 clear HD T1 T2 T3 T4 T5
 clear B2 ha hb hc
 go_wp2
 refine bodyPost_ret (v := .bool false) ?_ rfl ⟨_, rfl, E.below, rfl⟩
 simp [results, Tryz.results23, go_sem]

set_option maxRecDepth 100000 in
set_option maxHeartbeats 4000000 in
theorem zN9 {w : World} {v : Value} {a b c : Int} (h : (Fq.st [.n a, .n b, .n c]).P v w) (ha : ab a < pw 15) (hb : ab b < pw 15) (hc : ab c < pw 15) (hdf : dfB a b c = true) (hx : ¬ a < (Int.natAbs b : Int)) (hy : a ≤ c) (k0 : (Int.natAbs b : Int) = a) (k1 : a = c) (k2 : 0 ≤ b) {t : Bool} (ht : (dfB a b c && redB a b c) = t) :
  Calls Tryz.prog 23 #[v] w fun e w' => ∃ v', e = .returned v' ∧ Below w.heap.size w w' ∧ v' = .bool t := by
 replace ha := hidd ha
 replace hb := hidd hb
 replace hc := hidd hc
 have ht2 : t = true := ht.symm.trans (by rw [hdf, Bool.true_and]; unfold redB; exact decide_eq_true (by omega))
 subst ht2
 clear ht
 have HD := hidd hdf
 clear hdf
 have T1 : Hid (¬ 0 < cmpI (Int.natAbs b : Int) a) := fun e => by have := cmpIqgt.1 e; omega
 have T2 : Hid (¬ 0 < cmpI a c) := fun e => by have := cmpIqgt.1 e; omega
 have T3 : Hid (cmpI (Int.natAbs b : Int) a = 0) := cmpIq0.2 k0
 have T4 : Hid (cmpI a c = 0) := cmpIq0.2 k1
 have T5 : Hid (0 ≤ cmpI b 0) := by have := mt cmpIqlt.1 (show ¬ b < 0 by omega); show _ ≤ _; omega
 clear k0 k1 k2
 clear hx hy
 obtain ⟨_, rfl, hf0⟩ := h
 have hF0 := hf0
 obtain ⟨y0_p0, y0_q0, _, rfl, _y0_n0, y0_p1, y0_q1, _, rfl, _y0_n1, y0_p2, y0_q2, _, rfl, _y0_n2, rfl⟩ := hf0
 obtain ⟨w1, b1, hw1, hb1, hs1, E⟩ := gS w 33 hF0
 go_enter Tryz.func23, Tryz.ntmps23
 go_upto_region 1 with (fail)
 rw [← hw1]
 rw [← hb1]
 clear hw1 hb1 hs1
 have B2 : Hid (ab ((Int.natAbs b : Int)) < pw 15) := zBg hb.out
 refine rg [Fq.st [.n a, .n b, .n c], yT, yF, yF, ip b1 2, Fq.num b, Fq.num (Int.natAbs b : Int), ip b1 0, Fq.num a, Fq.is (.int .i64 (cmpI (Int.natAbs b : Int) a)), yF, yF, yF, ip b1 0, Fq.num a, ip b1 4, Fq.num c, Fq.is (.int .i64 (cmpI a c)), yF, yF] [none] [] E (fun hp => ⟨?_, ?_, ?_, ?_, ?_, ?_, ?_, ?_, ?_, ?_, ?_, ?_, ?_, ?_, ?_, ?_, ?_, ?_, ?_, ?_, tv⟩) ?_
 ·exact lS 0 6 hp (mq 0 rfl) zAm (sqo 1)
 ·exact wXa (Fq.st [.n a, .n b, .n c]) hp zDd (sqi 0) fun v w h => zDe h ha.out hb.out hc.out HD.out
 ·exact zAf (F := fun v _ => v = .bool true) hp fo tv (sqi 1) (fun ρ w _ h => ⟨.bool false, by simp [execOp, go_sem, h], rfl⟩)
 ·exact zAa hp fo tv (sqi 2)
 ·exact zAl (b := b1) (off := 0) (off' := 2) hp fo gqi (sqo 1) (fun ρ w h => by simp [execOp, go_sem, h]) (fun _ => rfl)
 ·exact lG 2 2 hp gqi (mq 0 rfl) zAc (sqi 4) fun v w h => zAk h
 ·exact zAn (F := (Fq.num b).P) hp fo gqi (zBo) (sqi 5) (fun v w h => exK (zBl h) B2.out (by omega))
 ·exact zAl (b := b1) (off := 0) (off' := 0) hp fo gqi (sqo 1) (fun ρ w h => by simp [execOp, go_sem, h]) (fun _ => rfl)
 ·exact lG 0 2 hp gqi (mq 0 rfl) zAc (sqi 7) fun v w h => zAk h
 ·exact zAx (F := (Fq.num (Int.natAbs b : Int)).P) (G := (Fq.num a).P) hp fo gqi (zA2) (sqi 6) (sqi 8) (fun v v' w h h' => zA3 h h')
 ·exact zAf (F := fun v _ => v = .int .i64 (cmpI (Int.natAbs b : Int) a)) hp fo gqi (sqi 9) (fun ρ w hc h => ⟨.bool false, by simp [execOp, go_sem, h, hc, T1.out], rfl⟩)
 ·exact zAg (F := fun v _ => v = .bool false) (G := fun v _ => v = .bool false) hp fo tv (sqi 3) (sqi 10) (fun ρ w hc h h' => ⟨_, by simp [execOp, go_sem, h, h'], rfl⟩)
 ·exact zAa hp fo tv (sqi 11)
 ·exact zAl (b := b1) (off := 0) (off' := 0) hp fo gqi (sqo 1) (fun ρ w h => by simp [execOp, go_sem, h]) (fun _ => rfl)
 ·exact lG 0 2 hp gqi (mq 0 rfl) zAc (sqi 13) fun v w h => zAk h
 ·exact zAl (b := b1) (off := 0) (off' := 4) hp fo gqi (sqo 1) (fun ρ w h => by simp [execOp, go_sem, h]) (fun _ => rfl)
 ·exact lG 4 2 hp gqi (mq 0 rfl) zAc (sqi 15) fun v w h => zAk h
 ·exact zAx (F := (Fq.num a).P) (G := (Fq.num c).P) hp fo gqi (zA2) (sqi 14) (sqi 16) (fun v v' w h h' => zA3 h h')
 ·exact zAf (F := fun v _ => v = .int .i64 (cmpI a c)) hp fo gqi (sqi 17) (fun ρ w hc h => ⟨.bool false, by simp [execOp, go_sem, h, hc, T2.out], rfl⟩)
 ·exact zAg (F := fun v _ => v = .bool false) (G := fun v _ => v = .bool false) hp fo tv (sqi 12) (sqi 18) (fun ρ w hc h h' => ⟨_, by simp [execOp, go_sem, h, h'], rfl⟩)
 intro L vs w3 nb hL hC hn E3
 have e1 := wXi hC 1
 have e2 := wXi hC 2
 have e3 := wXi hC 3
 have e4 := wXi hC 4
 have e7 := wXi hC 7
 have e9 := wXi hC 9
 have e10 := wXi hC 10
 have e11 := wXi hC 11
 have e12 := wXi hC 12
 have e13 := wXi hC 13
 have e15 := wXi hC 15
 have e17 := wXi hC 17
 have e18 := wXi hC 18
 have e19 := wXi hC 19
 have E := E3; try simp only [LM, zAd] at E
 rw [zAe hL]
 simp only [SP, Nat.zero_add, Nat.reduceAdd]
 rw [e1, e2, e3, e4, e7, e9, e10, e11, e12, e13, e15, e17, e18, e19]
 generalize vs 0 = u3_0
 generalize vs 5 = u3_5
 generalize vs 6 = u3_6
 generalize vs 8 = u3_8
 generalize vs 14 = u3_14
 generalize vs 16 = u3_16
 clear e1 e2 e3 e4 e7 e9 e10 e11 e12 e13 e15 e17 e18 e19 hC hn E3 hL vs L nb
 go_upto_region 3 with (fail)
 refine rg [ip b1 2, Fq.num b, Fq.num (Int.natAbs b : Int), ip b1 0, Fq.num a, Fq.is (.int .i64 (cmpI (Int.natAbs b : Int) a)), yT, yT, Fq.is (undef), Fq.is (undef), Fq.is (undef), Fq.is (undef), Fq.is (undef), Fq.is (undef), yT, yT] [none] [] E (fun hp => ⟨?_, ?_, ?_, ?_, ?_, ?_, ?_, ?_, ?_, ?_, ?_, ?_, ?_, ?_, ?_, ?_, tv⟩) ?_
 ·exact qa b1 0 2 hp (sqo 1)
 ·exact lN 2 2 hp (mq 0 rfl) zAc (sqi 0)
 ·exact wXa (Fq.num b) hp zBo (sqi 1) fun v w h => exK (zBl h) B2.out (by omega)
 ·exact qa b1 0 0 hp (sqo 1)
 ·exact lN 0 2 hp (mq 0 rfl) zAc (sqi 3)
 ·exact wXb (Fq.num (Int.natAbs b : Int)) (Fq.num a) hp zA2 (sqi 2) (sqi 4) fun v v' w h h' => zA3 h h'
 ·exact zAf (F := fun v _ => v = .int .i64 (cmpI (Int.natAbs b : Int) a)) hp fo tv (sqi 5) (fun ρ w hc h => ⟨.bool true, by simp [execOp, go_sem, h, hc, T3.out], rfl⟩)
 ·exact zAa hp fo tv (sqi 6)
 ·exact zAi hp fo rfl gqi (fun _ => rfl)
 ·exact zAi hp fo rfl gqi (fun _ => rfl)
 ·exact zAi hp fo rfl gqi (fun _ => rfl)
 ·exact zAi hp fo rfl gqi (fun _ => rfl)
 ·exact zAi hp fo rfl gqi (fun _ => rfl)
 ·exact zAi hp fo rfl gqi (fun _ => rfl)
 ·exact zAg (F := fun v _ => v = .bool true) (G := fun v _ => v = .bool true) hp fo tv (sqi 7) (zAj (fun _ => rfl)) (fun ρ w hc h h' => ⟨_, by simp [execOp, go_sem, h, h'], rfl⟩)
 ·exact zAh hp fo tv (sqi 14)
 intro L vs w4 nb hL hC hn E4
 have e0 := wXi hC 0
 have e3 := wXi hC 3
 have e5 := wXi hC 5
 have e6 := wXi hC 6
 have e7 := wXi hC 7
 have e8 := wXi hC 8
 have e9 := wXi hC 9
 have e10 := wXi hC 10
 have e11 := wXi hC 11
 have e12 := wXi hC 12
 have e13 := wXi hC 13
 have e14 := wXi hC 14
 have e15 := wXi hC 15
 have E := E4; try simp only [LM, zAd] at E
 rw [zAe hL]
 simp only [SP, Nat.zero_add, Nat.reduceAdd]
 rw [e0, e3, e5, e6, e7, e8, e9, e10, e11, e12, e13, e14, e15]
 generalize vs 1 = u4_1
 generalize vs 2 = u4_2
 generalize vs 4 = u4_4
 clear e0 e3 e5 e6 e7 e8 e9 e10 e11 e12 e13 e14 e15 hC hn E4 hL vs L nb
 go_upto_region 4 with (fail)
 refine rg [yT, yF, yF, ip b1 2, Fq.num b, Fq.is (.int .i64 (cmpI b 0)), yT, yT, yT] [none] [] E (fun hp => ⟨?_, ?_, ?_, ?_, ?_, ?_, ?_, ?_, ?_, tv⟩) ?_
 ·exact zAa hp fo tv (sqo 3)
 ·exact zAf (F := fun v _ => v = .bool true) hp fo tv (sqi 0) (fun ρ w _ h => ⟨.bool false, by simp [execOp, go_sem, h], rfl⟩)
 ·exact zAa hp fo tv (sqi 1)
 ·exact zAl (b := b1) (off := 0) (off' := 2) hp fo gqi (sqo 1) (fun ρ w h => by simp [execOp, go_sem, h]) (fun _ => rfl)
 ·exact lG 2 2 hp gqi (mq 0 rfl) zAc (sqi 3) fun v w h => zAk h
 ·exact zAn (F := (Fq.num b).P) hp fo gqi (zB3) (sqi 4) (fun v w h => zB4 h)
 ·exact zAf (F := fun v _ => v = .int .i64 (cmpI b 0)) hp fo gqi (sqi 5) (fun ρ w hc h => ⟨.bool true, by simp [execOp, go_sem, h, hc, T5.out], rfl⟩)
 ·exact zAg (F := fun v _ => v = .bool false) (G := fun v _ => v = .bool true) hp fo tv (sqi 2) (sqi 6) (fun ρ w hc h h' => ⟨_, by simp [execOp, go_sem, h, h'], rfl⟩)
 ·exact zAh hp fo tv (sqi 7)
 intro L vs w5 nb hL hC hn E5
 have e0 := wXi hC 0
 have e1 := wXi hC 1
 have e2 := wXi hC 2
 have e3 := wXi hC 3
 have e5 := wXi hC 5
 have e6 := wXi hC 6
 have e7 := wXi hC 7
 have e8 := wXi hC 8
 have E := E5; try simp only [LM, zAd] at E
 rw [zAe hL]
 simp only [SP, Nat.zero_add, Nat.reduceAdd]
 rw [e0, e1, e2, e3, e5, e6, e7, e8]
 generalize vs 4 = u5_4
 clear e0 e1 e2 e3 e5 e6 e7 e8 hC hn E5 hL vs L nb
 clear HD T1 T2 T3 T4 T5
 clear B2 ha hb hc
 go_wp2
 refine bodyPost_ret (v := .bool true) ?_ rfl ⟨_, rfl, E.below, rfl⟩
 simp [results, Tryz.results23, go_sem]

theorem zIf {w : World} {v : Value} {a b c : Int} (h : (Fq.st [.n a, .n b, .n c]).P v w) (ha : ab a < pw 15) (hb : ab b < pw 15) (hc : ab c < pw 15) {t : Bool} (ht : (dfB a b c && redB a b c) = t) :
  Calls Tryz.prog 23 #[v] w fun e w' => ∃ v', e = .returned v' ∧ Below w.heap.size w w' ∧ v' = .bool t := by
 cases hdf : dfB a b c with
 | false => exact exQRed_no h ha hb hc hdf ht
 | true =>
  by_cases hx : a < (Int.natAbs b : Int)
  ·exact exQRed_b h ha hb hc hdf hx ht
  by_cases hy : a ≤ c
  ·by_cases k0 : (Int.natAbs b : Int) = a <;> by_cases k1 : a = c <;> by_cases k2 : 0 ≤ b
   ·exact zN9 h ha hb hc hdf hx hy k0 k1 k2 ht
   ·exact zN8 h ha hb hc hdf hx hy k0 k1 k2 ht
   ·exact zN7 h ha hb hc hdf hx hy k0 k1 k2 ht
   ·exact zN6 h ha hb hc hdf hx hy k0 k1 k2 ht
   ·exact zN5 h ha hb hc hdf hx hy k0 k1 k2 ht
   ·exact zN4 h ha hb hc hdf hx hy k0 k1 k2 ht
   ·exact zN3 h ha hb hc hdf hx hy k0 k1 k2 ht
   ·exact zN2 h ha hb hc hdf hx hy k0 k1 k2 ht
  ·exact exQRed_c h ha hb hc hdf hx hy ht

theorem frm_uniq {w : World} {b : Nat} {x y z x' y' z' : Int} (h : Bq w b 6 (Fq.st [.n x, .n y, .n z])) (h' : Bq w b 6 (Fq.st [.n x', .n y', .n z'])) : x = x' ∧ y = y' ∧ z = z' := by
 obtain ⟨us, h1, _, h2, _, us1, e1, h3⟩ := h
 obtain ⟨us', g1, _, g2, _, us2, e2, g3⟩ := h'
 have e : us = us' := by
  refine List.ext_getElem (by omega) fun j hj hj' => ?_
  have a1 := (h2 j hj).1
  have a2 := (g2 j hj').1
  rw [a2] at a1
  injection a1 with a1
  rw [List.getD_eq_getElem?_getD, List.getD_eq_getElem?_getD, List.getElem?_eq_getElem hj, List.getElem?_eq_getElem hj', Option.getD_some, Option.getD_some] at a1
  exact a1.symm
 injection e1 with e1
 injection e2 with e2
 have e1 := congrArg Array.toList e1
 have e2 := congrArg Array.toList e2
 simp at e1 e2
 subst e e1 e2
 obtain ⟨p1, q1, r1, rfl, n1, p2, q2, r2, rfl, n2, p3, q3, r3, rfl, n3, rfl⟩ := h3
 obtain ⟨_, _, _, i1, m1, _, _, _, rfl, m2, _, _, _, rfl, m3, rfl⟩ := g3
 injection i1 with j1 i1
 injection i1 with j2 i1
 injection i1 with j3 i1
 injection i1 with j4 i1
 injection i1 with j5 i1
 injection i1 with j6 i1
 subst j1 j2 j3 j4 j5 j6
 exact ⟨n1.unique m1, n2.unique m2, n3.unique m3⟩
open Classical in
noncomputable def frmMes (w : World) (b : Nat) : Nat :=
 if h : ∃ x : Nat, ∃ fa fb fc : Int, Bq w b 6 (Fq.st [.n fa, .n fb, .n fc]) ∧ x = 2 * fa.natAbs + (if redB fa fb fc = true then 0 else 1) then Classical.choose h else 0
theorem zKg {w : World} {b : Nat} {fa fb fc : Int} (h : Bq w b 6 (Fq.st [.n fa, .n fb, .n fc])) : frmMes w b = 2 * fa.natAbs + (if redB fa fb fc = true then 0 else 1) := by
 have he : ∃ x : Nat, ∃ fa fb fc : Int, Bq w b 6 (Fq.st [.n fa, .n fb, .n fc]) ∧ x = 2 * fa.natAbs + (if redB fa fb fc = true then 0 else 1) := ⟨_, fa, fb, fc, h, rfl⟩
 unfold frmMes
 rw [dif_pos he]
 obtain ⟨x, y, z, h', hx⟩ := Classical.choose_spec he
 obtain ⟨rfl, rfl, rfl⟩ := frm_uniq h h'
 exact hx
structure RIn (a b c x1 x2 x3 x4 fa fb fc : Int) : Prop where
 u : Und a b c x1 x2 x3 x4 fa fb fc
 p : 0 < fa
 l : fa ≤ a
 bb : ab fb < pw 5
 cb : ab fc < pw 15
theorem zJl {x n : Int} (h : x * x ≤ n) : ab x ≤ ab n := by
 have h1 := zDl x
 have h2 : (x.natAbs : Int) ≤ (x.natAbs : Int) * (x.natAbs : Int) := by
  rcases Nat.eq_zero_or_pos x.natAbs with e | e
  ·rw [e]; decide
  ·have := Int.mul_le_mul_of_nonneg_left (show (1 : Int) ≤ (x.natAbs : Int) by omega) (show (0 : Int) ≤ (x.natAbs : Int) by omega)
   omega
 unfold ab
 omega
theorem RIn.bds {a b c x1 x2 x3 x4 fa fb fc : Int} (h : RIn a b c x1 x2 x3 x4 fa fb fc) (ha : ab a < pw 5) (hc : ab c < pw 5) (hd : b * b - 4 * (a * c) < 0) : (ab fa < pw 5 ∧ ab fb < pw 5 ∧ ab fc < pw 15) ∧ ab x1 < pw 30 ∧ ab x2 < pw 30 ∧ ab x3 < pw 30 ∧ ab x4 < pw 30 := by
 have hfa : ab fa < pw 5 := by
  have h1 := h.p
  have h2 := h.l
  unfold ab at ha ⊢
  generalize pw 5 = k at ha ⊢
  omega
 have h4 : ab (4 : Int) < pw 3 := zAs (by decide) (by decide)
 obtain ⟨g1, g2, g3, g4⟩ := h.u.bds hd
 have up : ∀ {x y z : Int}, x * x ≤ 4 * (y * z) → ab y < pw 5 → ab z < pw 15 → ab x < pw 30 := fun {x y z} hx hy hz => Int.lt_of_le_of_lt (zJl hx) (Int.lt_of_lt_of_le (zBi h4 (zBi hy hz)) (zAb (by omega)))
 have hfa2 : ab fa < pw 15 := Int.lt_of_lt_of_le hfa (zAb (by omega))
 exact ⟨⟨hfa, h.bb, h.cb⟩, up g1 hc hfa2, up g2 hc h.cb, up g3 ha hfa2, up g4 ha h.cb⟩
theorem RIn.one {a b c : Int} (h0 : 0 < a) (hb : ab b < pw 5) (hc : ab c < pw 5) : RIn a b c 1 0 0 1 a b c := ⟨Und.one a b c, h0, Int.le_refl _, hb, Int.lt_of_lt_of_le hc (zAb (by omega))⟩
theorem RIn.shift {a b c x1 x2 x3 x4 fa fb fc kk gb gc : Int} (h : RIn a b c x1 x2 x3 x4 fa fb fc) (ha : ab a < pw 5) (hb : ab b < pw 5) (hc : ab c < pw 5) (hd : b * b - 4 * (a * c) < 0) (hk : kk = (fa - fb) / (2 * fa)) (hgb : gb = fb + 2 * (fa * kk)) (hgc : gc = fa * (kk * kk) + fb * kk + fc) : RIn a b c (x1 * 1 + x2 * 0) (x1 * kk + x2 * 1) (x3 * 1 + x4 * 0) (x3 * kk + x4 * 1) fa gb gc ∧ -fa < gb ∧ gb ≤ fa := by
 have hm := shift_mid (b := fb) h.p
 rw [← hk, ← hgb] at hm
 have hu : Und fa fb fc 1 kk 0 1 fa gb gc := by rw [hgb, hgc]; exact Und.shift fa fb fc kk
 have hU := h.u.mul hu
 have hfa := (h.bds ha hc hd).1.1
 have hD : gb * gb - 4 * (fa * gc) = b * b - 4 * (a * c) := hU.disc
 have hc1 := zG3 h.p (by rw [hD]; exact hd)
 have hc2 := last_le h.p (by omega) hm.2 (by rw [hD]; exact hd)
 rw [hD] at hc2
 refine ⟨⟨hU, h.p, h.l, ?_, ?_⟩, hm⟩
 ·have h1 := h.p
  unfold ab at hfa ⊢
  generalize pw 5 = k at hfa ⊢
  omega
 ·have hb1 : ab (fa * fa - (b * b - 4 * (a * c))) < pw 15 := zDp (zBi hfa hfa) (zDp (m := 14) (zBi hb hb) (zBi (zAs (x := 4) (by decide) (by decide)) (zBi ha hc)) (by omega) (by omega)) (by omega) (by omega)
  unfold ab at hb1 ⊢
  generalize pw 15 = k at hb1 ⊢
  omega
theorem RIn.swap {a b c x1 x2 x3 x4 fa fb fc : Int} (h : RIn a b c x1 x2 x3 x4 fa fb fc) (ha : ab a < pw 5) (hc : ab c < pw 5) (hd : b * b - 4 * (a * c) < 0) (hl : fc ≤ fa) : RIn a b c (x1 * 0 + x2 * 1) (x1 * -1 + x2 * 0) (x3 * 0 + x4 * 1) (x3 * -1 + x4 * 0) fc (-fb) fa := by
 have hU := h.u.mul (Und.swap fa fb fc)
 have hD : fb * fb - 4 * (fa * fc) = b * b - 4 * (a * c) := h.u.disc
 have hc1 := zG3 h.p (by rw [hD]; exact hd)
 have hl2 := h.l
 refine ⟨hU, hc1, by omega, ?_, Int.lt_of_lt_of_le (h.bds ha hc hd).1.1 (zAb (by omega))⟩
 have := h.bb
 unfold ab at this ⊢
 rw [Int.natAbs_neg]
 exact this
theorem ediv_ab {x y : Int} {k : Nat} (hx : ab x < pw k) : ab (x / y) < pw k := by
 have := Int.natAbs_ediv_le_natAbs x y
 unfold ab at hx ⊢
 generalize pw k = m at hx ⊢
 omega
structure RS where
 x1 : Int
 x2 : Int
 x3 : Int
 x4 : Int
 fa : Int
 fb : Int
 fc : Int
def RS.kk (S : RS) : Int := (S.fa - S.fb) / (2 * S.fa)
def rsh (S : RS) : RS := ⟨S.x1 * 1 + S.x2 * 0, S.x1 * S.kk + S.x2 * 1, S.x3 * 1 + S.x4 * 0, S.x3 * S.kk + S.x4 * 1, S.fa, S.fb + 2 * (S.fa * S.kk), S.fa * (S.kk * S.kk) + S.fb * S.kk + S.fc⟩
def rsw (S : RS) : RS := ⟨S.x1 * 0 + S.x2 * 1, S.x1 * -1 + S.x2 * 0, S.x3 * 0 + S.x4 * 1, S.x3 * -1 + S.x4 * 0, S.fc, -S.fb, S.fa⟩
def RS.red (S : RS) : Bool := redB S.fa S.fb S.fc
def zCl (S : RS) : RS := if (rsh S).red = true then rsh S else rsw (rsh S)
def riter (a b c : Int) : Nat → RS
 | 0 => ⟨1, 0, 0, 1, a, b, c⟩
 | n + 1 => zCl (riter a b c n)
def RAt (a b c : Int) (S : RS) : Prop := ∃ n, S = riter a b c n ∧ ∀ m, m < n → (riter a b c m).red = false
theorem RAt.zero (a b c : Int) : RAt a b c ⟨1, 0, 0, 1, a, b, c⟩ := ⟨0, rfl, fun m hm => by omega⟩
theorem RAt.next {a b c : Int} {S : RS} (h : RAt a b c S) (hr : S.red = false) : RAt a b c (zCl S) := by
 obtain ⟨n, rfl, hn⟩ := h
 refine ⟨n + 1, rfl, fun m hm => ?_⟩
 rcases Nat.lt_or_ge m n with g | g
 ·exact hn m g
 ·rw [show m = n by omega]; exact hr
theorem RAt.uniq {a b c : Int} {S T : RS} (h : RAt a b c S) (g : RAt a b c T) (hs : S.red = true) (ht : T.red = true) : S = T := by
 obtain ⟨n, rfl, hn⟩ := h
 obtain ⟨m, rfl, hm⟩ := g
 rcases Nat.lt_trichotomy n m with e | e | e
 ·have := hm n e; rw [hs] at this; cases this
 ·rw [e]
 ·have := hn m e; rw [ht] at this; cases this
open Classical in
noncomputable def zCe (a b c : Int) : RS := if h : ∃ S, RAt a b c S ∧ S.red = true then Classical.choose h else ⟨1, 0, 0, 1, a, b, c⟩
theorem zI5 {a b c : Int} {S : RS} (h : RAt a b c S) (hs : S.red = true) : zCe a b c = S := by
 have he : ∃ S, RAt a b c S ∧ S.red = true := ⟨S, h, hs⟩
 unfold zCe
 rw [dif_pos he]
 exact (Classical.choose_spec he).1.uniq h (Classical.choose_spec he).2 hs
theorem RIn.next {a b c : Int} {S : RS} (h : RIn a b c S.x1 S.x2 S.x3 S.x4 S.fa S.fb S.fc) (ha : ab a < pw 5) (hb : ab b < pw 5) (hc : ab c < pw 5) (hd : b * b - 4 * (a * c) < 0) : RIn a b c (zCl S).x1 (zCl S).x2 (zCl S).x3 (zCl S).x4 (zCl S).fa (zCl S).fb (zCl S).fc ∧ ((zCl S).red = true ∧ (zCl S).fa ≤ S.fa ∨ (zCl S).fa < S.fa) := by
 obtain ⟨h1, h2, h3⟩ := h.shift ha hb hc hd (kk := S.kk) rfl rfl rfl
 unfold zCl
 by_cases hr : (rsh S).red = true
 ·rw [if_pos hr]
  exact ⟨h1, .inl ⟨hr, Int.le_refl _⟩⟩
 ·rw [if_neg hr]
  have hsw := zLy (a := (rsh S).fa) (b := (rsh S).fb) (c := (rsh S).fc) h1.p h2 h3 (fun e => hr ((zD9 h1.p).2 e))
  have hle : (rsh S).fc ≤ (rsh S).fa := by rcases hsw with h | h <;> omega
  refine ⟨RIn.swap (fa := (rsh S).fa) (fb := (rsh S).fb) (fc := (rsh S).fc) h1 ha hc hd hle, ?_⟩
  rcases hsw with h | ⟨h, _, g⟩
  ·exact .inr h
  ·exact .inl ⟨(zD9 (a := (rsh S).fc) (b := -(rsh S).fb) (c := (rsh S).fa) (by rw [h]; exact h1.p)).2 g, by show (rsh S).fc ≤ S.fa; rw [h]; exact Int.le_refl _⟩
theorem zLn {a b c : Int} (ha : ab a < pw 5) (hb : ab b < pw 5) (hc : ab c < pw 5) (hd : b * b - 4 * (a * c) < 0) : ∀ (k : Nat) (S : RS), S.fa.natAbs ≤ k → RAt a b c S → RIn a b c S.x1 S.x2 S.x3 S.x4 S.fa S.fb S.fc → ∃ T, RAt a b c T ∧ T.red = true ∧ RIn a b c T.x1 T.x2 T.x3 T.x4 T.fa T.fb T.fc
 | 0, S, hk, _, hI => by have := hI.p; omega
 | k + 1, S, hk, hA, hI => by
  cases hr : S.red with
  | true => exact ⟨S, hA, hr, hI⟩
  | false =>
   obtain ⟨hI2, h⟩ := hI.next ha hb hc hd
   have hA2 := hA.next hr
   rcases h with ⟨h, _⟩ | h
   ·exact ⟨_, hA2, h, hI2⟩
   ·have p1 := hI.p
    have p2 := hI2.p
    exact zLn ha hb hc hd k _ (by omega) hA2 hI2
theorem zLl {a b c : Int} (ha : ab a < pw 5) (hb : ab b < pw 5) (hc : ab c < pw 5) (hd : b * b - 4 * (a * c) < 0) (h0 : 0 < a) : RIn a b c (zCe a b c).x1 (zCe a b c).x2 (zCe a b c).x3 (zCe a b c).x4 (zCe a b c).fa (zCe a b c).fb (zCe a b c).fc ∧ Rdf (zCe a b c).fa (zCe a b c).fb (zCe a b c).fc := by
 obtain ⟨T, hA, hr, hI⟩ := zLn ha hb hc hd a.natAbs _ (Nat.le_refl _) (RAt.zero a b c) (RIn.one h0 hb hc)
 rw [zI5 hA hr]
 exact ⟨hI, (zD9 hI.p).1 hr⟩
def Fq.red (R : RS) : Fq := Fq.tup3 (Fq.st [.n R.fa, .n R.fb, .n R.fc]) (Fq.st [.n R.x1, .n R.x2, .n R.x3, .n R.x4]) (Fq.is (.int .i64 0))
def redE (a b c : Int) : Int := if chkF a b c = 0 ∧ 0 < b * b - 4 * (a * c) then 5 else chkF a b c
section
variable {os : List Oper} {Q : Exit → Act → World → Prop} {a : Act} {p : Pq} {B B0 : Nat} {w0 : World}
variable {i s : Nat} {d : Option Tmp} {ty : TypeId} {ps : String} {af : Array Edge} {gd : Option (Nat × Bool)}
theorem zOu (hp : p.Ok B B0) (hF : p.Free i) (hg : GdQ os a p B B0 w0 af gd) (hC : ∀ v w, (Fq.st [.n 0, .n 0, .n 0, .n 0]).P v w → (p.c i).P v w) :
  zAr os Q a p B B0 w0 i { dst := d, op := .build 36 #[], type := ty, pos := ps, after := af, guard := gd } := by
 refine zBs hp hF hg fun L vs w hG hL hc hd => ?_
 refine ⟨.agg #[.bool false, .slice none 0 0, .bool false, .slice none 0 0, .bool false, .slice none 0 0, .bool false, .slice none 0 0], ?_, hC _ _ ⟨_, rfl, _, _, _, rfl, Num.zero w, _, _, _, rfl, Num.zero w, _, _, _, rfl, Num.zero w, _, _, _, rfl, Num.zero w, rfl⟩⟩
 simp [execOp, go_sem]
end
end Go.Proofs.YtdhkhedhnolcjaaGreat
