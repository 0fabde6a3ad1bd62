/- Ub, Rg, Uc. -/
import Derived.Test.YtdhkhedhnolcjaaCb3
set_option linter.unusedSimpArgs false
set_option linter.unusedVariables false
namespace Go.Proofs.Ytdhkhedhnolcjaa
open Go Go.RowKit

theorem zLq (args : Array Value) (w : World) : (callFunc 10 args).run Try.prog w = .ok (.enter 10 args) w := zAp Try.func10 (by kernel_rfl) rfl args w
theorem zD7 (args : Array Value) (w : World) : (callFunc 60 args).run Try.prog w = .ok (.enter 60 args) w := zAp Try.func60 (by kernel_rfl) rfl args w
theorem zEn (args : Array Value) (w : World) : (callFunc 13 args).run Try.prog w = .ok (.enter 13 args) w := zAp Try.func13 (by kernel_rfl) rfl args w
theorem zDw (args : Array Value) (w : World) : (callFunc 61 args).run Try.prog w = .ok (.enter 61 args) w := zAp Try.func61 (by kernel_rfl) rfl args w
theorem zE7 (args : Array Value) (w : World) : (callFunc 25 args).run Try.prog w = .ok (.enter 25 args) w := zAp Try.func25 (by kernel_rfl) rfl args w
theorem zJc (args : Array Value) (w : World) : (callFunc 66 args).run Try.prog w = .ok (.enter 66 args) w := zAp Try.func66 (by kernel_rfl) rfl args w
theorem zHj (args : Array Value) (w : World) : (callFunc 28 args).run Try.prog w = .ok (.enter 28 args) w := zAp Try.func28 (by kernel_rfl) rfl args w
theorem zI9 (args : Array Value) (w : World) : (callFunc 26 args).run Try.prog w = .ok (.enter 26 args) w := zAp Try.func26 (by kernel_rfl) rfl args w
theorem zJb (args : Array Value) (w : World) : (callFunc 32 args).run Try.prog w = .ok (.enter 32 args) w := zAp Try.func32 (by kernel_rfl) rfl args w
theorem zLr (args : Array Value) (w : World) : (callFunc 22 args).run Try.prog w = .ok (.enter 22 args) w := zAp Try.func22 (by kernel_rfl) rfl args w
theorem zDn (args : Array Value) (w : World) : (callFunc 45 args).run Try.prog w = .ok (.enter 45 args) w := zAp Try.func45 (by kernel_rfl) rfl args w
theorem zJa (args : Array Value) (w : World) : (callFunc 34 args).run Try.prog w = .ok (.enter 34 args) w := zAp Try.func34 (by kernel_rfl) rfl args w
theorem zGe (args : Array Value) (w : World) : (callFunc 40 args).run Try.prog w = .ok (.enter 40 args) w := zAp Try.func40 (by kernel_rfl) rfl args w
theorem zDx (args : Array Value) (w : World) : (callFunc 65 args).run Try.prog w = .ok (.enter 65 args) w := zAp Try.func65 (by kernel_rfl) rfl args w
theorem zC2 (args : Array Value) (w : World) : (callFunc 64 args).run Try.prog w = .ok (.enter 64 args) w := zAp Try.func64 (by kernel_rfl) rfl args w
theorem zAn : rowB 33 6 = true := by kernel_rfl
theorem zA7 : zCk 33 6 = true := by kernel_rfl
theorem zBe (w : World) : Fits w [.n 0, .n 0, .n 0] [.bool false, .slice none 0 0, .bool false, .slice none 0 0, .bool false, .slice none 0 0] := ⟨_, _, _, rfl, Num.zero w, _, _, _, rfl, Num.zero w, _, _, _, rfl, Num.zero w, rfl⟩
theorem zNk (w : World) : (Fq.st [.n 0, .n 0, .n 0]).P (.agg ([.bool false, .slice none 0 0, .bool false, .slice none 0 0, .bool false, .slice none 0 0] : List Value).toArray) w := ⟨_, rfl, zBe w⟩
theorem zC7 {d : Option Tmp} {ty : TypeId} {ps : String} {af : Array Edge} (ρ : Operand → Value) (w : World) : (execOp ρ { dst := d, op := .alloc 33, type := ty, pos := ps, after := af, guard := none }).run Try.prog w = .ok (.value (.pointer (some ⟨w.heap.size, 0, none⟩))) (w.alloc (.cells [.bool false, .slice none 0 0, .bool false, .slice none 0 0, .bool false, .slice none 0 0].toArray 33)) := by
 simp [execOp, go_sem]
theorem zBp : rowB 36 8 = true := by kernel_rfl
theorem zBq : zCk 36 8 = true := by kernel_rfl
theorem zB5 (w : World) : Fits w [.n 0, .n 0, .n 0, .n 0] [.bool false, .slice none 0 0, .bool false, .slice none 0 0, .bool false, .slice none 0 0, .bool false, .slice none 0 0] := ⟨_, _, _, rfl, Num.zero w, _, _, _, rfl, Num.zero w, _, _, _, rfl, Num.zero w, _, _, _, rfl, Num.zero w, rfl⟩
theorem zNl (w : World) : (Fq.st [.n 0, .n 0, .n 0, .n 0]).P (.agg ([.bool false, .slice none 0 0, .bool false, .slice none 0 0, .bool false, .slice none 0 0, .bool false, .slice none 0 0] : List Value).toArray) w := ⟨_, rfl, zB5 w⟩
theorem zEg {d : Option Tmp} {ty : TypeId} {ps : String} {af : Array Edge} (ρ : Operand → Value) (w : World) : (execOp ρ { dst := d, op := .alloc 36, type := ty, pos := ps, after := af, guard := none }).run Try.prog w = .ok (.value (.pointer (some ⟨w.heap.size, 0, none⟩))) (w.alloc (.cells [.bool false, .slice none 0 0, .bool false, .slice none 0 0, .bool false, .slice none 0 0, .bool false, .slice none 0 0].toArray 36)) := by
 simp [execOp, go_sem]
def eqF (a b c x y z : Int) : Bool := decide (a = x) && (decide (b = y) && decide (c = z))
section
variable {os : List Oper} {Q : Exit → Act → World → Prop} {a : Act} {p : Pq} {B B0 : Nat} {w0 : World}
variable {i s : Nat} {d : Option Tmp} {ty : TypeId} {ps : String} {af : Array Edge} {gd : Option (Nat × Bool)}
theorem zFp {x0 : Operand} {z0 : Int} {x1 : Operand} {z1 : Int} {x2 : Operand} {z2 : Int} (hp : p.Ok B B0) (hF : p.Free i) (hg : GdQ os a p B B0 w0 af gd) (h0 : SrcQ os a p B B0 w0 af x0 fun v w => Num w v z0) (h1 : SrcQ os a p B B0 w0 af x1 fun v w => Num w v z1) (h2 : SrcQ os a p B B0 w0 af x2 fun v w => Num w v z2) (hC : ∀ v w, (Fq.st [.n z0, .n z1, .n z2]).P v w → (p.c i).P v w) :
  zAr os Q a p B B0 w0 i { dst := d, op := .build 33 #[(0, x0), (1, x1), (2, x2)], type := ty, pos := ps, after := af, guard := gd } := by
 refine zBk hp hF hg fun L vs w hG hL hc hd => ?_
 have g0 := h0 L vs w hG hd
 obtain ⟨n0, ao0, k0, c0, e0⟩ := g0.parts
 have m0 : Num w (.agg #[.bool n0, .slice ao0 k0 c0]) z0 := by rw [← e0]; exact g0
 have g1 := h1 L vs w hG hd
 obtain ⟨n1, ao1, k1, c1, e1⟩ := g1.parts
 have m1 : Num w (.agg #[.bool n1, .slice ao1 k1 c1]) z1 := by rw [← e1]; exact g1
 have g2 := h2 L vs w hG hd
 obtain ⟨n2, ao2, k2, c2, e2⟩ := g2.parts
 have m2 : Num w (.agg #[.bool n2, .slice ao2 k2 c2]) z2 := by rw [← e2]; exact g2
 refine ⟨.agg #[.bool n0, .slice ao0 k0 c0, .bool n1, .slice ao1 k1 c1, .bool n2, .slice ao2 k2 c2], ?_, hC _ _ ⟨_, rfl, _, _, _, rfl, m0, _, _, _, rfl, m1, _, _, _, rfl, m2, rfl⟩⟩
 generalize (lay os.toArray L vs os.toArray.size a).eval = ρ at e0 e1 e2
 simp [execOp, go_sem, e0, e1, e2]
theorem zGy {x0 : Operand} {z0 : Int} {x1 : Operand} {z1 : Int} {x2 : Operand} {z2 : Int} {x3 : Operand} {z3 : Int} (hp : p.Ok B B0) (hF : p.Free i) (hg : GdQ os a p B B0 w0 af gd) (h0 : SrcQ os a p B B0 w0 af x0 fun v w => Num w v z0) (h1 : SrcQ os a p B B0 w0 af x1 fun v w => Num w v z1) (h2 : SrcQ os a p B B0 w0 af x2 fun v w => Num w v z2) (h3 : SrcQ os a p B B0 w0 af x3 fun v w => Num w v z3) (hC : ∀ v w, (Fq.st [.n z0, .n z1, .n z2, .n z3]).P v w → (p.c i).P v w) :
  zAr os Q a p B B0 w0 i { dst := d, op := .build 36 #[(0, x0), (1, x1), (2, x2), (3, x3)], type := ty, pos := ps, after := af, guard := gd } := by
 refine zBk hp hF hg fun L vs w hG hL hc hd => ?_
 have g0 := h0 L vs w hG hd
 obtain ⟨n0, ao0, k0, c0, e0⟩ := g0.parts
 have m0 : Num w (.agg #[.bool n0, .slice ao0 k0 c0]) z0 := by rw [← e0]; exact g0
 have g1 := h1 L vs w hG hd
 obtain ⟨n1, ao1, k1, c1, e1⟩ := g1.parts
 have m1 : Num w (.agg #[.bool n1, .slice ao1 k1 c1]) z1 := by rw [← e1]; exact g1
 have g2 := h2 L vs w hG hd
 obtain ⟨n2, ao2, k2, c2, e2⟩ := g2.parts
 have m2 : Num w (.agg #[.bool n2, .slice ao2 k2 c2]) z2 := by rw [← e2]; exact g2
 have g3 := h3 L vs w hG hd
 obtain ⟨n3, ao3, k3, c3, e3⟩ := g3.parts
 have m3 : Num w (.agg #[.bool n3, .slice ao3 k3 c3]) z3 := by rw [← e3]; exact g3
 refine ⟨.agg #[.bool n0, .slice ao0 k0 c0, .bool n1, .slice ao1 k1 c1, .bool n2, .slice ao2 k2 c2, .bool n3, .slice ao3 k3 c3], ?_, hC _ _ ⟨_, rfl, _, _, _, rfl, m0, _, _, _, rfl, m1, _, _, _, rfl, m2, _, _, _, rfl, m3, rfl⟩⟩
 generalize (lay os.toArray L vs os.toArray.size a).eval = ρ at e0 e1 e2 e3
 simp [execOp, go_sem, e0, e1, e2, e3]
end
set_option maxRecDepth 100000 in
set_option maxHeartbeats 4000000 in
theorem zDz {w : World} {v v' u u' : Value} {a b c d : Int} (h : Num w v a) (h' : Num w v' b) (g : Num w u c) (g' : Num w u' d) (ha : ab a < pw 200) (hb : ab b < pw 200) (hc : ab c < pw 200) (hd : ab d < pw 200) :
  Calls Try.prog 65 #[v, v', u, u'] w fun e w' => ∃ v', e = .returned v' ∧ Below w.heap.size w w' ∧ Num w' v' ((a * b) + (c * d)) := by
 replace ha := hidd ha
 replace hb := hidd hb
 replace hc := hidd hc
 replace hd := hidd hd
 obtain ⟨n0, ao0, k0, c0, rfl⟩ := h.parts
 obtain ⟨n1, ao1, k1, c1, rfl⟩ := h'.parts
 obtain ⟨n2, ao2, k2, c2, rfl⟩ := g.parts
 obtain ⟨n3, ao3, k3, c3, rfl⟩ := g'.parts
 obtain ⟨w1, b1, hw1, hb1, hs1, E⟩ := zCh w (F := Fq.num a) (us := [.bool n0, .slice ao0 k0 c0]) 31 rfl (by simp) (zB4 _ _ _ _) h
 obtain ⟨w2, b2, hw2, hb2, hs2, E⟩ := fN E hs1 31 h'
 obtain ⟨w3, b3, hw3, hb3, hs3, E⟩ := zC4 E hs2 (F := Fq.num c) (us := [.bool n2, .slice ao2 k2 c2]) 31 rfl (by simp) (zB4 _ _ _ _) (g.mono E.below)
 obtain ⟨w4, b4, hw4, hb4, hs4, E⟩ := zC4 E hs3 (F := Fq.num d) (us := [.bool n3, .slice ao3 k3 c3]) 31 rfl (by simp) (zB4 _ _ _ _) (g'.mono E.below)
 obtain ⟨w5, b5, hw5, hb5, hs5, E⟩ := fZ E hs4 31
 go_enter Try.func65, Try.ntmps65
 go_upto_region 1 with (fail)
 rw [← hw1]
 rw [← hw2]
 rw [← hw3]
 rw [← hw4]
 rw [← hw5]
 rw [← hb5]
 rw [← hb4]
 rw [← hb3]
 rw [← hb2]
 rw [← hb1]
 clear hw1 hw2 hw3 hw4 hw5 hb1 hb2 hb3 hb4 hb5 hs5 hs1 hs2 hs3 hs4
 have B6 : Hid (ab ((a * b)) < pw 400) := zAt ha.out hb.out (by omega)
 have B7 : Hid (ab ((c * d)) < pw 400) := zAt hc.out hd.out (by omega)
 have B8 : Hid (ab (((a * b) + (c * d))) < pw 401) := zA9 B6.out B7.out (by omega) (by omega)
 refine rg [Fq.num a, Fq.num b, Fq.num (a * b), Fq.num c, Fq.num d, Fq.num (c * d), Fq.num ((a * b) + (c * d)), Fq.any] [some (7, Fq.num ((a * b) + (c * d))), none, none, none, none] [] E (fun hp => ⟨?_, ?_, ?_, ?_, ?_, ?_, ?_, ?_, tv⟩) ?_
 ·exact lI 0 hp (mq 4 rfl) (sqo 4) fun us w hl h => zAq hl h
 ·exact lI 0 hp (mq 3 rfl) (sqo 5) fun us w hl h => zAq hl h
 ·exact wXb (Fq.num a) (Fq.num b) hp zCe (sqi 0) (sqi 1) fun v v' w h h' => exK (zB6 h h') B6.out (by omega)
 ·exact lI 0 hp (mq 2 rfl) (sqo 6) fun us w hl h => zAq hl h
 ·exact lI 0 hp (mq 1 rfl) (sqo 7) fun us w hl h => zAq hl h
 ·exact wXb (Fq.num c) (Fq.num d) hp zCe (sqi 3) (sqi 4) fun v v' w h h' => exK (zB6 h h') B7.out (by omega)
 ·exact wXb (Fq.num (a * b)) (Fq.num (c * d)) hp zGd (sqi 2) (sqi 5) fun v v' w h h' => exK (zDv h h') B8.out (by omega)
 ·exact sP 6 hp (mq 0 rfl) (sqo 8)
 intro L vs w9 nb hL hC hn E9
 have E := E9; try simp only [LM, zAd] at E
 rw [zAe hL]
 simp only [SP, Nat.zero_add, Nat.reduceAdd]
 generalize vs 0 = u9_0
 generalize vs 1 = u9_1
 generalize vs 2 = u9_2
 generalize vs 3 = u9_3
 generalize vs 4 = u9_4
 generalize vs 5 = u9_5
 generalize vs 6 = u9_6
 clear  hC hn E9 hL vs L nb
 obtain ⟨p0_0, p0_1, c0_0, c0_1, hP0⟩ := zD6 (E.box 0 rfl)
 clear B6 B7 B8 ha hb hc hd
 go_wp2
 refine bodyPost_ret (v := .agg #[p0_0, p0_1]) ?_ rfl ⟨_, rfl, E.below, hP0⟩
 simp [results, Try.results65, go_sem, c0_0, c0_1]

set_option maxRecDepth 100000 in
set_option maxHeartbeats 4000000 in
theorem exQDisc0 {w : World} {v : Value} {a b c : Int} (h : (Fq.st [.n a, .n b, .n c]).P v w) (ha : ab a < pw 60) (hb : ab b < pw 60) (hc : ab c < pw 60) :
  Calls Try.prog 61 #[v] w fun e w' => ∃ v', e = .returned v' ∧ Below w.heap.size w w' ∧ Num w' v' (((b * b) + (((-4) * a) * c))) := by
 replace ha := hidd ha
 replace hb := hidd hb
 replace hc := hidd hc
 obtain ⟨_, rfl, hf0⟩ := h
 have hF0 := hf0
 obtain ⟨y0_p0, y0_q0, _, rfl, _y0_n0, y0_p1, y0_q1, _, rfl, _y0_n1, y0_p2, y0_q2, _, rfl, _y0_n2, rfl⟩ := hf0
 obtain ⟨w1, b1, hw1, hb1, hs1, E⟩ := gS w 33 hF0
 obtain ⟨w2, b2, hw2, hb2, hs2, E⟩ := fZ E hs1 31
 go_enter Try.func61, Try.ntmps61
 go_upto_region 1 with (fail)
 rw [← hw1]
 rw [← hw2]
 rw [← hb2]
 rw [← hb1]
 clear hw1 hw2 hb1 hb2 hs2 hs1
 have B3 : Hid (ab ((-4)) < pw 3) := zBa (by decide)
 have B4 : Hid (ab (((-4) * a)) < pw 63) := zAt B3.out ha.out (by omega)
 have B5 : Hid (ab ((b * b)) < pw 120) := zAt hb.out hb.out (by omega)
 have B6 : Hid (ab ((((-4) * a) * c)) < pw 123) := zAt B4.out hc.out (by omega)
 have B7 : Hid (ab (((b * b) + (((-4) * a) * c))) < pw 124) := zA9 B5.out B6.out (by omega) (by omega)
 refine rg [ip b1 2, Fq.num b, ip b1 2, Fq.num b, Fq.num (-4), ip b1 0, Fq.num a, Fq.num ((-4) * a), ip b1 4, Fq.num c, Fq.num ((b * b) + (((-4) * a) * c)), Fq.any] [some (11, Fq.num ((b * b) + (((-4) * a) * c))), none] [] E (fun hp => ⟨?_, ?_, ?_, ?_, ?_, ?_, ?_, ?_, ?_, ?_, ?_, ?_, tv⟩) ?_
 ·exact qa b1 0 2 hp (sqo 1)
 ·exact lN 2 2 hp (mq 1 rfl) zAb (sqi 0)
 ·exact qa b1 0 2 hp (sqo 1)
 ·exact lN 2 2 hp (mq 1 rfl) zAb (sqi 2)
 ·exact zAm (F := (Fq.is (.int .i64 (-4))).P) hp fo tv (zBu) (zAj (fun _ => rfl)) (fun v w h => (by subst h; exact rOfK w (-4) (by omega) (by omega)))
 ·exact qa b1 0 0 hp (sqo 1)
 ·exact lN 0 2 hp (mq 1 rfl) zAb (sqi 5)
 ·exact wXb (Fq.num (-4)) (Fq.num a) hp zCe (sqi 4) (sqi 6) fun v v' w h h' => exK (zB6 h h') B4.out (by omega)
 ·exact qa b1 0 4 hp (sqo 1)
 ·exact lN 4 2 hp (mq 1 rfl) zAb (sqi 8)
 ·exact zDe (F := (Fq.num b).P) (G := (Fq.num b).P) (F3 := (Fq.num ((-4) * a)).P) (F4 := (Fq.num c).P) hp fo tv (zDx) (sqi 1) (sqi 3) (sqi 7) (sqi 9) (fun v v' u u' w h h' g g' => zDz h h' g g' (Int.lt_of_lt_of_le hb.out (zAa (by omega))) (Int.lt_of_lt_of_le hb.out (zAa (by omega))) (Int.lt_of_lt_of_le B4.out (zAa (by omega))) (Int.lt_of_lt_of_le hc.out (zAa (by omega))))
 ·exact sP 10 hp (mq 0 rfl) (sqo 2)
 intro L vs w8 nb hL hC hn E8
 have e0 := wXi hC 0
 have e2 := wXi hC 2
 have e5 := wXi hC 5
 have e8 := wXi hC 8
 have E := E8; try simp only [LM, zAd] at E
 rw [zAe hL]
 simp only [SP, Nat.zero_add, Nat.reduceAdd]
 rw [e0, e2, e5, e8]
 generalize vs 1 = u8_1
 generalize vs 3 = u8_3
 generalize vs 4 = u8_4
 generalize vs 6 = u8_6
 generalize vs 7 = u8_7
 generalize vs 9 = u8_9
 generalize vs 10 = u8_10
 clear e0 e2 e5 e8 hC hn E8 hL vs L nb
 obtain ⟨p0_0, p0_1, c0_0, c0_1, hP0⟩ := zD6 (E.box 0 rfl)
 clear B3 B4 B5 B6 B7 ha hb hc
 go_wp2
 refine bodyPost_ret (v := .agg #[p0_0, p0_1]) ?_ rfl ⟨_, rfl, E.below, hP0⟩
 simp [results, Try.results61, go_sem, c0_0, c0_1]

theorem zDy {w : World} {v : Value} {a b c : Int} (h : (Fq.st [.n a, .n b, .n c]).P v w) (ha : ab a < pw 60) (hb : ab b < pw 60) (hc : ab c < pw 60) :
  Calls Try.prog 61 #[v] w fun e w' => ∃ v', e = .returned v' ∧ Below w.heap.size w w' ∧ Num w' v' (b * b - 4 * (a * c)) := by
 have e : b * b - 4 * (a * c) = ((b * b) + (((-4) * a) * c)) := by rw [Int.mul_assoc, Int.neg_mul]; omega
 rw [e]
 exact exQDisc0 h ha hb hc

set_option maxRecDepth 100000 in
set_option maxHeartbeats 4000000 in
theorem exQValue0 {w : World} {v v' u : Value} {a b c x y : Int} (h : (Fq.st [.n a, .n b, .n c]).P v w) (h' : Num w v' x) (g : Num w u y) (ha : ab a < pw 60) (hb : ab b < pw 60) (hc : ab c < pw 60) (hx : ab x < pw 60) (hy : ab y < pw 60) :
  Calls Try.prog 66 #[v, v', u] w fun e w' => ∃ v', e = .returned v' ∧ Below w.heap.size w w' ∧ Num w' v' (((x * ((a * x) + (b * y))) + (c * (y * y)))) := by
 replace ha := hidd ha
 replace hb := hidd hb
 replace hc := hidd hc
 replace hx := hidd hx
 replace hy := hidd hy
 obtain ⟨_, rfl, hf0⟩ := h
 have hF0 := hf0
 obtain ⟨y0_p0, y0_q0, _, rfl, _y0_n0, y0_p1, y0_q1, _, rfl, _y0_n1, y0_p2, y0_q2, _, rfl, _y0_n2, rfl⟩ := hf0
 obtain ⟨n1, ao1, k1, c1, rfl⟩ := h'.parts
 obtain ⟨n2, ao2, k2, c2, rfl⟩ := g.parts
 obtain ⟨w1, b1, hw1, hb1, hs1, E⟩ := gS w 33 hF0
 obtain ⟨w2, b2, hw2, hb2, hs2, E⟩ := fN E hs1 31 h'
 obtain ⟨w3, b3, hw3, hb3, hs3, E⟩ := zC4 E hs2 (F := Fq.num y) (us := [.bool n2, .slice ao2 k2 c2]) 31 rfl (by simp) (zB4 _ _ _ _) (g.mono E.below)
 obtain ⟨w4, b4, hw4, hb4, hs4, E⟩ := fZ E hs3 31
 go_enter Try.func66, Try.ntmps66
 go_upto_region 1 with (fail)
 rw [← hw1]
 rw [← hw2]
 rw [← hw3]
 rw [← hw4]
 rw [← hb4]
 rw [← hb3]
 rw [← hb2]
 rw [← hb1]
 clear hw1 hw2 hw3 hw4 hb1 hb2 hb3 hb4 hs4 hs1 hs2 hs3
 have B5 : Hid (ab ((a * x)) < pw 120) := zAt ha.out hx.out (by omega)
 have B6 : Hid (ab ((b * y)) < pw 120) := zAt hb.out hy.out (by omega)
 have B7 : Hid (ab (((a * x) + (b * y))) < pw 121) := zA9 B5.out B6.out (by omega) (by omega)
 have B8 : Hid (ab ((x * ((a * x) + (b * y)))) < pw 181) := zAt hx.out B7.out (by omega)
 have B9 : Hid (ab ((y * y)) < pw 120) := zAt hy.out hy.out (by omega)
 have B10 : Hid (ab ((c * (y * y))) < pw 180) := zAt hc.out B9.out (by omega)
 have B11 : Hid (ab (((x * ((a * x) + (b * y))) + (c * (y * y)))) < pw 182) := zA9 B8.out B10.out (by omega) (by omega)
 refine rg [Fq.num x, ip b1 0, Fq.num a, Fq.num x, ip b1 2, Fq.num b, Fq.num y, Fq.num ((a * x) + (b * y)), Fq.num (x * ((a * x) + (b * y))), ip b1 4, Fq.num c, Fq.num y, Fq.num y, Fq.num (y * y), Fq.num (c * (y * y)), Fq.num ((x * ((a * x) + (b * y))) + (c * (y * y))), Fq.any] [some (16, Fq.num ((x * ((a * x) + (b * y))) + (c * (y * y)))), none, none, none] [] E (fun hp => ⟨?_, ?_, ?_, ?_, ?_, ?_, ?_, ?_, ?_, ?_, ?_, ?_, ?_, ?_, ?_, ?_, ?_, tv⟩) ?_
 ·exact lI 0 hp (mq 2 rfl) (sqo 4) fun us w hl h => zAq hl h
 ·exact qa b1 0 0 hp (sqo 3)
 ·exact lN 0 2 hp (mq 3 rfl) zAb (sqi 1)
 ·exact lI 0 hp (mq 2 rfl) (sqo 4) fun us w hl h => zAq hl h
 ·exact qa b1 0 2 hp (sqo 3)
 ·exact lN 2 2 hp (mq 3 rfl) zAb (sqi 4)
 ·exact lI 0 hp (mq 1 rfl) (sqo 5) fun us w hl h => zAq hl h
 ·exact zDe (F := (Fq.num a).P) (G := (Fq.num x).P) (F3 := (Fq.num b).P) (F4 := (Fq.num y).P) hp fo tv (zDx) (sqi 2) (sqi 3) (sqi 5) (sqi 6) (fun v v' u u' w h h' g g' => zDz h h' g g' (Int.lt_of_lt_of_le ha.out (zAa (by omega))) (Int.lt_of_lt_of_le hx.out (zAa (by omega))) (Int.lt_of_lt_of_le hb.out (zAa (by omega))) (Int.lt_of_lt_of_le hy.out (zAa (by omega))))
 ·exact wXb (Fq.num x) (Fq.num ((a * x) + (b * y))) hp zCe (sqi 0) (sqi 7) fun v v' w h h' => exK (zB6 h h') B8.out (by omega)
 ·exact qa b1 0 4 hp (sqo 3)
 ·exact lN 4 2 hp (mq 3 rfl) zAb (sqi 9)
 ·exact lI 0 hp (mq 1 rfl) (sqo 5) fun us w hl h => zAq hl h
 ·exact lI 0 hp (mq 1 rfl) (sqo 5) fun us w hl h => zAq hl h
 ·exact wXb (Fq.num y) (Fq.num y) hp zCe (sqi 11) (sqi 12) fun v v' w h h' => exK (zB6 h h') B9.out (by omega)
 ·exact wXb (Fq.num c) (Fq.num (y * y)) hp zCe (sqi 10) (sqi 13) fun v v' w h h' => exK (zB6 h h') B10.out (by omega)
 ·exact wXb (Fq.num (x * ((a * x) + (b * y)))) (Fq.num (c * (y * y))) hp zGd (sqi 8) (sqi 14) fun v v' w h h' => exK (zDv h h') B11.out (by omega)
 ·exact sP 15 hp (mq 0 rfl) (sqo 6)
 intro L vs w12 nb hL hC hn E12
 have e1 := wXi hC 1
 have e4 := wXi hC 4
 have e9 := wXi hC 9
 have E := E12; try simp only [LM, zAd] at E
 rw [zAe hL]
 simp only [SP, Nat.zero_add, Nat.reduceAdd]
 rw [e1, e4, e9]
 generalize vs 0 = u12_0
 generalize vs 2 = u12_2
 generalize vs 3 = u12_3
 generalize vs 5 = u12_5
 generalize vs 6 = u12_6
 generalize vs 7 = u12_7
 generalize vs 8 = u12_8
 generalize vs 10 = u12_10
 generalize vs 11 = u12_11
 generalize vs 12 = u12_12
 generalize vs 13 = u12_13
 generalize vs 14 = u12_14
 generalize vs 15 = u12_15
 clear e1 e4 e9 hC hn E12 hL vs L nb
 obtain ⟨p0_0, p0_1, c0_0, c0_1, hP0⟩ := zD6 (E.box 0 rfl)
 clear B5 B6 B7 B8 B9 B10 B11 ha hb hc hx hy
 go_wp2
 refine bodyPost_ret (v := .agg #[p0_0, p0_1]) ?_ rfl ⟨_, rfl, E.below, hP0⟩
 simp [results, Try.results66, go_sem, c0_0, c0_1]

theorem qv_eq (a b c x y : Int) : qv a b c x y = ((x * ((a * x) + (b * y))) + (c * (y * y))) := by
 unfold qv
 have e1 : x * ((a * x) + (b * y)) = a * (x * x) + b * (x * y) := by rw [Int.mul_add, Int.mul_left_comm, Int.mul_left_comm x b]
 rw [e1]
theorem zJt {w : World} {v v' u : Value} {a b c x y : Int} (h : (Fq.st [.n a, .n b, .n c]).P v w) (h' : Num w v' x) (g : Num w u y) (ha : ab a < pw 60) (hb : ab b < pw 60) (hc : ab c < pw 60) (hx : ab x < pw 60) (hy : ab y < pw 60) :
  Calls Try.prog 66 #[v, v', u] w fun e w' => ∃ v', e = .returned v' ∧ Below w.heap.size w w' ∧ Num w' v' (qv a b c x y) := by
 rw [qv_eq]
 exact exQValue0 h h' g ha hb hc hx hy

set_option maxRecDepth 100000 in
set_option maxHeartbeats 4000000 in
theorem exQApply0 {w : World} {v v' : Value} {a b c x1 x2 x3 x4 : Int} (h : (Fq.st [.n a, .n b, .n c]).P v w) (h' : (Fq.st [.n x1, .n x2, .n x3, .n x4]).P v' w) (ha : ab a < pw 60) (hb : ab b < pw 60) (hc : ab c < pw 60) (hx1 : ab x1 < pw 60) (hx2 : ab x2 < pw 60) (hx3 : ab x3 < pw 60) (hx4 : ab x4 < pw 60) :
  Calls Try.prog 28 #[v, v'] w fun e w' => ∃ v', e = .returned v' ∧ Below w.heap.size w w' ∧ (Fq.st [.n (qv a b c x1 x3), .n ((((2) * (a * (x1 * x2))) + ((b * ((x1 * x4) + (x2 * x3))) + ((2) * (c * (x3 * x4)))))), .n (qv a b c x2 x4)]).P v' w' := by
 replace ha := hidd ha
 replace hb := hidd hb
 replace hc := hidd hc
 replace hx1 := hidd hx1
 replace hx2 := hidd hx2
 replace hx3 := hidd hx3
 replace hx4 := hidd hx4
 obtain ⟨_, rfl, hf0⟩ := h
 have hF0 := hf0
 obtain ⟨y0_p0, y0_q0, _, rfl, _y0_n0, y0_p1, y0_q1, _, rfl, _y0_n1, y0_p2, y0_q2, _, rfl, _y0_n2, rfl⟩ := hf0
 obtain ⟨_, rfl, hf1⟩ := h'
 have hF1 := hf1
 obtain ⟨y1_p0, y1_q0, _, rfl, _y1_n0, y1_p1, y1_q1, _, rfl, _y1_n1, y1_p2, y1_q2, _, rfl, _y1_n2, y1_p3, y1_q3, _, rfl, _y1_n3, rfl⟩ := hf1
 obtain ⟨w1, b1, hw1, hb1, hs1, E⟩ := gS w 33 hF0
 obtain ⟨w2, b2, hw2, hb2, hs2, E⟩ := fS E hs1 36 hF1
 obtain ⟨w3, b3, hw3, hb3, hs3, E⟩ := fO E hs2 33 zBe
 go_enter Try.func28, Try.ntmps28
 go_upto_region 1 with (fail)
 rw [← hw1]
 rw [← hw2]
 rw [← hw3]
 rw [← hb3]
 rw [← hb2]
 rw [← hb1]
 clear hw1 hw2 hw3 hb1 hb2 hb3 hs3 hs1 hs2
 have B4 : Hid (ab ((2)) < pw 3) := zBa (by decide)
 refine rg [Fq.num (2), Fq.any, Fq.any] N3 [⟨1, 2, 2, Fq.num 0, Fq.num (2), none⟩] E (fun hp => ⟨?_, ?_, ?_, tv⟩) ?_
 ·exact zAm (F := (Fq.is (.int .i64 2)).P) hp fo tv (zBu) (zAj (fun _ => rfl)) (fun v w h => (by subst h; exact rOfK w (2) (by omega) (by omega)))
 ·exact aN hp (mq 0 rfl)
 ·exact sN 0 hp (mq 0 rfl)
 intro L vs w5 nb hL hC hn E5
 have e1 : vs 1 = .pointer (some ⟨nb 1, 0, none⟩) := hn _ (mq 0 rfl)
 have E := E5; try simp only [LM, zAd] at E
 rw [zAe hL]
 simp only [SP, Nat.zero_add, Nat.reduceAdd]
 rw [e1]
 generalize nb 1 = b5_1 at E ⊢
 generalize vs 0 = u5_0
 clear e1 hC hn E5 hL vs L nb
 go_upto_region 2 with (fail)
 have B6 : Hid (ab ((x1 * x2)) < pw 120) := zAt hx1.out hx2.out (by omega)
 have B7 : Hid (ab ((a * (x1 * x2))) < pw 180) := zAt ha.out B6.out (by omega)
 have B8 : Hid (ab (((2) * (a * (x1 * x2)))) < pw 183) := zAt B4.out B7.out (by omega)
 have B9 : Hid (ab ((x1 * x4)) < pw 120) := zAt hx1.out hx4.out (by omega)
 have B10 : Hid (ab ((x2 * x3)) < pw 120) := zAt hx2.out hx3.out (by omega)
 have B11 : Hid (ab (((x1 * x4) + (x2 * x3))) < pw 121) := zA9 B9.out B10.out (by omega) (by omega)
 have B12 : Hid (ab ((b * ((x1 * x4) + (x2 * x3)))) < pw 181) := zAt hb.out B11.out (by omega)
 have B13 : Hid (ab ((x3 * x4)) < pw 120) := zAt hx3.out hx4.out (by omega)
 have B14 : Hid (ab ((c * (x3 * x4))) < pw 180) := zAt hc.out B13.out (by omega)
 have B15 : Hid (ab (((2) * (c * (x3 * x4)))) < pw 183) := zAt B4.out B14.out (by omega)
 have B16 : Hid (ab (((b * ((x1 * x4) + (x2 * x3))) + ((2) * (c * (x3 * x4))))) < pw 184) := zA9 B12.out B15.out (by omega) (by omega)
 have B17 : Hid (ab ((((2) * (a * (x1 * x2))) + ((b * ((x1 * x4) + (x2 * x3))) + ((2) * (c * (x3 * x4)))))) < pw 185) := zA9 B8.out B16.out (by omega) (by omega)
 refine rg [Fq.num (2), ip b1 0, Fq.num a, ip b2 0, Fq.num x1, ip b2 2, Fq.num x2, Fq.num (x1 * x2), Fq.num (a * (x1 * x2)), Fq.num ((2) * (a * (x1 * x2))), ip b1 2, Fq.num b, ip b2 0, Fq.num x1, ip b2 6, Fq.num x4, ip b2 2, Fq.num x2, ip b2 4, Fq.num x3, Fq.num ((x1 * x4) + (x2 * x3)), Fq.num (b * ((x1 * x4) + (x2 * x3))), Fq.num (2), ip b1 4, Fq.num c, ip b2 4, Fq.num x3, ip b2 6, Fq.num x4, Fq.num (x3 * x4), Fq.num (c * (x3 * x4)), Fq.num ((2) * (c * (x3 * x4))), Fq.num ((b * ((x1 * x4) + (x2 * x3))) + ((2) * (c * (x3 * x4)))), Fq.num (((2) * (a * (x1 * x2))) + ((b * ((x1 * x4) + (x2 * x3))) + ((2) * (c * (x3 * x4))))), Fq.any, Fq.any] N4 [⟨34, 35, 2, Fq.num 0, Fq.num (((2) * (a * (x1 * x2))) + ((b * ((x1 * x4) + (x2 * x3))) + ((2) * (c * (x3 * x4))))), none⟩] E (fun hp => ⟨?_, ?_, ?_, ?_, ?_, ?_, ?_, ?_, ?_, ?_, ?_, ?_, ?_, ?_, ?_, ?_, ?_, ?_, ?_, ?_, ?_, ?_, ?_, ?_, ?_, ?_, ?_, ?_, ?_, ?_, ?_, ?_, ?_, ?_, ?_, ?_, tv⟩) ?_
 ·exact lI 0 hp (mq 0 rfl) (sqo 5) fun us w hl h => zAq hl h
 ·exact qa b1 0 0 hp (sqo 2)
 ·exact lN 0 2 hp (mq 3 rfl) zAb (sqi 1)
 ·exact qa b2 0 0 hp (sqo 3)
 ·exact lN 0 2 hp (mq 2 rfl) zAb (sqi 3)
 ·exact qa b2 0 2 hp (sqo 3)
 ·exact lN 2 2 hp (mq 2 rfl) zAb (sqi 5)
 ·exact wXb (Fq.num x1) (Fq.num x2) hp zCe (sqi 4) (sqi 6) fun v v' w h h' => exK (zB6 h h') B6.out (by omega)
 ·exact wXb (Fq.num a) (Fq.num (x1 * x2)) hp zCe (sqi 2) (sqi 7) fun v v' w h h' => exK (zB6 h h') B7.out (by omega)
 ·exact wXb (Fq.num (2)) (Fq.num (a * (x1 * x2))) hp zCe (sqi 0) (sqi 8) fun v v' w h h' => exK (zB6 h h') B8.out (by omega)
 ·exact qa b1 0 2 hp (sqo 2)
 ·exact lN 2 2 hp (mq 3 rfl) zAb (sqi 10)
 ·exact qa b2 0 0 hp (sqo 3)
 ·exact lN 0 2 hp (mq 2 rfl) zAb (sqi 12)
 ·exact qa b2 0 6 hp (sqo 3)
 ·exact lN 6 2 hp (mq 2 rfl) zAb (sqi 14)
 ·exact qa b2 0 2 hp (sqo 3)
 ·exact lN 2 2 hp (mq 2 rfl) zAb (sqi 16)
 ·exact qa b2 0 4 hp (sqo 3)
 ·exact lN 4 2 hp (mq 2 rfl) zAb (sqi 18)
 ·exact zDe (F := (Fq.num x1).P) (G := (Fq.num x4).P) (F3 := (Fq.num x2).P) (F4 := (Fq.num x3).P) hp fo tv (zDx) (sqi 13) (sqi 15) (sqi 17) (sqi 19) (fun v v' u u' w h h' g g' => zDz h h' g g' (Int.lt_of_lt_of_le hx1.out (zAa (by omega))) (Int.lt_of_lt_of_le hx4.out (zAa (by omega))) (Int.lt_of_lt_of_le hx2.out (zAa (by omega))) (Int.lt_of_lt_of_le hx3.out (zAa (by omega))))
 ·exact wXb (Fq.num b) (Fq.num ((x1 * x4) + (x2 * x3))) hp zCe (sqi 11) (sqi 20) fun v v' w h h' => exK (zB6 h h') B12.out (by omega)
 ·exact lI 0 hp (mq 0 rfl) (sqo 5) fun us w hl h => zAq hl h
 ·exact qa b1 0 4 hp (sqo 2)
 ·exact lN 4 2 hp (mq 3 rfl) zAb (sqi 23)
 ·exact qa b2 0 4 hp (sqo 3)
 ·exact lN 4 2 hp (mq 2 rfl) zAb (sqi 25)
 ·exact qa b2 0 6 hp (sqo 3)
 ·exact lN 6 2 hp (mq 2 rfl) zAb (sqi 27)
 ·exact wXb (Fq.num x3) (Fq.num x4) hp zCe (sqi 26) (sqi 28) fun v v' w h h' => exK (zB6 h h') B13.out (by omega)
 ·exact wXb (Fq.num c) (Fq.num (x3 * x4)) hp zCe (sqi 24) (sqi 29) fun v v' w h h' => exK (zB6 h h') B14.out (by omega)
 ·exact wXb (Fq.num (2)) (Fq.num (c * (x3 * x4))) hp zCe (sqi 22) (sqi 30) fun v v' w h h' => exK (zB6 h h') B15.out (by omega)
 ·exact wXb (Fq.num (b * ((x1 * x4) + (x2 * x3)))) (Fq.num ((2) * (c * (x3 * x4)))) hp zGd (sqi 21) (sqi 31) fun v v' w h h' => exK (zDv h h') B16.out (by omega)
 ·exact wXb (Fq.num ((2) * (a * (x1 * x2)))) (Fq.num ((b * ((x1 * x4) + (x2 * x3))) + ((2) * (c * (x3 * x4))))) hp zGd (sqi 9) (sqi 32) fun v v' w h h' => exK (zDv h h') B17.out (by omega)
 ·exact aN hp (mq 0 rfl)
 ·exact sN 33 hp (mq 0 rfl)
 intro L vs w18 nb hL hC hn E18
 have e1 := wXi hC 1
 have e3 := wXi hC 3
 have e5 := wXi hC 5
 have e10 := wXi hC 10
 have e12 := wXi hC 12
 have e14 := wXi hC 14
 have e16 := wXi hC 16
 have e18 := wXi hC 18
 have e23 := wXi hC 23
 have e25 := wXi hC 25
 have e27 := wXi hC 27
 have e34 : vs 34 = .pointer (some ⟨nb 34, 0, none⟩) := hn _ (mq 0 rfl)
 have E := E18; try simp only [LM, zAd] at E
 rw [zAe hL]
 simp only [SP, Nat.zero_add, Nat.reduceAdd]
 rw [e1, e3, e5, e10, e12, e14, e16, e18, e23, e25, e27, e34]
 generalize nb 34 = b18_34 at E ⊢
 generalize vs 0 = u18_0
 generalize vs 2 = u18_2
 generalize vs 4 = u18_4
 generalize vs 6 = u18_6
 generalize vs 7 = u18_7
 generalize vs 8 = u18_8
 generalize vs 9 = u18_9
 generalize vs 11 = u18_11
 generalize vs 13 = u18_13
 generalize vs 15 = u18_15
 generalize vs 17 = u18_17
 generalize vs 19 = u18_19
 generalize vs 20 = u18_20
 generalize vs 21 = u18_21
 generalize vs 22 = u18_22
 generalize vs 24 = u18_24
 generalize vs 26 = u18_26
 generalize vs 28 = u18_28
 generalize vs 29 = u18_29
 generalize vs 30 = u18_30
 generalize vs 31 = u18_31
 generalize vs 32 = u18_32
 generalize vs 33 = u18_33
 clear e1 e3 e5 e10 e12 e14 e16 e18 e23 e25 e27 e34 hC hn E18 hL vs L nb
 go_upto_region 3 with (fail)
 refine rg [Fq.st [.n a, .n b, .n c], ip b2 0, Fq.num x1, ip b2 4, Fq.num x3, Fq.num (qv a b c x1 x3), Fq.num (((2) * (a * (x1 * x2))) + ((b * ((x1 * x4) + (x2 * x3))) + ((2) * (c * (x3 * x4))))), Fq.st [.n a, .n b, .n c], ip b2 2, Fq.num x2, ip b2 6, Fq.num x4, Fq.num (qv a b c x2 x4), Fq.st [.n (qv a b c x1 x3), .n (((2) * (a * (x1 * x2))) + ((b * ((x1 * x4) + (x2 * x3))) + ((2) * (c * (x3 * x4))))), .n (qv a b c x2 x4)], Fq.any] [none, none, some (14, Fq.st [.n (qv a b c x1 x3), .n (((2) * (a * (x1 * x2))) + ((b * ((x1 * x4) + (x2 * x3))) + ((2) * (c * (x3 * x4))))), .n (qv a b c x2 x4)]), none, none] [] E (fun hp => ⟨?_, ?_, ?_, ?_, ?_, ?_, ?_, ?_, ?_, ?_, ?_, ?_, ?_, ?_, ?_, tv⟩) ?_
 ·exact lS 0 6 hp (mq 4 rfl) zAn (sqo 2)
 ·exact qa b2 0 0 hp (sqo 3)
 ·exact lN 0 2 hp (mq 3 rfl) zAb (sqi 1)
 ·exact qa b2 0 4 hp (sqo 3)
 ·exact lN 4 2 hp (mq 3 rfl) zAb (sqi 3)
 ·exact zCj (F := (Fq.st [.n a, .n b, .n c]).P) (G := (Fq.num x1).P) (F3 := (Fq.num x3).P) hp fo tv (zJc) (sqi 0) (sqi 2) (sqi 4) (fun v v' u w h h' g => zJt h h' g ha.out hb.out hc.out hx1.out hx3.out)
 ·exact lI 0 hp (mq 0 rfl) (sqo 6) fun us w hl h => zAq hl h
 ·exact lS 0 6 hp (mq 4 rfl) zAn (sqo 2)
 ·exact qa b2 0 2 hp (sqo 3)
 ·exact lN 2 2 hp (mq 3 rfl) zAb (sqi 8)
 ·exact qa b2 0 6 hp (sqo 3)
 ·exact lN 6 2 hp (mq 3 rfl) zAb (sqi 10)
 ·exact zCj (F := (Fq.st [.n a, .n b, .n c]).P) (G := (Fq.num x2).P) (F3 := (Fq.num x4).P) hp fo tv (zJc) (sqi 7) (sqi 9) (sqi 11) (fun v v' u w h h' g => zJt h h' g ha.out hb.out hc.out hx2.out hx4.out)
 ·exact zFp (z0 := (qv a b c x1 x3)) (z1 := (((2) * (a * (x1 * x2))) + ((b * ((x1 * x4) + (x2 * x3))) + ((2) * (c * (x3 * x4)))))) (z2 := (qv a b c x2 x4)) hp fo tv (sqi 5) (sqi 6) (sqi 12) (fun v w h => h)
 ·exact sO 0 13 hp (mq 2 rfl) zA7 (sqo 4)
 intro L vs w19 nb hL hC hn E19
 have e1 := wXi hC 1
 have e3 := wXi hC 3
 have e8 := wXi hC 8
 have e10 := wXi hC 10
 have E := E19; try simp only [LM, zAd] at E
 rw [zAe hL]
 simp only [SP, Nat.zero_add, Nat.reduceAdd]
 rw [e1, e3, e8, e10]
 generalize vs 0 = u19_0
 generalize vs 2 = u19_2
 generalize vs 4 = u19_4
 generalize vs 5 = u19_5
 generalize vs 6 = u19_6
 generalize vs 7 = u19_7
 generalize vs 9 = u19_9
 generalize vs 11 = u19_11
 generalize vs 12 = u19_12
 generalize vs 13 = u19_13
 clear e1 e3 e8 e10 hC hn E19 hL vs L nb
 obtain ⟨_, _, hc0, hf0⟩ := zBi (E.box 2 rfl)
 have hP0 := hf0
 obtain ⟨r0_p0, r0_q0, _, rfl, _r0_n0, r0_p1, r0_q1, _, rfl, _r0_n1, r0_p2, r0_q2, _, rfl, _r0_n2, rfl⟩ := hf0
 have c0_0 := hc0 0 (by simp)
 have c0_1 := hc0 1 (by simp)
 have c0_2 := hc0 2 (by simp)
 have c0_3 := hc0 3 (by simp)
 have c0_4 := hc0 4 (by simp)
 have c0_5 := hc0 5 (by simp)
 simp only [List.getD_cons_zero, List.getD_cons_succ] at c0_0 c0_1 c0_2 c0_3 c0_4 c0_5
 clear hc0
 clear B4 B6 B7 B8 B9 B10 B11 B12 B13 B14 B15 B16 B17 ha hb hc hx1 hx2 hx3 hx4
 go_wp2
 refine bodyPost_ret (v := .agg #[r0_p0, r0_q0, r0_p1, r0_q1, r0_p2, r0_q2]) ?_ rfl ⟨_, rfl, E.below, ⟨_, rfl, hP0⟩⟩
 simp [results, Try.results28, go_sem, c0_0, c0_1, c0_2, c0_3, c0_4, c0_5]

theorem zHs {w : World} {v v' : Value} {a b c x1 x2 x3 x4 : Int} (h : (Fq.st [.n a, .n b, .n c]).P v w) (h' : (Fq.st [.n x1, .n x2, .n x3, .n x4]).P v' w) (ha : ab a < pw 60) (hb : ab b < pw 60) (hc : ab c < pw 60) (hx1 : ab x1 < pw 60) (hx2 : ab x2 < pw 60) (hx3 : ab x3 < pw 60) (hx4 : ab x4 < pw 60) :
  Calls Try.prog 28 #[v, v'] w fun e w' => ∃ v', e = .returned v' ∧ Below w.heap.size w w' ∧ (Fq.st [.n (qv a b c x1 x3), .n (qm a b c x1 x2 x3 x4), .n (qv a b c x2 x4)]).P v' w' := by
 have e : qm a b c x1 x2 x3 x4 = (((2) * (a * (x1 * x2))) + ((b * ((x1 * x4) + (x2 * x3))) + ((2) * (c * (x3 * x4))))) := by
  unfold qm
  rw [Int.mul_add]
  omega
 rw [e]
 exact exQApply0 h h' ha hb hc hx1 hx2 hx3 hx4

set_option maxRecDepth 100000 in
set_option maxHeartbeats 4000000 in
theorem exQDet0 {w : World} {v : Value} {x1 x2 x3 x4 : Int} (h : (Fq.st [.n x1, .n x2, .n x3, .n x4]).P v w) (hx1 : ab x1 < pw 60) (hx2 : ab x2 < pw 60) (hx3 : ab x3 < pw 60) (hx4 : ab x4 < pw 60) :
  Calls Try.prog 26 #[v] w fun e w' => ∃ v', e = .returned v' ∧ Below w.heap.size w w' ∧ Num w' v' (((x1 * x4) + ((-x2) * x3))) := by
 replace hx1 := hidd hx1
 replace hx2 := hidd hx2
 replace hx3 := hidd hx3
 replace hx4 := hidd hx4
 obtain ⟨_, rfl, hf0⟩ := h
 have hF0 := hf0
 obtain ⟨y0_p0, y0_q0, _, rfl, _y0_n0, y0_p1, y0_q1, _, rfl, _y0_n1, y0_p2, y0_q2, _, rfl, _y0_n2, y0_p3, y0_q3, _, rfl, _y0_n3, rfl⟩ := hf0
 obtain ⟨w1, b1, hw1, hb1, hs1, E⟩ := gS w 36 hF0
 obtain ⟨w2, b2, hw2, hb2, hs2, E⟩ := fZ E hs1 31
 go_enter Try.func26, Try.ntmps26
 go_upto_region 1 with (fail)
 rw [← hw1]
 rw [← hw2]
 rw [← hb2]
 rw [← hb1]
 clear hw1 hw2 hb1 hb2 hs2 hs1
 have B3 : Hid (ab ((-x2)) < pw 60) := zFy hx2.out
 have B4 : Hid (ab ((x1 * x4)) < pw 120) := zAt hx1.out hx4.out (by omega)
 have B5 : Hid (ab (((-x2) * x3)) < pw 120) := zAt B3.out hx3.out (by omega)
 have B6 : Hid (ab (((x1 * x4) + ((-x2) * x3))) < pw 121) := zA9 B4.out B5.out (by omega) (by omega)
 refine rg [ip b1 0, Fq.num x1, ip b1 6, Fq.num x4, ip b1 2, Fq.num x2, Fq.num (-x2), ip b1 4, Fq.num x3, Fq.num ((x1 * x4) + ((-x2) * x3)), Fq.any] [some (10, Fq.num ((x1 * x4) + ((-x2) * x3))), none] [] E (fun hp => ⟨?_, ?_, ?_, ?_, ?_, ?_, ?_, ?_, ?_, ?_, ?_, tv⟩) ?_
 ·exact qa b1 0 0 hp (sqo 1)
 ·exact lN 0 2 hp (mq 1 rfl) zAb (sqi 0)
 ·exact qa b1 0 6 hp (sqo 1)
 ·exact lN 6 2 hp (mq 1 rfl) zAb (sqi 2)
 ·exact qa b1 0 2 hp (sqo 1)
 ·exact lN 2 2 hp (mq 1 rfl) zAb (sqi 4)
 ·exact wXa (Fq.num x2) hp enq_R_Neg (sqi 5) fun v w h => exK (RNegV h) B3.out (by omega)
 ·exact qa b1 0 4 hp (sqo 1)
 ·exact lN 4 2 hp (mq 1 rfl) zAb (sqi 7)
 ·exact zDe (F := (Fq.num x1).P) (G := (Fq.num x4).P) (F3 := (Fq.num (-x2)).P) (F4 := (Fq.num x3).P) hp fo tv (zDx) (sqi 1) (sqi 3) (sqi 6) (sqi 8) (fun v v' u u' w h h' g g' => zDz h h' g g' (Int.lt_of_lt_of_le hx1.out (zAa (by omega))) (Int.lt_of_lt_of_le hx4.out (zAa (by omega))) (Int.lt_of_lt_of_le B3.out (zAa (by omega))) (Int.lt_of_lt_of_le hx3.out (zAa (by omega))))
 ·exact sP 9 hp (mq 0 rfl) (sqo 2)
 intro L vs w7 nb hL hC hn E7
 have e0 := wXi hC 0
 have e2 := wXi hC 2
 have e4 := wXi hC 4
 have e7 := wXi hC 7
 have E := E7; try simp only [LM, zAd] at E
 rw [zAe hL]
 simp only [SP, Nat.zero_add, Nat.reduceAdd]
 rw [e0, e2, e4, e7]
 generalize vs 1 = u7_1
 generalize vs 3 = u7_3
 generalize vs 5 = u7_5
 generalize vs 6 = u7_6
 generalize vs 8 = u7_8
 generalize vs 9 = u7_9
 clear e0 e2 e4 e7 hC hn E7 hL vs L nb
 obtain ⟨p0_0, p0_1, c0_0, c0_1, hP0⟩ := zD6 (E.box 0 rfl)
 clear B3 B4 B5 B6 hx1 hx2 hx3 hx4
 go_wp2
 refine bodyPost_ret (v := .agg #[p0_0, p0_1]) ?_ rfl ⟨_, rfl, E.below, hP0⟩
 simp [results, Try.results26, go_sem, c0_0, c0_1]

theorem exQDet {w : World} {v : Value} {x1 x2 x3 x4 : Int} (h : (Fq.st [.n x1, .n x2, .n x3, .n x4]).P v w) (hx1 : ab x1 < pw 60) (hx2 : ab x2 < pw 60) (hx3 : ab x3 < pw 60) (hx4 : ab x4 < pw 60) :
  Calls Try.prog 26 #[v] w fun e w' => ∃ v', e = .returned v' ∧ Below w.heap.size w w' ∧ Num w' v' (x1 * x4 - x2 * x3) := by
 have e : x1 * x4 - x2 * x3 = ((x1 * x4) + ((-x2) * x3)) := by rw [Int.neg_mul]; omega
 rw [e]
 exact exQDet0 h hx1 hx2 hx3 hx4

set_option maxRecDepth 100000 in
set_option maxHeartbeats 4000000 in
theorem zJs {w : World} {v v' : Value} {x1 x2 x3 x4 y1 y2 y3 y4 : Int} (h : (Fq.st [.n x1, .n x2, .n x3, .n x4]).P v w) (h' : (Fq.st [.n y1, .n y2, .n y3, .n y4]).P v' w) (hx1 : ab x1 < pw 60) (hx2 : ab x2 < pw 60) (hx3 : ab x3 < pw 60) (hx4 : ab x4 < pw 60) (hy1 : ab y1 < pw 60) (hy2 : ab y2 < pw 60) (hy3 : ab y3 < pw 60) (hy4 : ab y4 < pw 60) :
  Calls Try.prog 32 #[v, v'] w fun e w' => ∃ v', e = .returned v' ∧ Below w.heap.size w w' ∧ (Fq.st [.n ((x1 * y1) + (x2 * y3)), .n ((x1 * y2) + (x2 * y4)), .n ((x3 * y1) + (x4 * y3)), .n ((x3 * y2) + (x4 * y4))]).P v' w' := by
 replace hx1 := hidd hx1
 replace hx2 := hidd hx2
 replace hx3 := hidd hx3
 replace hx4 := hidd hx4
 replace hy1 := hidd hy1
 replace hy2 := hidd hy2
 replace hy3 := hidd hy3
 replace hy4 := hidd hy4
 obtain ⟨_, rfl, hf0⟩ := h
 have hF0 := hf0
 obtain ⟨y0_p0, y0_q0, _, rfl, _y0_n0, y0_p1, y0_q1, _, rfl, _y0_n1, y0_p2, y0_q2, _, rfl, _y0_n2, y0_p3, y0_q3, _, rfl, _y0_n3, rfl⟩ := hf0
 obtain ⟨_, rfl, hf1⟩ := h'
 have hF1 := hf1
 obtain ⟨y1_p0, y1_q0, _, rfl, _y1_n0, y1_p1, y1_q1, _, rfl, _y1_n1, y1_p2, y1_q2, _, rfl, _y1_n2, y1_p3, y1_q3, _, rfl, _y1_n3, rfl⟩ := hf1
 obtain ⟨w1, b1, hw1, hb1, hs1, E⟩ := gS w 36 hF0
 obtain ⟨w2, b2, hw2, hb2, hs2, E⟩ := fS E hs1 36 hF1
 obtain ⟨w3, b3, hw3, hb3, hs3, E⟩ := fO E hs2 36 zB5
 go_enter Try.func32, Try.ntmps32
 go_upto_region 1 with (fail)
 rw [← hw1]
 rw [← hw2]
 rw [← hw3]
 rw [← hb3]
 rw [← hb2]
 rw [← hb1]
 clear hw1 hw2 hw3 hb1 hb2 hb3 hs3 hs1 hs2
 have B4 : Hid (ab ((x1 * y1)) < pw 120) := zAt hx1.out hy1.out (by omega)
 have B5 : Hid (ab ((x2 * y3)) < pw 120) := zAt hx2.out hy3.out (by omega)
 have B6 : Hid (ab (((x1 * y1) + (x2 * y3))) < pw 121) := zA9 B4.out B5.out (by omega) (by omega)
 have B7 : Hid (ab ((x1 * y2)) < pw 120) := zAt hx1.out hy2.out (by omega)
 have B8 : Hid (ab ((x2 * y4)) < pw 120) := zAt hx2.out hy4.out (by omega)
 have B9 : Hid (ab (((x1 * y2) + (x2 * y4))) < pw 121) := zA9 B7.out B8.out (by omega) (by omega)
 have B10 : Hid (ab ((x3 * y1)) < pw 120) := zAt hx3.out hy1.out (by omega)
 have B11 : Hid (ab ((x4 * y3)) < pw 120) := zAt hx4.out hy3.out (by omega)
 have B12 : Hid (ab (((x3 * y1) + (x4 * y3))) < pw 121) := zA9 B10.out B11.out (by omega) (by omega)
 have B13 : Hid (ab ((x3 * y2)) < pw 120) := zAt hx3.out hy2.out (by omega)
 have B14 : Hid (ab ((x4 * y4)) < pw 120) := zAt hx4.out hy4.out (by omega)
 have B15 : Hid (ab (((x3 * y2) + (x4 * y4))) < pw 121) := zA9 B13.out B14.out (by omega) (by omega)
 refine rg [ip b1 0, Fq.num x1, ip b2 0, Fq.num y1, ip b1 2, Fq.num x2, ip b2 4, Fq.num y3, Fq.num ((x1 * y1) + (x2 * y3)), ip b1 0, Fq.num x1, ip b2 2, Fq.num y2, ip b1 2, Fq.num x2, ip b2 6, Fq.num y4, Fq.num ((x1 * y2) + (x2 * y4)), ip b1 4, Fq.num x3, ip b2 0, Fq.num y1, ip b1 6, Fq.num x4, ip b2 4, Fq.num y3, Fq.num ((x3 * y1) + (x4 * y3)), ip b1 4, Fq.num x3, ip b2 2, Fq.num y2, ip b1 6, Fq.num x4, ip b2 6, Fq.num y4, Fq.num ((x3 * y2) + (x4 * y4)), Fq.st [.n ((x1 * y1) + (x2 * y3)), .n ((x1 * y2) + (x2 * y4)), .n ((x3 * y1) + (x4 * y3)), .n ((x3 * y2) + (x4 * y4))], Fq.any] [some (37, Fq.st [.n ((x1 * y1) + (x2 * y3)), .n ((x1 * y2) + (x2 * y4)), .n ((x3 * y1) + (x4 * y3)), .n ((x3 * y2) + (x4 * y4))]), none, none] [] E (fun hp => ⟨?_, ?_, ?_, ?_, ?_, ?_, ?_, ?_, ?_, ?_, ?_, ?_, ?_, ?_, ?_, ?_, ?_, ?_, ?_, ?_, ?_, ?_, ?_, ?_, ?_, ?_, ?_, ?_, ?_, ?_, ?_, ?_, ?_, ?_, ?_, ?_, ?_, ?_, tv⟩) ?_
 ·exact qa b1 0 0 hp (sqo 2)
 ·exact lN 0 2 hp (mq 2 rfl) zAb (sqi 0)
 ·exact qa b2 0 0 hp (sqo 3)
 ·exact lN 0 2 hp (mq 1 rfl) zAb (sqi 2)
 ·exact qa b1 0 2 hp (sqo 2)
 ·exact lN 2 2 hp (mq 2 rfl) zAb (sqi 4)
 ·exact qa b2 0 4 hp (sqo 3)
 ·exact lN 4 2 hp (mq 1 rfl) zAb (sqi 6)
 ·exact zDe (F := (Fq.num x1).P) (G := (Fq.num y1).P) (F3 := (Fq.num x2).P) (F4 := (Fq.num y3).P) hp fo tv (zDx) (sqi 1) (sqi 3) (sqi 5) (sqi 7) (fun v v' u u' w h h' g g' => zDz h h' g g' (Int.lt_of_lt_of_le hx1.out (zAa (by omega))) (Int.lt_of_lt_of_le hy1.out (zAa (by omega))) (Int.lt_of_lt_of_le hx2.out (zAa (by omega))) (Int.lt_of_lt_of_le hy3.out (zAa (by omega))))
 ·exact qa b1 0 0 hp (sqo 2)
 ·exact lN 0 2 hp (mq 2 rfl) zAb (sqi 9)
 ·exact qa b2 0 2 hp (sqo 3)
 ·exact lN 2 2 hp (mq 1 rfl) zAb (sqi 11)
 ·exact qa b1 0 2 hp (sqo 2)
 ·exact lN 2 2 hp (mq 2 rfl) zAb (sqi 13)
 ·exact qa b2 0 6 hp (sqo 3)
 ·exact lN 6 2 hp (mq 1 rfl) zAb (sqi 15)
 ·exact zDe (F := (Fq.num x1).P) (G := (Fq.num y2).P) (F3 := (Fq.num x2).P) (F4 := (Fq.num y4).P) hp fo tv (zDx) (sqi 10) (sqi 12) (sqi 14) (sqi 16) (fun v v' u u' w h h' g g' => zDz h h' g g' (Int.lt_of_lt_of_le hx1.out (zAa (by omega))) (Int.lt_of_lt_of_le hy2.out (zAa (by omega))) (Int.lt_of_lt_of_le hx2.out (zAa (by omega))) (Int.lt_of_lt_of_le hy4.out (zAa (by omega))))
 ·exact qa b1 0 4 hp (sqo 2)
 ·exact lN 4 2 hp (mq 2 rfl) zAb (sqi 18)
 ·exact qa b2 0 0 hp (sqo 3)
 ·exact lN 0 2 hp (mq 1 rfl) zAb (sqi 20)
 ·exact qa b1 0 6 hp (sqo 2)
 ·exact lN 6 2 hp (mq 2 rfl) zAb (sqi 22)
 ·exact qa b2 0 4 hp (sqo 3)
 ·exact lN 4 2 hp (mq 1 rfl) zAb (sqi 24)
 ·exact zDe (F := (Fq.num x3).P) (G := (Fq.num y1).P) (F3 := (Fq.num x4).P) (F4 := (Fq.num y3).P) hp fo tv (zDx) (sqi 19) (sqi 21) (sqi 23) (sqi 25) (fun v v' u u' w h h' g g' => zDz h h' g g' (Int.lt_of_lt_of_le hx3.out (zAa (by omega))) (Int.lt_of_lt_of_le hy1.out (zAa (by omega))) (Int.lt_of_lt_of_le hx4.out (zAa (by omega))) (Int.lt_of_lt_of_le hy3.out (zAa (by omega))))
 ·exact qa b1 0 4 hp (sqo 2)
 ·exact lN 4 2 hp (mq 2 rfl) zAb (sqi 27)
 ·exact qa b2 0 2 hp (sqo 3)
 ·exact lN 2 2 hp (mq 1 rfl) zAb (sqi 29)
 ·exact qa b1 0 6 hp (sqo 2)
 ·exact lN 6 2 hp (mq 2 rfl) zAb (sqi 31)
 ·exact qa b2 0 6 hp (sqo 3)
 ·exact lN 6 2 hp (mq 1 rfl) zAb (sqi 33)
 ·exact zDe (F := (Fq.num x3).P) (G := (Fq.num y2).P) (F3 := (Fq.num x4).P) (F4 := (Fq.num y4).P) hp fo tv (zDx) (sqi 28) (sqi 30) (sqi 32) (sqi 34) (fun v v' u u' w h h' g g' => zDz h h' g g' (Int.lt_of_lt_of_le hx3.out (zAa (by omega))) (Int.lt_of_lt_of_le hy2.out (zAa (by omega))) (Int.lt_of_lt_of_le hx4.out (zAa (by omega))) (Int.lt_of_lt_of_le hy4.out (zAa (by omega))))
 ·exact zGy (z0 := ((x1 * y1) + (x2 * y3))) (z1 := ((x1 * y2) + (x2 * y4))) (z2 := ((x3 * y1) + (x4 * y3))) (z3 := ((x3 * y2) + (x4 * y4))) hp fo tv (sqi 8) (sqi 17) (sqi 26) (sqi 35) (fun v w h => h)
 ·exact sO 0 36 hp (mq 0 rfl) zBq (sqo 4)
 intro L vs w16 nb hL hC hn E16
 have e0 := wXi hC 0
 have e2 := wXi hC 2
 have e4 := wXi hC 4
 have e6 := wXi hC 6
 have e9 := wXi hC 9
 have e11 := wXi hC 11
 have e13 := wXi hC 13
 have e15 := wXi hC 15
 have e18 := wXi hC 18
 have e20 := wXi hC 20
 have e22 := wXi hC 22
 have e24 := wXi hC 24
 have e27 := wXi hC 27
 have e29 := wXi hC 29
 have e31 := wXi hC 31
 have e33 := wXi hC 33
 have E := E16; try simp only [LM, zAd] at E
 rw [zAe hL]
 simp only [SP, Nat.zero_add, Nat.reduceAdd]
 rw [e0, e2, e4, e6, e9, e11, e13, e15, e18, e20, e22, e24, e27, e29, e31, e33]
 generalize vs 1 = u16_1
 generalize vs 3 = u16_3
 generalize vs 5 = u16_5
 generalize vs 7 = u16_7
 generalize vs 8 = u16_8
 generalize vs 10 = u16_10
 generalize vs 12 = u16_12
 generalize vs 14 = u16_14
 generalize vs 16 = u16_16
 generalize vs 17 = u16_17
 generalize vs 19 = u16_19
 generalize vs 21 = u16_21
 generalize vs 23 = u16_23
 generalize vs 25 = u16_25
 generalize vs 26 = u16_26
 generalize vs 28 = u16_28
 generalize vs 30 = u16_30
 generalize vs 32 = u16_32
 generalize vs 34 = u16_34
 generalize vs 35 = u16_35
 generalize vs 36 = u16_36
 clear e0 e2 e4 e6 e9 e11 e13 e15 e18 e20 e22 e24 e27 e29 e31 e33 hC hn E16 hL vs L nb
 obtain ⟨_, _, hc0, hf0⟩ := zBi (E.box 0 rfl)
 have hP0 := hf0
 obtain ⟨r0_p0, r0_q0, _, rfl, _r0_n0, r0_p1, r0_q1, _, rfl, _r0_n1, r0_p2, r0_q2, _, rfl, _r0_n2, r0_p3, r0_q3, _, rfl, _r0_n3, rfl⟩ := hf0
 have c0_0 := hc0 0 (by simp)
 have c0_1 := hc0 1 (by simp)
 have c0_2 := hc0 2 (by simp)
 have c0_3 := hc0 3 (by simp)
 have c0_4 := hc0 4 (by simp)
 have c0_5 := hc0 5 (by simp)
 have c0_6 := hc0 6 (by simp)
 have c0_7 := hc0 7 (by simp)
 simp only [List.getD_cons_zero, List.getD_cons_succ] at c0_0 c0_1 c0_2 c0_3 c0_4 c0_5 c0_6 c0_7
 clear hc0
 clear B4 B5 B6 B7 B8 B9 B10 B11 B12 B13 B14 B15 hx1 hx2 hx3 hx4 hy1 hy2 hy3 hy4
 go_wp2
 refine bodyPost_ret (v := .agg #[r0_p0, r0_q0, r0_p1, r0_q1, r0_p2, r0_q2, r0_p3, r0_q3]) ?_ rfl ⟨_, rfl, E.below, ⟨_, rfl, hP0⟩⟩
 simp [results, Try.results32, go_sem, c0_0, c0_1, c0_2, c0_3, c0_4, c0_5, c0_6, c0_7]

set_option maxRecDepth 100000 in
set_option maxHeartbeats 4000000 in
theorem exQEqual0 {w : World} {v v' : Value} {a b c x y z : Int} (h : (Fq.st [.n a, .n b, .n c]).P v w) (h' : (Fq.st [.n x, .n y, .n z]).P v' w) (e0 : ¬ a = x) {t : Bool} (ht : eqF a b c x y z = t) :
  Calls Try.prog 13 #[v, v'] w fun e w' => ∃ v', e = .returned v' ∧ Below w.heap.size w w' ∧ v' = .bool t := by
 have ht2 : t = false := ht.symm.trans (by unfold eqF; simp [e0])
 subst ht2
 clear ht
 have T0 := hidd (decide_eq_false e0)
 clear e0
 obtain ⟨_, rfl, hf0⟩ := h
 have hF0 := hf0
 obtain ⟨y0_p0, y0_q0, _, rfl, _y0_n0, y0_p1, y0_q1, _, rfl, _y0_n1, y0_p2, y0_q2, _, rfl, _y0_n2, rfl⟩ := hf0
 obtain ⟨_, rfl, hf1⟩ := h'
 have hF1 := hf1
 obtain ⟨y1_p0, y1_q0, _, rfl, _y1_n0, y1_p1, y1_q1, _, rfl, _y1_n1, y1_p2, y1_q2, _, rfl, _y1_n2, rfl⟩ := hf1
 obtain ⟨w1, b1, hw1, hb1, hs1, E⟩ := gS w 33 hF0
 obtain ⟨w2, b2, hw2, hb2, hs2, E⟩ := fS E hs1 33 hF1
 go_enter Try.func13, Try.ntmps13
 go_upto_region 1 with (fail)
 rw [← hw1]
 rw [← hw2]
 rw [← hb2]
 rw [← hb1]
 clear hw1 hw2 hb1 hb2 hs2 hs1
 refine rg [ip b1 0, Fq.num a, ip b2 0, Fq.num x, yF, yF, Fq.is (undef), Fq.is (undef), Fq.is (undef), Fq.is (undef), Fq.is (undef), yF, yF, Fq.is (undef), Fq.is (undef), Fq.is (undef), Fq.is (undef), Fq.is (undef), yF, yF] N2 [] E (fun hp => ⟨?_, ?_, ?_, ?_, ?_, ?_, ?_, ?_, ?_, ?_, ?_, ?_, ?_, ?_, ?_, ?_, ?_, ?_, ?_, ?_, tv⟩) ?_
 ·exact qa b1 0 0 hp (sqo 2)
 ·exact lN 0 2 hp (mq 1 rfl) zAb (sqi 0)
 ·exact qa b2 0 0 hp (sqo 3)
 ·exact lN 0 2 hp (mq 0 rfl) zAb (sqi 2)
 ·exact wXb (Fq.num a) (Fq.num x) hp zBb (sqi 1) (sqi 3) fun v v' w h h' => zBc h h' T0.out
 ·exact zAc hp fo tv (sqi 4)
 ·exact zAh hp fo rfl gqi (fun _ => rfl)
 ·exact zAh hp fo rfl gqi (fun _ => rfl)
 ·exact zAh hp fo rfl gqi (fun _ => rfl)
 ·exact zAh hp fo rfl gqi (fun _ => rfl)
 ·exact zAh hp fo rfl gqi (fun _ => rfl)
 ·exact zAg (F := fun v _ => v = .bool false) (G := fun v _ => v = .bool false) hp fo tv (sqi 5) (zAj (fun _ => rfl)) (fun ρ w hc h h' => ⟨_, by simp [execOp, go_sem, h, h'], rfl⟩)
 ·exact zAc hp fo tv (sqi 11)
 ·exact zAh hp fo rfl gqi (fun _ => rfl)
 ·exact zAh hp fo rfl gqi (fun _ => rfl)
 ·exact zAh hp fo rfl gqi (fun _ => rfl)
 ·exact zAh hp fo rfl gqi (fun _ => rfl)
 ·exact zAh hp fo rfl gqi (fun _ => rfl)
 ·exact zAg (F := fun v _ => v = .bool false) (G := fun v _ => v = .bool false) hp fo tv (sqi 12) (zAj (fun _ => rfl)) (fun ρ w hc h h' => ⟨_, by simp [execOp, go_sem, h, h'], rfl⟩)
 ·exact zAi hp fo tv (sqi 18)
 intro L vs w3 nb hL hC hn E3
 have e0 := wXi hC 0
 have e2 := wXi hC 2
 have e4 := wXi hC 4
 have e5 := wXi hC 5
 have e6 := wXi hC 6
 have e7 := wXi hC 7
 have e8 := wXi hC 8
 have e9 := wXi hC 9
 have e10 := wXi hC 10
 have e11 := wXi hC 11
 have e12 := wXi hC 12
 have e13 := wXi hC 13
 have e14 := wXi hC 14
 have e15 := wXi hC 15
 have e16 := wXi hC 16
 have e17 := wXi hC 17
 have e18 := wXi hC 18
 have e19 := wXi hC 19
 have E := E3; try simp only [LM, zAd] at E
 rw [zAe hL]
 simp only [SP, Nat.zero_add, Nat.reduceAdd]
 rw [e0, e2, e4, e5, e6, e7, e8, e9, e10, e11, e12, e13, e14, e15, e16, e17, e18, e19]
 generalize vs 1 = u3_1
 generalize vs 3 = u3_3
 clear e0 e2 e4 e5 e6 e7 e8 e9 e10 e11 e12 e13 e14 e15 e16 e17 e18 e19 hC hn E3 hL vs L nb
 clear T0
 go_wp2
 refine bodyPost_ret (v := .bool false) ?_ rfl ⟨_, rfl, E.below, rfl⟩
 simp [results, Try.results13, go_sem]

set_option maxRecDepth 100000 in
set_option maxHeartbeats 4000000 in
theorem exQEqual1 {w : World} {v v' : Value} {a b c x y z : Int} (h : (Fq.st [.n a, .n b, .n c]).P v w) (h' : (Fq.st [.n x, .n y, .n z]).P v' w) (e0 : a = x) (e1 : ¬ b = y) {t : Bool} (ht : eqF a b c x y z = t) :
  Calls Try.prog 13 #[v, v'] w fun e w' => ∃ v', e = .returned v' ∧ Below w.heap.size w w' ∧ v' = .bool t := by
 have ht2 : t = false := ht.symm.trans (by unfold eqF; simp [e0, e1])
 subst ht2
 clear ht
 have T0 := hidd (decide_eq_true e0)
 have T1 := hidd (decide_eq_false e1)
 clear e0 e1
 obtain ⟨_, rfl, hf0⟩ := h
 have hF0 := hf0
 obtain ⟨y0_p0, y0_q0, _, rfl, _y0_n0, y0_p1, y0_q1, _, rfl, _y0_n1, y0_p2, y0_q2, _, rfl, _y0_n2, rfl⟩ := hf0
 obtain ⟨_, rfl, hf1⟩ := h'
 have hF1 := hf1
 obtain ⟨y1_p0, y1_q0, _, rfl, _y1_n0, y1_p1, y1_q1, _, rfl, _y1_n1, y1_p2, y1_q2, _, rfl, _y1_n2, rfl⟩ := hf1
 obtain ⟨w1, b1, hw1, hb1, hs1, E⟩ := gS w 33 hF0
 obtain ⟨w2, b2, hw2, hb2, hs2, E⟩ := fS E hs1 33 hF1
 go_enter Try.func13, Try.ntmps13
 go_upto_region 1 with (fail)
 rw [← hw1]
 rw [← hw2]
 rw [← hb2]
 rw [← hb1]
 clear hw1 hw2 hb1 hb2 hs2 hs1
 refine rg [ip b1 0, Fq.num a, ip b2 0, Fq.num x, yT, yT, ip b1 2, Fq.num b, ip b2 2, Fq.num y, yF, yF, yF, Fq.is (undef), Fq.is (undef), Fq.is (undef), Fq.is (undef), Fq.is (undef), yF, yF] N2 [] E (fun hp => ⟨?_, ?_, ?_, ?_, ?_, ?_, ?_, ?_, ?_, ?_, ?_, ?_, ?_, ?_, ?_, ?_, ?_, ?_, ?_, ?_, tv⟩) ?_
 ·exact qa b1 0 0 hp (sqo 2)
 ·exact lN 0 2 hp (mq 1 rfl) zAb (sqi 0)
 ·exact qa b2 0 0 hp (sqo 3)
 ·exact lN 0 2 hp (mq 0 rfl) zAb (sqi 2)
 ·exact wXb (Fq.num a) (Fq.num x) hp zBb (sqi 1) (sqi 3) fun v v' w h h' => zBc h h' T0.out
 ·exact zAc hp fo tv (sqi 4)
 ·exact zAl (b := b1) (off := 0) (off' := 2) hp fo gqi (sqo 2) (fun ρ w h => by simp [execOp, go_sem, h]) (fun _ => rfl)
 ·exact lG 2 2 hp gqi (mq 1 rfl) zAb (sqi 6) fun v w h => zAk h
 ·exact zAl (b := b2) (off := 0) (off' := 2) hp fo gqi (sqo 3) (fun ρ w h => by simp [execOp, go_sem, h]) (fun _ => rfl)
 ·exact lG 2 2 hp gqi (mq 0 rfl) zAb (sqi 8) fun v w h => zAk h
 ·exact zAv (F := (Fq.num b).P) (G := (Fq.num y).P) hp fo gqi (zBb) (sqi 7) (sqi 9) (fun v v' w h h' => zBc h h' T1.out)
 ·exact zAg (F := fun v _ => v = .bool true) (G := fun v _ => v = .bool false) hp fo tv (sqi 5) (sqi 10) (fun ρ w hc h h' => ⟨_, by simp [execOp, go_sem, h, h'], rfl⟩)
 ·exact zAc hp fo tv (sqi 11)
 ·exact zAh hp fo rfl gqi (fun _ => rfl)
 ·exact zAh hp fo rfl gqi (fun _ => rfl)
 ·exact zAh hp fo rfl gqi (fun _ => rfl)
 ·exact zAh hp fo rfl gqi (fun _ => rfl)
 ·exact zAh hp fo rfl gqi (fun _ => rfl)
 ·exact zAg (F := fun v _ => v = .bool false) (G := fun v _ => v = .bool false) hp fo tv (sqi 12) (zAj (fun _ => rfl)) (fun ρ w hc h h' => ⟨_, by simp [execOp, go_sem, h, h'], rfl⟩)
 ·exact zAi hp fo tv (sqi 18)
 intro L vs w3 nb hL hC hn E3
 have e0 := wXi hC 0
 have e2 := wXi hC 2
 have e4 := wXi hC 4
 have e5 := wXi hC 5
 have e6 := wXi hC 6
 have e8 := wXi hC 8
 have e10 := wXi hC 10
 have e11 := wXi hC 11
 have e12 := wXi hC 12
 have e13 := wXi hC 13
 have e14 := wXi hC 14
 have e15 := wXi hC 15
 have e16 := wXi hC 16
 have e17 := wXi hC 17
 have e18 := wXi hC 18
 have e19 := wXi hC 19
 have E := E3; try simp only [LM, zAd] at E
 rw [zAe hL]
 simp only [SP, Nat.zero_add, Nat.reduceAdd]
 rw [e0, e2, e4, e5, e6, e8, e10, e11, e12, e13, e14, e15, e16, e17, e18, e19]
 generalize vs 1 = u3_1
 generalize vs 3 = u3_3
 generalize vs 7 = u3_7
 generalize vs 9 = u3_9
 clear e0 e2 e4 e5 e6 e8 e10 e11 e12 e13 e14 e15 e16 e17 e18 e19 hC hn E3 hL vs L nb
 clear T0 T1
 go_wp2
 refine bodyPost_ret (v := .bool false) ?_ rfl ⟨_, rfl, E.below, rfl⟩
 simp [results, Try.results13, go_sem]

set_option maxRecDepth 100000 in
set_option maxHeartbeats 4000000 in
theorem exQEqual2 {w : World} {v v' : Value} {a b c x y z : Int} (h : (Fq.st [.n a, .n b, .n c]).P v w) (h' : (Fq.st [.n x, .n y, .n z]).P v' w) (e0 : a = x) (e1 : b = y) (e2 : ¬ c = z) {t : Bool} (ht : eqF a b c x y z = t) :
  Calls Try.prog 13 #[v, v'] w fun e w' => ∃ v', e = .returned v' ∧ Below w.heap.size w w' ∧ v' = .bool t := by
 have ht2 : t = false := ht.symm.trans (by unfold eqF; simp [e0, e1, e2])
 subst ht2
 clear ht
 have T0 := hidd (decide_eq_true e0)
 have T1 := hidd (decide_eq_true e1)
 have T2 := hidd (decide_eq_false e2)
 clear e0 e1 e2
 obtain ⟨_, rfl, hf0⟩ := h
 have hF0 := hf0
 obtain ⟨y0_p0, y0_q0, _, rfl, _y0_n0, y0_p1, y0_q1, _, rfl, _y0_n1, y0_p2, y0_q2, _, rfl, _y0_n2, rfl⟩ := hf0
 obtain ⟨_, rfl, hf1⟩ := h'
 have hF1 := hf1
 obtain ⟨y1_p0, y1_q0, _, rfl, _y1_n0, y1_p1, y1_q1, _, rfl, _y1_n1, y1_p2, y1_q2, _, rfl, _y1_n2, rfl⟩ := hf1
 obtain ⟨w1, b1, hw1, hb1, hs1, E⟩ := gS w 33 hF0
 obtain ⟨w2, b2, hw2, hb2, hs2, E⟩ := fS E hs1 33 hF1
 go_enter Try.func13, Try.ntmps13
 go_upto_region 1 with (fail)
 rw [← hw1]
 rw [← hw2]
 rw [← hb2]
 rw [← hb1]
 clear hw1 hw2 hb1 hb2 hs2 hs1
 refine rg [ip b1 0, Fq.num a, ip b2 0, Fq.num x, yT, yT, ip b1 2, Fq.num b, ip b2 2, Fq.num y, yT, yT, yT, ip b1 4, Fq.num c, ip b2 4, Fq.num z, yF, yF, yF] N2 [] E (fun hp => ⟨?_, ?_, ?_, ?_, ?_, ?_, ?_, ?_, ?_, ?_, ?_, ?_, ?_, ?_, ?_, ?_, ?_, ?_, ?_, ?_, tv⟩) ?_
 ·exact qa b1 0 0 hp (sqo 2)
 ·exact lN 0 2 hp (mq 1 rfl) zAb (sqi 0)
 ·exact qa b2 0 0 hp (sqo 3)
 ·exact lN 0 2 hp (mq 0 rfl) zAb (sqi 2)
 ·exact wXb (Fq.num a) (Fq.num x) hp zBb (sqi 1) (sqi 3) fun v v' w h h' => zBc h h' T0.out
 ·exact zAc hp fo tv (sqi 4)
 ·exact zAl (b := b1) (off := 0) (off' := 2) hp fo gqi (sqo 2) (fun ρ w h => by simp [execOp, go_sem, h]) (fun _ => rfl)
 ·exact lG 2 2 hp gqi (mq 1 rfl) zAb (sqi 6) fun v w h => zAk h
 ·exact zAl (b := b2) (off := 0) (off' := 2) hp fo gqi (sqo 3) (fun ρ w h => by simp [execOp, go_sem, h]) (fun _ => rfl)
 ·exact lG 2 2 hp gqi (mq 0 rfl) zAb (sqi 8) fun v w h => zAk h
 ·exact zAv (F := (Fq.num b).P) (G := (Fq.num y).P) hp fo gqi (zBb) (sqi 7) (sqi 9) (fun v v' w h h' => zBc h h' T1.out)
 ·exact zAg (F := fun v _ => v = .bool true) (G := fun v _ => v = .bool true) hp fo tv (sqi 5) (sqi 10) (fun ρ w hc h h' => ⟨_, by simp [execOp, go_sem, h, h'], rfl⟩)
 ·exact zAc hp fo tv (sqi 11)
 ·exact zAl (b := b1) (off := 0) (off' := 4) hp fo gqi (sqo 2) (fun ρ w h => by simp [execOp, go_sem, h]) (fun _ => rfl)
 ·exact lG 4 2 hp gqi (mq 1 rfl) zAb (sqi 13) fun v w h => zAk h
 ·exact zAl (b := b2) (off := 0) (off' := 4) hp fo gqi (sqo 3) (fun ρ w h => by simp [execOp, go_sem, h]) (fun _ => rfl)
 ·exact lG 4 2 hp gqi (mq 0 rfl) zAb (sqi 15) fun v w h => zAk h
 ·exact zAv (F := (Fq.num c).P) (G := (Fq.num z).P) hp fo gqi (zBb) (sqi 14) (sqi 16) (fun v v' w h h' => zBc h h' T2.out)
 ·exact zAg (F := fun v _ => v = .bool true) (G := fun v _ => v = .bool false) hp fo tv (sqi 12) (sqi 17) (fun ρ w hc h h' => ⟨_, by simp [execOp, go_sem, h, h'], rfl⟩)
 ·exact zAi hp fo tv (sqi 18)
 intro L vs w3 nb hL hC hn E3
 have e0 := wXi hC 0
 have e2 := wXi hC 2
 have e4 := wXi hC 4
 have e5 := wXi hC 5
 have e6 := wXi hC 6
 have e8 := wXi hC 8
 have e10 := wXi hC 10
 have e11 := wXi hC 11
 have e12 := wXi hC 12
 have e13 := wXi hC 13
 have e15 := wXi hC 15
 have e17 := wXi hC 17
 have e18 := wXi hC 18
 have e19 := wXi hC 19
 have E := E3; try simp only [LM, zAd] at E
 rw [zAe hL]
 simp only [SP, Nat.zero_add, Nat.reduceAdd]
 rw [e0, e2, e4, e5, e6, e8, e10, e11, e12, e13, e15, e17, e18, e19]
 generalize vs 1 = u3_1
 generalize vs 3 = u3_3
 generalize vs 7 = u3_7
 generalize vs 9 = u3_9
 generalize vs 14 = u3_14
 generalize vs 16 = u3_16
 clear e0 e2 e4 e5 e6 e8 e10 e11 e12 e13 e15 e17 e18 e19 hC hn E3 hL vs L nb
 clear T0 T1 T2
 go_wp2
 refine bodyPost_ret (v := .bool false) ?_ rfl ⟨_, rfl, E.below, rfl⟩
 simp [results, Try.results13, go_sem]

set_option maxRecDepth 100000 in
set_option maxHeartbeats 4000000 in
theorem exQEqual3 {w : World} {v v' : Value} {a b c x y z : Int} (h : (Fq.st [.n a, .n b, .n c]).P v w) (h' : (Fq.st [.n x, .n y, .n z]).P v' w) (e0 : a = x) (e1 : b = y) (e2 : c = z) {t : Bool} (ht : eqF a b c x y z = t) :
  Calls Try.prog 13 #[v, v'] w fun e w' => ∃ v', e = .returned v' ∧ Below w.heap.size w w' ∧ v' = .bool t := by
 have ht2 : t = true := ht.symm.trans (by unfold eqF; simp [e0, e1, e2])
 subst ht2
 clear ht
 have T0 := hidd (decide_eq_true e0)
 have T1 := hidd (decide_eq_true e1)
 have T2 := hidd (decide_eq_true e2)
 clear e0 e1 e2
 obtain ⟨_, rfl, hf0⟩ := h
 have hF0 := hf0
 obtain ⟨y0_p0, y0_q0, _, rfl, _y0_n0, y0_p1, y0_q1, _, rfl, _y0_n1, y0_p2, y0_q2, _, rfl, _y0_n2, rfl⟩ := hf0
 obtain ⟨_, rfl, hf1⟩ := h'
 have hF1 := hf1
 obtain ⟨y1_p0, y1_q0, _, rfl, _y1_n0, y1_p1, y1_q1, _, rfl, _y1_n1, y1_p2, y1_q2, _, rfl, _y1_n2, rfl⟩ := hf1
 obtain ⟨w1, b1, hw1, hb1, hs1, E⟩ := gS w 33 hF0
 obtain ⟨w2, b2, hw2, hb2, hs2, E⟩ := fS E hs1 33 hF1
 go_enter Try.func13, Try.ntmps13
 go_upto_region 1 with (fail)
 rw [← hw1]
 rw [← hw2]
 rw [← hb2]
 rw [← hb1]
 clear hw1 hw2 hb1 hb2 hs2 hs1
 refine rg [ip b1 0, Fq.num a, ip b2 0, Fq.num x, yT, yT, ip b1 2, Fq.num b, ip b2 2, Fq.num y, yT, yT, yT, ip b1 4, Fq.num c, ip b2 4, Fq.num z, yT, yT, yT] N2 [] E (fun hp => ⟨?_, ?_, ?_, ?_, ?_, ?_, ?_, ?_, ?_, ?_, ?_, ?_, ?_, ?_, ?_, ?_, ?_, ?_, ?_, ?_, tv⟩) ?_
 ·exact qa b1 0 0 hp (sqo 2)
 ·exact lN 0 2 hp (mq 1 rfl) zAb (sqi 0)
 ·exact qa b2 0 0 hp (sqo 3)
 ·exact lN 0 2 hp (mq 0 rfl) zAb (sqi 2)
 ·exact wXb (Fq.num a) (Fq.num x) hp zBb (sqi 1) (sqi 3) fun v v' w h h' => zBc h h' T0.out
 ·exact zAc hp fo tv (sqi 4)
 ·exact zAl (b := b1) (off := 0) (off' := 2) hp fo gqi (sqo 2) (fun ρ w h => by simp [execOp, go_sem, h]) (fun _ => rfl)
 ·exact lG 2 2 hp gqi (mq 1 rfl) zAb (sqi 6) fun v w h => zAk h
 ·exact zAl (b := b2) (off := 0) (off' := 2) hp fo gqi (sqo 3) (fun ρ w h => by simp [execOp, go_sem, h]) (fun _ => rfl)
 ·exact lG 2 2 hp gqi (mq 0 rfl) zAb (sqi 8) fun v w h => zAk h
 ·exact zAv (F := (Fq.num b).P) (G := (Fq.num y).P) hp fo gqi (zBb) (sqi 7) (sqi 9) (fun v v' w h h' => zBc h h' T1.out)
 ·exact zAg (F := fun v _ => v = .bool true) (G := fun v _ => v = .bool true) hp fo tv (sqi 5) (sqi 10) (fun ρ w hc h h' => ⟨_, by simp [execOp, go_sem, h, h'], rfl⟩)
 ·exact zAc hp fo tv (sqi 11)
 ·exact zAl (b := b1) (off := 0) (off' := 4) hp fo gqi (sqo 2) (fun ρ w h => by simp [execOp, go_sem, h]) (fun _ => rfl)
 ·exact lG 4 2 hp gqi (mq 1 rfl) zAb (sqi 13) fun v w h => zAk h
 ·exact zAl (b := b2) (off := 0) (off' := 4) hp fo gqi (sqo 3) (fun ρ w h => by simp [execOp, go_sem, h]) (fun _ => rfl)
 ·exact lG 4 2 hp gqi (mq 0 rfl) zAb (sqi 15) fun v w h => zAk h
 ·exact zAv (F := (Fq.num c).P) (G := (Fq.num z).P) hp fo gqi (zBb) (sqi 14) (sqi 16) (fun v v' w h h' => zBc h h' T2.out)
 ·exact zAg (F := fun v _ => v = .bool true) (G := fun v _ => v = .bool true) hp fo tv (sqi 12) (sqi 17) (fun ρ w hc h h' => ⟨_, by simp [execOp, go_sem, h, h'], rfl⟩)
 ·exact zAi hp fo tv (sqi 18)
 intro L vs w3 nb hL hC hn E3
 have e0 := wXi hC 0
 have e2 := wXi hC 2
 have e4 := wXi hC 4
 have e5 := wXi hC 5
 have e6 := wXi hC 6
 have e8 := wXi hC 8
 have e10 := wXi hC 10
 have e11 := wXi hC 11
 have e12 := wXi hC 12
 have e13 := wXi hC 13
 have e15 := wXi hC 15
 have e17 := wXi hC 17
 have e18 := wXi hC 18
 have e19 := wXi hC 19
 have E := E3; try simp only [LM, zAd] at E
 rw [zAe hL]
 simp only [SP, Nat.zero_add, Nat.reduceAdd]
 rw [e0, e2, e4, e5, e6, e8, e10, e11, e12, e13, e15, e17, e18, e19]
 generalize vs 1 = u3_1
 generalize vs 3 = u3_3
 generalize vs 7 = u3_7
 generalize vs 9 = u3_9
 generalize vs 14 = u3_14
 generalize vs 16 = u3_16
 clear e0 e2 e4 e5 e6 e8 e10 e11 e12 e13 e15 e17 e18 e19 hC hn E3 hL vs L nb
 clear T0 T1 T2
 go_wp2
 refine bodyPost_ret (v := .bool true) ?_ rfl ⟨_, rfl, E.below, rfl⟩
 simp [results, Try.results13, go_sem]

theorem zEt {w : World} {v v' : Value} {a b c x y z : Int} (h : (Fq.st [.n a, .n b, .n c]).P v w) (h' : (Fq.st [.n x, .n y, .n z]).P v' w) {t : Bool} (ht : eqF a b c x y z = t) :
  Calls Try.prog 13 #[v, v'] w fun e w' => ∃ v', e = .returned v' ∧ Below w.heap.size w w' ∧ v' = .bool t := by
 by_cases e0 : a = x
 ·by_cases e1 : b = y
  ·by_cases e2 : c = z
   ·exact exQEqual3 h h' e0 e1 e2 ht
   ·exact exQEqual2 h h' e0 e1 e2 ht
  ·exact exQEqual1 h h' e0 e1 ht
 ·exact exQEqual0 h h' e0 ht

set_option maxRecDepth 100000 in
set_option maxHeartbeats 4000000 in
theorem zDo {w : World} {a b c : Int} (ha : -9223372036854775808 ≤ a ∧ a ≤ 9223372036854775807) (hb : -9223372036854775808 ≤ b ∧ b ≤ 9223372036854775807) (hc : -9223372036854775808 ≤ c ∧ c ≤ 9223372036854775807) :
  Calls Try.prog 45 #[.int .i64 a, .int .i64 b, .int .i64 c] w fun e w' => ∃ v', e = .returned v' ∧ Below w.heap.size w w' ∧ (Fq.st [.n a, .n b, .n c]).P v' w' := by
 have Ha := hidd ha
 have Ba : Hid (ab a < pw 3) := zAx ha.1 ha.2
 have Hb := hidd hb
 have Bb : Hid (ab b < pw 3) := zAx hb.1 hb.2
 have Hc := hidd hc
 have Bc : Hid (ab c < pw 3) := zAx hc.1 hc.2
 clear ha hb hc
 obtain ⟨w1, b1, hw1, hb1, hs1, E⟩ := zCh w (F := Fq.st [.n 0, .n 0, .n 0]) (us := [.bool false, .slice none 0 0, .bool false, .slice none 0 0, .bool false, .slice none 0 0]) 33 rfl (by simp) ((Fits.tame (zBe w))) (zNk _)
 go_enter Try.func45, Try.ntmps45
 go_upto_region 1 with (fail)
 rw [← hw1]
 rw [← hb1]
 clear hw1 hb1 hs1
 refine rg [Fq.is (.int .i64 a), Fq.num a, Fq.is (.int .i64 b), Fq.num b, Fq.is (.int .i64 c), Fq.num c, Fq.st [.n a, .n b, .n c], Fq.any] [some (7, Fq.st [.n a, .n b, .n c])] [] E (fun hp => ⟨?_, ?_, ?_, ?_, ?_, ?_, ?_, ?_, tv⟩) ?_
 ·exact zAc hp fo tv (sqo 0)
 ·exact wXa (Fq.is (.int .i64 a)) hp zBu (sqi 0) fun v w h => (by subst h; exact rOfK w a Ha.out.1 Ha.out.2)
 ·exact zAc hp fo tv (sqo 1)
 ·exact wXa (Fq.is (.int .i64 b)) hp zBu (sqi 2) fun v w h => (by subst h; exact rOfK w b Hb.out.1 Hb.out.2)
 ·exact zAc hp fo tv (sqo 2)
 ·exact wXa (Fq.is (.int .i64 c)) hp zBu (sqi 4) fun v w h => (by subst h; exact rOfK w c Hc.out.1 Hc.out.2)
 ·exact zFp (z0 := a) (z1 := b) (z2 := c) hp fo tv (sqi 1) (sqi 3) (sqi 5) (fun v w h => h)
 ·exact sO 0 6 hp (mq 0 rfl) zA7 (sqo 6)
 intro L vs w2 nb hL hC hn E2
 have e0 := wXi hC 0
 have e2 := wXi hC 2
 have e4 := wXi hC 4
 have E := E2; try simp only [LM, zAd] at E
 rw [zAe hL]
 simp only [SP, Nat.zero_add, Nat.reduceAdd]
 rw [e0, e2, e4]
 generalize vs 1 = u2_1
 generalize vs 3 = u2_3
 generalize vs 5 = u2_5
 generalize vs 6 = u2_6
 clear e0 e2 e4 hC hn E2 hL vs L nb
 clear Ha Hb Hc
 obtain ⟨_, _, hc0, hf0⟩ := zBi (E.box 0 rfl)
 have hP0 := hf0
 obtain ⟨r0_p0, r0_q0, _, rfl, _r0_n0, r0_p1, r0_q1, _, rfl, _r0_n1, r0_p2, r0_q2, _, rfl, _r0_n2, rfl⟩ := hf0
 have c0_0 := hc0 0 (by simp)
 have c0_1 := hc0 1 (by simp)
 have c0_2 := hc0 2 (by simp)
 have c0_3 := hc0 3 (by simp)
 have c0_4 := hc0 4 (by simp)
 have c0_5 := hc0 5 (by simp)
 simp only [List.getD_cons_zero, List.getD_cons_succ] at c0_0 c0_1 c0_2 c0_3 c0_4 c0_5
 clear hc0
 clear Ba Bb Bc
 go_wp2
 refine bodyPost_ret (v := .agg #[r0_p0, r0_q0, r0_p1, r0_q1, r0_p2, r0_q2]) ?_ rfl ⟨_, rfl, E.below, ⟨_, rfl, hP0⟩⟩
 simp [results, Try.results45, go_sem, c0_0, c0_1, c0_2, c0_3, c0_4, c0_5]

set_option maxRecDepth 100000 in
set_option maxHeartbeats 4000000 in
theorem zJr {w : World} {x1 x2 x3 x4 : Int} (hx1 : -9223372036854775808 ≤ x1 ∧ x1 ≤ 9223372036854775807) (hx2 : -9223372036854775808 ≤ x2 ∧ x2 ≤ 9223372036854775807) (hx3 : -9223372036854775808 ≤ x3 ∧ x3 ≤ 9223372036854775807) (hx4 : -9223372036854775808 ≤ x4 ∧ x4 ≤ 9223372036854775807) :
  Calls Try.prog 34 #[.int .i64 x1, .int .i64 x2, .int .i64 x3, .int .i64 x4] w fun e w' => ∃ v', e = .returned v' ∧ Below w.heap.size w w' ∧ (Fq.st [.n x1, .n x2, .n x3, .n x4]).P v' w' := by
 have Hx1 := hidd hx1
 have Bx1 : Hid (ab x1 < pw 3) := zAx hx1.1 hx1.2
 have Hx2 := hidd hx2
 have Bx2 : Hid (ab x2 < pw 3) := zAx hx2.1 hx2.2
 have Hx3 := hidd hx3
 have Bx3 : Hid (ab x3 < pw 3) := zAx hx3.1 hx3.2
 have Hx4 := hidd hx4
 have Bx4 : Hid (ab x4 < pw 3) := zAx hx4.1 hx4.2
 clear hx1 hx2 hx3 hx4
 obtain ⟨w1, b1, hw1, hb1, hs1, E⟩ := zCh w (F := Fq.st [.n 0, .n 0, .n 0, .n 0]) (us := [.bool false, .slice none 0 0, .bool false, .slice none 0 0, .bool false, .slice none 0 0, .bool false, .slice none 0 0]) 36 rfl (by simp) ((Fits.tame (zB5 w))) (zNl _)
 go_enter Try.func34, Try.ntmps34
 go_upto_region 1 with (fail)
 rw [← hw1]
 rw [← hb1]
 clear hw1 hb1 hs1
 refine rg [Fq.is (.int .i64 x1), Fq.num x1, Fq.is (.int .i64 x2), Fq.num x2, Fq.is (.int .i64 x3), Fq.num x3, Fq.is (.int .i64 x4), Fq.num x4, Fq.st [.n x1, .n x2, .n x3, .n x4], Fq.any] [some (9, Fq.st [.n x1, .n x2, .n x3, .n x4])] [] E (fun hp => ⟨?_, ?_, ?_, ?_, ?_, ?_, ?_, ?_, ?_, ?_, tv⟩) ?_
 ·exact zAc hp fo tv (sqo 0)
 ·exact wXa (Fq.is (.int .i64 x1)) hp zBu (sqi 0) fun v w h => (by subst h; exact rOfK w x1 Hx1.out.1 Hx1.out.2)
 ·exact zAc hp fo tv (sqo 1)
 ·exact wXa (Fq.is (.int .i64 x2)) hp zBu (sqi 2) fun v w h => (by subst h; exact rOfK w x2 Hx2.out.1 Hx2.out.2)
 ·exact zAc hp fo tv (sqo 2)
 ·exact wXa (Fq.is (.int .i64 x3)) hp zBu (sqi 4) fun v w h => (by subst h; exact rOfK w x3 Hx3.out.1 Hx3.out.2)
 ·exact zAc hp fo tv (sqo 3)
 ·exact wXa (Fq.is (.int .i64 x4)) hp zBu (sqi 6) fun v w h => (by subst h; exact rOfK w x4 Hx4.out.1 Hx4.out.2)
 ·exact zGy (z0 := x1) (z1 := x2) (z2 := x3) (z3 := x4) hp fo tv (sqi 1) (sqi 3) (sqi 5) (sqi 7) (fun v w h => h)
 ·exact sO 0 8 hp (mq 0 rfl) zBq (sqo 8)
 intro L vs w2 nb hL hC hn E2
 have e0 := wXi hC 0
 have e2 := wXi hC 2
 have e4 := wXi hC 4
 have e6 := wXi hC 6
 have E := E2; try simp only [LM, zAd] at E
 rw [zAe hL]
 simp only [SP, Nat.zero_add, Nat.reduceAdd]
 rw [e0, e2, e4, e6]
 generalize vs 1 = u2_1
 generalize vs 3 = u2_3
 generalize vs 5 = u2_5
 generalize vs 7 = u2_7
 generalize vs 8 = u2_8
 clear e0 e2 e4 e6 hC hn E2 hL vs L nb
 clear Hx1 Hx2 Hx3 Hx4
 obtain ⟨_, _, hc0, hf0⟩ := zBi (E.box 0 rfl)
 have hP0 := hf0
 obtain ⟨r0_p0, r0_q0, _, rfl, _r0_n0, r0_p1, r0_q1, _, rfl, _r0_n1, r0_p2, r0_q2, _, rfl, _r0_n2, r0_p3, r0_q3, _, rfl, _r0_n3, rfl⟩ := hf0
 have c0_0 := hc0 0 (by simp)
 have c0_1 := hc0 1 (by simp)
 have c0_2 := hc0 2 (by simp)
 have c0_3 := hc0 3 (by simp)
 have c0_4 := hc0 4 (by simp)
 have c0_5 := hc0 5 (by simp)
 have c0_6 := hc0 6 (by simp)
 have c0_7 := hc0 7 (by simp)
 simp only [List.getD_cons_zero, List.getD_cons_succ] at c0_0 c0_1 c0_2 c0_3 c0_4 c0_5 c0_6 c0_7
 clear hc0
 clear Bx1 Bx2 Bx3 Bx4
 go_wp2
 refine bodyPost_ret (v := .agg #[r0_p0, r0_q0, r0_p1, r0_q1, r0_p2, r0_q2, r0_p3, r0_q3]) ?_ rfl ⟨_, rfl, E.below, ⟨_, rfl, hP0⟩⟩
 simp [results, Try.results34, go_sem, c0_0, c0_1, c0_2, c0_3, c0_4, c0_5, c0_6, c0_7]

def FiveAt (zs : List Int) (g : Nat) (w : World) : Prop :=
 g < w.heap.size ∧ ∀ j, j < 5 → ∃ (n : Bool) (ao : Option Addr) (k c : Nat), w.cell? ⟨g, 2 * j, none⟩ = some (.bool n) ∧ w.cell? ⟨g, 2 * j + 1, none⟩ = some (.slice ao k c) ∧ Num w (.agg #[.bool n, .slice ao k c]) (zs.getD j 0)

theorem FiveAt.mono {zs : List Int} {g : Nat} {w w' : World} (h : FiveAt zs g w) (hb : Below w.heap.size w w') : FiveAt zs g w' := by
 refine ⟨Nat.lt_of_lt_of_le h.1 hb.size, fun j hj => ?_⟩
 obtain ⟨n, ao, k, c, h1, h2, h3⟩ := h.2 j hj
 exact ⟨n, ao, k, c, (hb.cell (p := ⟨g, 2 * j, none⟩) h.1).trans h1, (hb.cell (p := ⟨g, 2 * j + 1, none⟩) h.1).trans h2, h3.mono hb⟩

section
variable {os : List Oper} {Q : Exit → Act → World → Prop} {a : Act} {p : Plan} {B B0 : Nat} {w0 : World}
variable {i s : Nat} {d : Option Tmp} {ty : TypeId} {ps : String} {af : Array Edge} {gd : Option (Nat × Bool)}

end

theorem zK7 {neg : Bool} {xs : List Int} (hc : Canon xs) (hn : neg = true → xs.length ≠ 0) : zD3 neg xs = true := by
 unfold zD3
 by_cases h : xs.length = 0
 ·rw [if_pos h]
  cases neg with
  | false => rfl
  | true => exact absurd h (hn rfl)
 ·rw [if_neg h]
  have h1 : pw (xs.length - 1) ≤ val xs := hc.2.resolve_left h
  have h2 := zAs xs (xs.length - 1)
  rw [show xs.length - 1 + 1 = xs.length by omega, List.take_length] at h2
  have h3 := zA4 (hc.1.take (xs.length - 1))
  rw [List.length_take, Nat.min_eq_left (by omega)] at h3
  simp only [bne_iff_ne, ne_eq]
  intro h0
  rw [h0, Int.mul_zero] at h2
  omega

theorem exValid {w : World} {n : Bool} {ao : Option Addr} {k c : Nat} {z : Int} (h : Num w (.agg #[.bool n, .slice ao k c]) z) : Calls Try.prog 71 #[.agg #[.bool n, .slice ao k c]] w fun e w' => e = .returned (.bool true) ∧ Below w.heap.size w w' := by
 obtain ⟨neg, ao', k', c', xs, hv, hs, hn, hz, hc, hnn⟩ := h
 obtain ⟨rfl, rfl, rfl, rfl⟩ : n = neg ∧ ao = ao' ∧ k = k' ∧ c = c' := by
  simp at hv; exact ⟨hv.1, hv.2.1, hv.2.2.1, hv.2.2.2⟩
 have := Valid_any w n ao k c xs hs (by omega)
 rw [zK7 hc (by rw [hs.len]; exact hnn)] at this
 exact this

theorem exRValid {w : World} {n : Bool} {ao : Option Addr} {k c : Nat} {z : Int} (h : Num w (.agg #[.bool n, .slice ao k c]) z) : Calls Try.prog 91 #[.agg #[.bool n, .slice ao k c]] w fun e w' => e = .returned (.bool true) ∧ Below w.heap.size w w' := by
 obtain ⟨neg, ao', k', c', xs, hv, hs, hn, hz, hc, hnn⟩ := h
 obtain ⟨rfl, rfl, rfl, rfl⟩ : n = neg ∧ ao = ao' ∧ k = k' ∧ c = c' := by
  simp at hv; exact ⟨hv.1, hv.2.1, hv.2.2.1, hv.2.2.2⟩
 have := zN8 w n ao k c xs hs (by omega)
 rw [zK7 hc (by rw [hs.len]; exact hnn)] at this
 exact this

theorem zLn (args : Array Value) (w : World) : (callFunc 77 args).run Try.prog w = .ok (.enter 77 args) w := zAp Try.func77 (by kernel_rfl) rfl args w
def sqB (n : Int) : Bool := decide (0 ≤ n) && (List.range (n.toNat + 1)).any fun k => k * k == n.toNat
theorem sqB_iff {n : Int} : sqB n = true ↔ ∃ k : Int, k * k = n := by
 simp only [sqB, Bool.and_eq_true, decide_eq_true_eq, List.any_eq_true, List.mem_range, beq_iff_eq]
 constructor
 ·rintro ⟨h0, k, _, hk⟩
  refine ⟨(k : Int), ?_⟩
  have : ((k * k : Nat) : Int) = ((n.toNat : Nat) : Int) := by rw [hk]
  rw [Int.natCast_mul] at this
  omega
 ·rintro ⟨k, hk⟩
  have h0 := zDu k
  have h1 := zDt k
  have h2 : (k.natAbs : Int) * (k.natAbs : Int) = ((k.natAbs * k.natAbs : Nat) : Int) := by rw [Int.natCast_mul]
  have h3 : k.natAbs ≤ k.natAbs * k.natAbs := by
   rcases Nat.eq_zero_or_pos k.natAbs with e | e
   ·rw [e]; omega
   ·exact Nat.le_mul_of_pos_left _ e
  refine ⟨by omega, k.natAbs, by omega, by omega⟩
theorem isq_ex : ∀ p : Nat, ∃ s : Int, 0 ≤ s ∧ s * s ≤ p ∧ (p : Int) < (s + 1) * (s + 1)
 | 0 => ⟨0, by decide, by decide, by decide⟩
 | p + 1 => by
  obtain ⟨s, h0, h1, h2⟩ := isq_ex p
  have e : (s + 1 + 1) * (s + 1 + 1) = (s + 1) * (s + 1) + 2 * (s + 1) + 1 := by rw [Int.add_mul (s + 1) 1, Int.mul_add (s + 1) (s + 1) 1]; omega
  by_cases h : ((p + 1 : Nat) : Int) < (s + 1) * (s + 1)
  ·exact ⟨s, h0, by omega, h⟩
  ·exact ⟨s + 1, by omega, by omega, by rw [e]; omega⟩
theorem zHw {X r s : Int} (r0 : 0 ≤ r) (r1 : r * r ≤ X) (r2 : X < (r + 1) * (r + 1)) (s0 : 0 ≤ s) (h1 : s * s ≤ X) (h2 : X < (s + 1) * (s + 1)) : r = s := by
 rcases Int.lt_trichotomy r s with h | h | h
 ·have := Int.mul_le_mul (show r + 1 ≤ s by omega) (show r + 1 ≤ s by omega) (by omega) s0
  omega
 ·exact h
 ·have := Int.mul_le_mul (show s + 1 ≤ r by omega) (show s + 1 ≤ r by omega) (by omega) r0
  omega
theorem root_sq {X r : Int} (hr : IsRoot X 2 r) : 0 ≤ r ∧ r * r ≤ X ∧ X < (r + 1) * (r + 1) := by
 obtain ⟨r0, r1, r2⟩ := hr
 have e : ∀ z : Int, z ^ 2 = z * z := fun z => by rw [show (2 : Nat) = 1 + 1 by rfl, Int.pow_succ, Int.pow_succ, Int.pow_zero, Int.one_mul]
 rw [e] at r1 r2
 exact ⟨r0, r1, r2⟩
theorem zK0 {n s : Int} (s0 : 0 ≤ s) (h1 : s * s ≤ n) (h2 : n < (s + 1) * (s + 1)) : sqB n = decide (n - s * s = 0) := by
 by_cases e : n - s * s = 0
 ·rw [decide_eq_true e]
  exact sqB_iff.2 ⟨s, by omega⟩
 ·rw [decide_eq_false e]
  refine Bool.eq_false_iff.2 fun h => e ?_
  obtain ⟨k, hk⟩ := sqB_iff.1 h
  have hk2 := zDt k
  have := zHw (X := n) (r := (k.natAbs : Int)) (by omega) (by omega) (by rw [Int.add_mul, Int.mul_add]; omega) s0 h1 h2
  rw [← this]
  omega
theorem exQSqrt {n : Int} (h0 : 0 ≤ n) (hn : ab n < pw 40) : ∃ s : Int, (∀ (w : World) (v : Value), Num w v n → Calls Try.prog 77 #[v] w fun e w' => ∃ v', e = .returned v' ∧ Below w.heap.size w w' ∧ (Fq.tup3 (Fq.num s) (Fq.num (n - s * s)) (Fq.is (.int .i64 0))).P v' w') ∧ sqB n = decide (n - s * s = 0) := by
 obtain ⟨s, s0, s1, s2⟩ := isq_ex n.toNat
 have e : ((n.toNat : Nat) : Int) = n := by omega
 rw [e] at s1 s2
 refine ⟨s, fun w v hv => (RSqrtV hv hn).mono fun e w' hh => ?_, zK0 s0 s1 s2⟩
 obtain ⟨hB, ⟨h1, _⟩ | ⟨_, v1, v2, r, rfl, hr1, hr2, hr⟩⟩ := hh
 ·omega
 ·obtain ⟨q0, q1, q2⟩ := root_sq hr
  obtain rfl : r = s := zHw q0 q1 q2 s0 s1 s2
  have hbr : ab r < pw 40 := by
   have h4 := hn
   have h5 : r ≤ r * r := by
    rcases Int.lt_or_le 0 r with h | h
    ·have := Int.mul_le_mul_of_nonneg_left (show 1 ≤ r by omega) s0; omega
    ·have := Int.mul_nonneg s0 s0; omega
   unfold ab at *
   generalize pw 40 = k at *
   omega
  have hbr2 : ab (n - r * r) < pw 40 := by
   have h4 := hn
   have := Int.mul_nonneg s0 s0
   unfold ab at *
   generalize pw 40 = k at *
   omega
  exact ⟨_, rfl, hB, v1, v2, _, rfl, zDr hr1 hbr (by omega), zDr hr2 hbr2 (by omega), rfl⟩
theorem zG5 {n : Int} (h : n < 0) : sqB n = false := by
 refine Bool.eq_false_iff.2 fun e => ?_
 obtain ⟨k, hk⟩ := sqB_iff.1 e
 have := zDu k
 omega
theorem zBz {a b c : Int} (ha : ab a < pw 15) (hb : ab b < pw 15) (hc : ab c < pw 15) : ab (b * b - 4 * (a * c)) < pw 40 :=
 zC0 (zCg hb hb) (zCg (zAx (x := 4) (by decide) (by decide)) (zCg ha hc)) (by omega) (by omega)
theorem zCr {w : World} {v : Value} {z : Int} (h : Num w v z) : Calls Try.prog 91 #[v] w fun e w' => ∃ v', e = .returned v' ∧ Below w.heap.size w w' ∧ v' = .bool true := by
 obtain ⟨n, ao, k, c, rfl⟩ := h.parts
 refine (exRValid h).mono ?_
 rintro e w' ⟨rfl, hb⟩
 exact ⟨_, rfl, hb, rfl⟩
def chkF (a b c : Int) : Int := if sqB (b * b - 4 * (a * c)) = true then 5 else if b * b - 4 * (a * c) < 0 ∧ a < 0 then 1 else 0
theorem zF6 {a b c : Int} (hd : b * b - 4 * (a * c) < 0) (hz : ¬ a < 0) : chkF a b c = 0 := by
 unfold chkF
 rw [zG5 hd, if_neg (by decide), if_neg fun x => hz x.2]
theorem zI5 {a b c : Int} (hd : b * b - 4 * (a * c) < 0) (hz : a < 0) : chkF a b c = 1 := by
 unfold chkF
 rw [zG5 hd, if_neg (by decide), if_pos ⟨hd, hz⟩]
theorem zHd {a b c : Int} (hd : ¬ b * b - 4 * (a * c) < 0) : chkF a b c = if sqB (b * b - 4 * (a * c)) = true then 5 else 0 := by
 unfold chkF
 by_cases h : sqB (b * b - 4 * (a * c)) = true
 ·rw [if_pos h, if_pos h]
 ·rw [if_neg h, if_neg h, if_neg fun x => hd x.1]
def dfB (a b c : Int) : Bool := decide (b * b - 4 * (a * c) < 0 ∧ 0 ≤ a)
section
variable {os : List Oper} {Q : Exit → Act → World → Prop} {a : Act} {p : Pq} {B B0 : Nat} {w0 : World}
variable {i s : Nat} {d : Option Tmp} {ty : TypeId} {ps : String} {af : Array Edge} {gd : Option (Nat × Bool)}
theorem zFo (hp : p.Ok B B0) (hF : p.Free i) (hg : GdQ os a p B B0 w0 af gd) (hC : ∀ v w, (Fq.st [.n 0, .n 0, .n 0]).P v w → (p.c i).P v w) :
  zAr os Q a p B B0 w0 i { dst := d, op := .build 33 #[], type := ty, pos := ps, after := af, guard := gd } := by
 refine zBk hp hF hg fun L vs w hG hL hc hd => ?_
 refine ⟨.agg #[.bool false, .slice none 0 0, .bool false, .slice none 0 0, .bool false, .slice none 0 0], ?_, hC _ _ ⟨_, rfl, _, _, _, rfl, Num.zero w, _, _, _, rfl, Num.zero w, _, _, _, rfl, Num.zero w, rfl⟩⟩
 simp [execOp, go_sem]
end
set_option maxRecDepth 100000 in
set_option maxHeartbeats 4000000 in
theorem zNc {w : World} {v : Value} {n : Int} (h : Num w v n) (hn : ab n < pw 40) (hc : n < 0) {t : Bool} (ht : sqB n = t) :
  Calls Try.prog 40 #[v] w fun e w' => ∃ v', e = .returned v' ∧ Below w.heap.size w w' ∧ v' = .bool t := by
 replace hn := hidd hn
 have T1 : Hid (cmpI n 0 < 0) := cmpIqlt.2 hc
 have ht2 : t = false := ht.symm.trans (zG5 hc)
 subst ht2
 clear ht
 clear hc
 obtain ⟨n0, ao0, k0, c0, rfl⟩ := h.parts
 obtain ⟨w1, b1, hw1, hb1, hs1, E⟩ := zCh w (F := Fq.num n) (us := [.bool n0, .slice ao0 k0 c0]) 31 rfl (by simp) (zB4 _ _ _ _) h
 go_enter Try.func40, Try.ntmps40
 go_upto_region 1 with (fail)
 rw [← hw1]
 rw [← hb1]
 clear hw1 hb1 hs1
 refine rg [Fq.num n, Fq.is (.int .i64 (cmpI n 0)), yT] [none] [] E (fun hp => ⟨?_, ?_, ?_, tv⟩) ?_
 ·exact lI 0 hp (mq 0 rfl) (sqo 1) fun us w hl h => zAq hl h
 ·exact wXa (Fq.num n) hp zBv (sqi 0) fun v w h => zBw h
 ·exact zAf (F := fun v _ => v = .int .i64 (cmpI n 0)) hp fo tv (sqi 1) (fun ρ w hc h => ⟨.bool true, by simp [execOp, go_sem, h, hc, T1.out], rfl⟩)
 intro L vs w2 nb hL hC hn E2
 have e1 := wXi hC 1
 have e2 := wXi hC 2
 have E := E2; try simp only [LM, zAd] at E
 rw [zAe hL]
 simp only [SP, Nat.zero_add, Nat.reduceAdd]
 rw [e1, e2]
 generalize vs 0 = u2_0
 clear e1 e2 hC hn E2 hL vs L nb
 go_upto_region 2 with (fail)
 refine rg [yF] [none] [] E (fun hp => ⟨?_, tv⟩) ?_
 ·exact zAi hp fo tv (zAj (fun _ => rfl))
 intro L vs w3 nb hL hC hn E3
 have e0 := wXi hC 0
 have E := E3; try simp only [LM, zAd] at E
 rw [zAe hL]
 simp only [SP, Nat.zero_add, Nat.reduceAdd]
 rw [e0]
 clear e0 hC hn E3 hL vs L nb
 clear T1
 clear hn
 go_wp2
 refine bodyPost_ret (v := .bool false) ?_ rfl ⟨_, rfl, E.below, rfl⟩
 simp [results, Try.results40, go_sem]

set_option maxRecDepth 100000 in
set_option maxHeartbeats 4000000 in
theorem zNd {w : World} {v : Value} {n : Int} (h : Num w v n) (hn : ab n < pw 40) (hc : ¬ n < 0) {t : Bool} (ht : sqB n = t) :
  Calls Try.prog 40 #[v] w fun e w' => ∃ v', e = .returned v' ∧ Below w.heap.size w w' ∧ v' = .bool t := by
 replace hn := hidd hn
 have T1 : Hid (¬ cmpI n 0 < 0) := fun e => hc (cmpIqlt.1 e)
 obtain ⟨s, hS, hq⟩ := exQSqrt (by omega) hn.out
 have HS := hidd hS
 have ht3 : t = decide (n - s * s = 0) := ht.symm.trans hq
 clear hc hS hq ht
 have HT : Hid (t = decide (n - s * s = 0)) := ht3
 clear ht3
 obtain ⟨n0, ao0, k0, c0, rfl⟩ := h.parts
 obtain ⟨w1, b1, hw1, hb1, hs1, E⟩ := zCh w (F := Fq.num n) (us := [.bool n0, .slice ao0 k0 c0]) 31 rfl (by simp) (zB4 _ _ _ _) h
 go_enter Try.func40, Try.ntmps40
 go_upto_region 1 with (fail)
 rw [← hw1]
 rw [← hb1]
 clear hw1 hb1 hs1
 refine rg [Fq.num n, Fq.is (.int .i64 (cmpI n 0)), yF] [none] [] E (fun hp => ⟨?_, ?_, ?_, tv⟩) ?_
 ·exact lI 0 hp (mq 0 rfl) (sqo 1) fun us w hl h => zAq hl h
 ·exact wXa (Fq.num n) hp zBv (sqi 0) fun v w h => zBw h
 ·exact zAf (F := fun v _ => v = .int .i64 (cmpI n 0)) hp fo tv (sqi 1) (fun ρ w hc h => ⟨.bool false, by simp [execOp, go_sem, h, hc, T1.out], rfl⟩)
 intro L vs w2 nb hL hC hn E2
 have e1 := wXi hC 1
 have e2 := wXi hC 2
 have E := E2; try simp only [LM, zAd] at E
 rw [zAe hL]
 simp only [SP, Nat.zero_add, Nat.reduceAdd]
 rw [e1, e2]
 generalize vs 0 = u2_0
 clear e1 e2 hC hn E2 hL vs L nb
 go_upto_region 3 with (fail)
 refine rg [Fq.num n, Fq.tup3 (Fq.num s) (Fq.num (n - s * s)) (Fq.is (.int .i64 0)), Fq.tup3 (Fq.num s) (Fq.num (n - s * s)) (Fq.is (.int .i64 0)), Fq.num s, Fq.num (n - s * s), Fq.is (.int .i64 0), Fq.any, Fq.any, Fq.any, Fq.any, Fq.is (.int .i64 0)] [none] [⟨6, 8, 2, Fq.num 0, Fq.num s, none⟩, ⟨7, 9, 2, Fq.num 0, Fq.num (n - s * s), none⟩] E (fun hp => ⟨?_, ?_, ?_, ?_, ?_, ?_, ?_, ?_, ?_, ?_, ?_, tv⟩) ?_
 ·exact lI 0 hp (mq 0 rfl) (sqo 1) fun us w hl h => zAq hl h
 ·exact wXa (Fq.num n) hp zLn (sqi 0) fun v w h => HS.out _ _ h
 ·exact zAc hp fo tv (sqi 1)
 ·exact zA0 hp fo tv (sqi 2) (fun v1 v2 v3 w h1 h2 h3 => ⟨_, rfl, h1⟩)
 ·exact zA0 hp fo tv (sqi 2) (fun v1 v2 v3 w h1 h2 h3 => ⟨_, rfl, h2⟩)
 ·exact zA0 hp fo tv (sqi 2) (fun v1 v2 v3 w h1 h2 h3 => ⟨_, rfl, h3⟩)
 ·exact aN hp (mq 0 rfl)
 ·exact aN hp (mq 1 rfl)
 ·exact sN 3 hp (mq 0 rfl)
 ·exact sN 4 hp (mq 1 rfl)
 ·exact zAi hp fo tv (sqi 5)
 intro L vs w3 nb hL hC hn E3
 have e5 := wXi hC 5
 have e10 := wXi hC 10
 have e6 : vs 6 = .pointer (some ⟨nb 6, 0, none⟩) := hn _ (mq 0 rfl)
 have e7 : vs 7 = .pointer (some ⟨nb 7, 0, none⟩) := hn _ (mq 1 rfl)
 have E := E3; try simp only [LM, zAd] at E
 rw [zAe hL]
 simp only [SP, Nat.zero_add, Nat.reduceAdd]
 rw [e5, e10, e6, e7]
 generalize nb 6 = b3_6 at E ⊢
 generalize nb 7 = b3_7 at E ⊢
 generalize vs 0 = u3_0
 generalize vs 1 = u3_1
 generalize vs 2 = u3_2
 generalize vs 3 = u3_3
 generalize vs 4 = u3_4
 clear e5 e10 e6 e7 hC hn E3 hL vs L nb
 go_upto_region 4 with (fail)
 by_cases hz : n - s * s = 0
 ·have T2 : Hid (cmpI (n - s * s) 0 = 0) := cmpIq0.2 hz
  have ht2 : t = true := HT.out.trans (decide_eq_true hz)
  subst ht2
  clear hz HT
  refine rg [Fq.num (n - s * s), Fq.is (.int .i64 (cmpI (n - s * s) 0)), yT, yT] N3 [] E (fun hp => ⟨?_, ?_, ?_, ?_, tv⟩) ?_
  ·exact lI 0 hp (mq 1 rfl) (sqo 4) fun us w hl h => zAq hl h
  ·exact wXa (Fq.num (n - s * s)) hp zBv (sqi 0) fun v w h => zBw h
  ·exact zAf (F := fun v _ => v = .int .i64 (cmpI (n - s * s) 0)) hp fo tv (sqi 1) (fun ρ w hc h => ⟨.bool true, by simp [execOp, go_sem, h, hc, T2.out], rfl⟩)
  ·exact zAi hp fo tv (sqi 2)
  intro L vs w4 nb hL hC hn E4
  have e1 := wXi hC 1
  have e2 := wXi hC 2
  have e3 := wXi hC 3
  have E := E4; try simp only [LM, zAd] at E
  rw [zAe hL]
  simp only [SP, Nat.zero_add, Nat.reduceAdd]
  rw [e1, e2, e3]
  generalize vs 0 = u4_0
  clear e1 e2 e3 hC hn E4 hL vs L nb
  clear T1 T2 HS
  clear hn
  go_wp2
  refine bodyPost_ret (v := .bool true) ?_ rfl ⟨_, rfl, E.below, rfl⟩
  simp [results, Try.results40, go_sem]
 ·have T2 : Hid (¬ cmpI (n - s * s) 0 = 0) := fun e => hz (cmpIq0.1 e)
  have ht2 : t = false := HT.out.trans (decide_eq_false hz)
  subst ht2
  clear hz HT
  refine rg [Fq.num (n - s * s), Fq.is (.int .i64 (cmpI (n - s * s) 0)), yF, yF] N3 [] E (fun hp => ⟨?_, ?_, ?_, ?_, tv⟩) ?_
  ·exact lI 0 hp (mq 1 rfl) (sqo 4) fun us w hl h => zAq hl h
  ·exact wXa (Fq.num (n - s * s)) hp zBv (sqi 0) fun v w h => zBw h
  ·exact zAf (F := fun v _ => v = .int .i64 (cmpI (n - s * s) 0)) hp fo tv (sqi 1) (fun ρ w hc h => ⟨.bool false, by simp [execOp, go_sem, h, hc, T2.out], rfl⟩)
  ·exact zAi hp fo tv (sqi 2)
  intro L vs w5 nb hL hC hn E5
  have e1 := wXi hC 1
  have e2 := wXi hC 2
  have e3 := wXi hC 3
  have E := E5; try simp only [LM, zAd] at E
  rw [zAe hL]
  simp only [SP, Nat.zero_add, Nat.reduceAdd]
  rw [e1, e2, e3]
  generalize vs 0 = u5_0
  clear e1 e2 e3 hC hn E5 hL vs L nb
  clear T1 T2 HS
  clear hn
  go_wp2
  refine bodyPost_ret (v := .bool false) ?_ rfl ⟨_, rfl, E.below, rfl⟩
  simp [results, Try.results40, go_sem]

theorem zGi {w : World} {v : Value} {n : Int} (h : Num w v n) (hn : ab n < pw 40) {t : Bool} (ht : sqB n = t) :
  Calls Try.prog 40 #[v] w fun e w' => ∃ v', e = .returned v' ∧ Below w.heap.size w w' ∧ v' = .bool t := by
 by_cases hc : n < 0
 ·exact zNc h hn hc ht
 ·exact zNd h hn hc ht

set_option maxRecDepth 100000 in
set_option maxHeartbeats 4000000 in
theorem zMu {w : World} {v : Value} {a b c : Int} (h : (Fq.st [.n a, .n b, .n c]).P v w) (ha : ab a < pw 15) (hb : ab b < pw 15) (hc : ab c < pw 15) (hq : sqB (b * b - 4 * (a * c)) = true) :
  Calls Try.prog 60 #[v] w fun e w' => ∃ v', e = .returned v' ∧ Below w.heap.size w w' ∧ v' = .int .i64 5 := by
 replace ha := hidd ha
 replace hb := hidd hb
 replace hc := hidd hc
 have HQ := hidd hq
 clear hq
 have HDB := hidd (zBz ha.out hb.out hc.out)
 obtain ⟨_, rfl, hf0⟩ := h
 have hF0 := hf0
 obtain ⟨y0_p0, y0_q0, _, rfl, _y0_n0, y0_p1, y0_q1, _, rfl, _y0_n1, y0_p2, y0_q2, _, rfl, _y0_n2, rfl⟩ := hf0
 obtain ⟨w1, b1, hw1, hb1, hs1, E⟩ := gS w 33 hF0
 go_enter Try.func60, Try.ntmps60
 go_upto_region 1 with (fail)
 rw [← hw1]
 rw [← hb1]
 clear hw1 hb1 hs1
 refine rg [ip b1 0, Fq.num a, yT, yF, yF, ip b1 2, Fq.num b, yT, yF, yF, yF, ip b1 4, Fq.num c, yT, yF, yF] [none] [] E (fun hp => ⟨?_, ?_, ?_, ?_, ?_, ?_, ?_, ?_, ?_, ?_, ?_, ?_, ?_, ?_, ?_, ?_, tv⟩) ?_
 ·exact qa b1 0 0 hp (sqo 1)
 ·exact lN 0 2 hp (mq 0 rfl) zAb (sqi 0)
 ·exact wXa (Fq.num a) hp zCo (sqi 1) fun v w h => zCr h
 ·exact zAf (F := fun v _ => v = .bool true) hp fo tv (sqi 2) (fun ρ w _ h => ⟨.bool false, by simp [execOp, go_sem, h], rfl⟩)
 ·exact zAc hp fo tv (sqi 3)
 ·exact zAl (b := b1) (off := 0) (off' := 2) hp fo gqi (sqo 1) (fun ρ w h => by simp [execOp, go_sem, h]) (fun _ => rfl)
 ·exact lG 2 2 hp gqi (mq 0 rfl) zAb (sqi 5) fun v w h => zAk h
 ·exact zAm (F := (Fq.num b).P) hp fo gqi (zCo) (sqi 6) (fun v w h => zCr h)
 ·exact zAf (F := fun v _ => v = .bool true) hp fo gqi (sqi 7) (fun ρ w _ h => ⟨.bool false, by simp [execOp, go_sem, h], rfl⟩)
 ·exact zAg (F := fun v _ => v = .bool false) (G := fun v _ => v = .bool false) hp fo tv (sqi 4) (sqi 8) (fun ρ w hc h h' => ⟨_, by simp [execOp, go_sem, h, h'], rfl⟩)
 ·exact zAc hp fo tv (sqi 9)
 ·exact zAl (b := b1) (off := 0) (off' := 4) hp fo gqi (sqo 1) (fun ρ w h => by simp [execOp, go_sem, h]) (fun _ => rfl)
 ·exact lG 4 2 hp gqi (mq 0 rfl) zAb (sqi 11) fun v w h => zAk h
 ·exact zAm (F := (Fq.num c).P) hp fo gqi (zCo) (sqi 12) (fun v w h => zCr h)
 ·exact zAf (F := fun v _ => v = .bool true) hp fo gqi (sqi 13) (fun ρ w _ h => ⟨.bool false, by simp [execOp, go_sem, h], rfl⟩)
 ·exact zAg (F := fun v _ => v = .bool false) (G := fun v _ => v = .bool false) hp fo tv (sqi 10) (sqi 14) (fun ρ w hc h h' => ⟨_, by simp [execOp, go_sem, h, h'], rfl⟩)
 intro L vs w2 nb hL hC hn E2
 have e0 := wXi hC 0
 have e2 := wXi hC 2
 have e3 := wXi hC 3
 have e4 := wXi hC 4
 have e5 := wXi hC 5
 have e7 := wXi hC 7
 have e8 := wXi hC 8
 have e9 := wXi hC 9
 have e10 := wXi hC 10
 have e11 := wXi hC 11
 have e13 := wXi hC 13
 have e14 := wXi hC 14
 have e15 := wXi hC 15
 have E := E2; try simp only [LM, zAd] at E
 rw [zAe hL]
 simp only [SP, Nat.zero_add, Nat.reduceAdd]
 rw [e0, e2, e3, e4, e5, e7, e8, e9, e10, e11, e13, e14, e15]
 generalize vs 1 = u2_1
 generalize vs 6 = u2_6
 generalize vs 12 = u2_12
 clear e0 e2 e3 e4 e5 e7 e8 e9 e10 e11 e13 e14 e15 hC hn E2 hL vs L nb
 go_upto_region 3 with (fail)
 refine rg [Fq.st [.n a, .n b, .n c], Fq.num (b * b - 4 * (a * c)), Fq.any, Fq.any] [none] [⟨2, 3, 2, Fq.num 0, Fq.num (b * b - 4 * (a * c)), none⟩] E (fun hp => ⟨?_, ?_, ?_, ?_, tv⟩) ?_
 ·exact lS 0 6 hp (mq 0 rfl) zAn (sqo 1)
 ·exact wXa (Fq.st [.n a, .n b, .n c]) hp zDw (sqi 0) fun v w h => zDy h (Int.lt_of_lt_of_le ha.out (zAa (by omega))) (Int.lt_of_lt_of_le hb.out (zAa (by omega))) (Int.lt_of_lt_of_le hc.out (zAa (by omega)))
 ·exact aN hp (mq 0 rfl)
 ·exact sN 1 hp (mq 0 rfl)
 intro L vs w3 nb hL hC hn E3
 have e2 : vs 2 = .pointer (some ⟨nb 2, 0, none⟩) := hn _ (mq 0 rfl)
 have E := E3; try simp only [LM, zAd] at E
 rw [zAe hL]
 simp only [SP, Nat.zero_add, Nat.reduceAdd]
 rw [e2]
 generalize nb 2 = b3_2 at E ⊢
 generalize vs 0 = u3_0
 generalize vs 1 = u3_1
 clear e2 hC hn E3 hL vs L nb
 go_upto_region 4 with (fail)
 refine rg [Fq.num (b * b - 4 * (a * c)), yT] N2 [] E (fun hp => ⟨?_, ?_, tv⟩) ?_
 ·exact lI 0 hp (mq 0 rfl) (sqo 3) fun us w hl h => zAq hl h
 ·exact wXa (Fq.num (b * b - 4 * (a * c))) hp zGe (sqi 0) fun v w h => zGi h HDB.out HQ.out
 intro L vs w4 nb hL hC hn E4
 have e1 := wXi hC 1
 have E := E4; try simp only [LM, zAd] at E
 rw [zAe hL]
 simp only [SP, Nat.zero_add, Nat.reduceAdd]
 rw [e1]
 generalize vs 0 = u4_0
 clear e1 hC hn E4 hL vs L nb
 go_upto_region 5 with (fail)
 refine rg [Fq.is (.int .i64 5)] N2 [] E (fun hp => ⟨?_, tv⟩) ?_
 ·exact zAi hp fo tv (zAj (fun _ => rfl))
 intro L vs w5 nb hL hC hn E5
 have e0 := wXi hC 0
 have E := E5; try simp only [LM, zAd] at E
 rw [zAe hL]
 simp only [SP, Nat.zero_add, Nat.reduceAdd]
 rw [e0]
 clear e0 hC hn E5 hL vs L nb
 clear HQ
 clear ha hb hc HDB
 go_wp2
 refine bodyPost_ret (v := .int .i64 5) ?_ rfl ⟨_, rfl, E.below, rfl⟩
 simp [results, Try.results60, go_sem]

set_option maxRecDepth 100000 in
set_option maxHeartbeats 4000000 in
theorem zMt {w : World} {v : Value} {a b c : Int} (h : (Fq.st [.n a, .n b, .n c]).P v w) (ha : ab a < pw 15) (hb : ab b < pw 15) (hc : ab c < pw 15) (hq : sqB (b * b - 4 * (a * c)) = false) (hd : (b * b - 4 * (a * c)) < 0) (hz : a < 0) :
  Calls Try.prog 60 #[v] w fun e w' => ∃ v', e = .returned v' ∧ Below w.heap.size w w' ∧ v' = .int .i64 1 := by
 replace ha := hidd ha
 replace hb := hidd hb
 replace hc := hidd hc
 have HQ := hidd hq
 clear hq
 have HDB := hidd (zBz ha.out hb.out hc.out)
 have T1 : Hid (cmpI (b * b - 4 * (a * c)) 0 < 0) := cmpIqlt.2 hd
 clear hd
 have T2 : Hid (cmpI a 0 < 0) := cmpIqlt.2 hz
 clear hz
 obtain ⟨_, rfl, hf0⟩ := h
 have hF0 := hf0
 obtain ⟨y0_p0, y0_q0, _, rfl, _y0_n0, y0_p1, y0_q1, _, rfl, _y0_n1, y0_p2, y0_q2, _, rfl, _y0_n2, rfl⟩ := hf0
 obtain ⟨w1, b1, hw1, hb1, hs1, E⟩ := gS w 33 hF0
 go_enter Try.func60, Try.ntmps60
 go_upto_region 1 with (fail)
 rw [← hw1]
 rw [← hb1]
 clear hw1 hb1 hs1
 refine rg [ip b1 0, Fq.num a, yT, yF, yF, ip b1 2, Fq.num b, yT, yF, yF, yF, ip b1 4, Fq.num c, yT, yF, yF] [none] [] E (fun hp => ⟨?_, ?_, ?_, ?_, ?_, ?_, ?_, ?_, ?_, ?_, ?_, ?_, ?_, ?_, ?_, ?_, tv⟩) ?_
 ·exact qa b1 0 0 hp (sqo 1)
 ·exact lN 0 2 hp (mq 0 rfl) zAb (sqi 0)
 ·exact wXa (Fq.num a) hp zCo (sqi 1) fun v w h => zCr h
 ·exact zAf (F := fun v _ => v = .bool true) hp fo tv (sqi 2) (fun ρ w _ h => ⟨.bool false, by simp [execOp, go_sem, h], rfl⟩)
 ·exact zAc hp fo tv (sqi 3)
 ·exact zAl (b := b1) (off := 0) (off' := 2) hp fo gqi (sqo 1) (fun ρ w h => by simp [execOp, go_sem, h]) (fun _ => rfl)
 ·exact lG 2 2 hp gqi (mq 0 rfl) zAb (sqi 5) fun v w h => zAk h
 ·exact zAm (F := (Fq.num b).P) hp fo gqi (zCo) (sqi 6) (fun v w h => zCr h)
 ·exact zAf (F := fun v _ => v = .bool true) hp fo gqi (sqi 7) (fun ρ w _ h => ⟨.bool false, by simp [execOp, go_sem, h], rfl⟩)
 ·exact zAg (F := fun v _ => v = .bool false) (G := fun v _ => v = .bool false) hp fo tv (sqi 4) (sqi 8) (fun ρ w hc h h' => ⟨_, by simp [execOp, go_sem, h, h'], rfl⟩)
 ·exact zAc hp fo tv (sqi 9)
 ·exact zAl (b := b1) (off := 0) (off' := 4) hp fo gqi (sqo 1) (fun ρ w h => by simp [execOp, go_sem, h]) (fun _ => rfl)
 ·exact lG 4 2 hp gqi (mq 0 rfl) zAb (sqi 11) fun v w h => zAk h
 ·exact zAm (F := (Fq.num c).P) hp fo gqi (zCo) (sqi 12) (fun v w h => zCr h)
 ·exact zAf (F := fun v _ => v = .bool true) hp fo gqi (sqi 13) (fun ρ w _ h => ⟨.bool false, by simp [execOp, go_sem, h], rfl⟩)
 ·exact zAg (F := fun v _ => v = .bool false) (G := fun v _ => v = .bool false) hp fo tv (sqi 10) (sqi 14) (fun ρ w hc h h' => ⟨_, by simp [execOp, go_sem, h, h'], rfl⟩)
 intro L vs w2 nb hL hC hn E2
 have e0 := wXi hC 0
 have e2 := wXi hC 2
 have e3 := wXi hC 3
 have e4 := wXi hC 4
 have e5 := wXi hC 5
 have e7 := wXi hC 7
 have e8 := wXi hC 8
 have e9 := wXi hC 9
 have e10 := wXi hC 10
 have e11 := wXi hC 11
 have e13 := wXi hC 13
 have e14 := wXi hC 14
 have e15 := wXi hC 15
 have E := E2; try simp only [LM, zAd] at E
 rw [zAe hL]
 simp only [SP, Nat.zero_add, Nat.reduceAdd]
 rw [e0, e2, e3, e4, e5, e7, e8, e9, e10, e11, e13, e14, e15]
 generalize vs 1 = u2_1
 generalize vs 6 = u2_6
 generalize vs 12 = u2_12
 clear e0 e2 e3 e4 e5 e7 e8 e9 e10 e11 e13 e14 e15 hC hn E2 hL vs L nb
 go_upto_region 3 with (fail)
 refine rg [Fq.st [.n a, .n b, .n c], Fq.num (b * b - 4 * (a * c)), Fq.any, Fq.any] [none] [⟨2, 3, 2, Fq.num 0, Fq.num (b * b - 4 * (a * c)), none⟩] E (fun hp => ⟨?_, ?_, ?_, ?_, tv⟩) ?_
 ·exact lS 0 6 hp (mq 0 rfl) zAn (sqo 1)
 ·exact wXa (Fq.st [.n a, .n b, .n c]) hp zDw (sqi 0) fun v w h => zDy h (Int.lt_of_lt_of_le ha.out (zAa (by omega))) (Int.lt_of_lt_of_le hb.out (zAa (by omega))) (Int.lt_of_lt_of_le hc.out (zAa (by omega)))
 ·exact aN hp (mq 0 rfl)
 ·exact sN 1 hp (mq 0 rfl)
 intro L vs w3 nb hL hC hn E3
 have e2 : vs 2 = .pointer (some ⟨nb 2, 0, none⟩) := hn _ (mq 0 rfl)
 have E := E3; try simp only [LM, zAd] at E
 rw [zAe hL]
 simp only [SP, Nat.zero_add, Nat.reduceAdd]
 rw [e2]
 generalize nb 2 = b3_2 at E ⊢
 generalize vs 0 = u3_0
 generalize vs 1 = u3_1
 clear e2 hC hn E3 hL vs L nb
 go_upto_region 4 with (fail)
 refine rg [Fq.num (b * b - 4 * (a * c)), yF] N2 [] E (fun hp => ⟨?_, ?_, tv⟩) ?_
 ·exact lI 0 hp (mq 0 rfl) (sqo 3) fun us w hl h => zAq hl h
 ·exact wXa (Fq.num (b * b - 4 * (a * c))) hp zGe (sqi 0) fun v w h => zGi h HDB.out HQ.out
 intro L vs w4 nb hL hC hn E4
 have e1 := wXi hC 1
 have E := E4; try simp only [LM, zAd] at E
 rw [zAe hL]
 simp only [SP, Nat.zero_add, Nat.reduceAdd]
 rw [e1]
 generalize vs 0 = u4_0
 clear e1 hC hn E4 hL vs L nb
 go_upto_region 6 with (fail)
 refine rg [Fq.num (b * b - 4 * (a * c)), Fq.is (.int .i64 (cmpI (b * b - 4 * (a * c)) 0)), yT, yT, ip b1 0, Fq.num a, Fq.is (.int .i64 (cmpI a 0)), yT, yT] N2 [] E (fun hp => ⟨?_, ?_, ?_, ?_, ?_, ?_, ?_, ?_, ?_, tv⟩) ?_
 ·exact lI 0 hp (mq 0 rfl) (sqo 3) fun us w hl h => zAq hl h
 ·exact wXa (Fq.num (b * b - 4 * (a * c))) hp zBv (sqi 0) fun v w h => zBw h
 ·exact zAf (F := fun v _ => v = .int .i64 (cmpI (b * b - 4 * (a * c)) 0)) hp fo tv (sqi 1) (fun ρ w hc h => ⟨.bool true, by simp [execOp, go_sem, h, hc, T1.out], rfl⟩)
 ·exact zAc hp fo tv (sqi 2)
 ·exact zAl (b := b1) (off := 0) (off' := 0) hp fo gqi (sqo 1) (fun ρ w h => by simp [execOp, go_sem, h]) (fun _ => rfl)
 ·exact lG 0 2 hp gqi (mq 1 rfl) zAb (sqi 4) fun v w h => zAk h
 ·exact zAm (F := (Fq.num a).P) hp fo gqi (zBv) (sqi 5) (fun v w h => zBw h)
 ·exact zAf (F := fun v _ => v = .int .i64 (cmpI a 0)) hp fo gqi (sqi 6) (fun ρ w hc h => ⟨.bool true, by simp [execOp, go_sem, h, hc, T2.out], rfl⟩)
 ·exact zAg (F := fun v _ => v = .bool true) (G := fun v _ => v = .bool true) hp fo tv (sqi 3) (sqi 7) (fun ρ w hc h h' => ⟨_, by simp [execOp, go_sem, h, h'], rfl⟩)
 intro L vs w5 nb hL hC hn E5
 have e1 := wXi hC 1
 have e2 := wXi hC 2
 have e3 := wXi hC 3
 have e4 := wXi hC 4
 have e6 := wXi hC 6
 have e7 := wXi hC 7
 have e8 := wXi hC 8
 have E := E5; try simp only [LM, zAd] at E
 rw [zAe hL]
 simp only [SP, Nat.zero_add, Nat.reduceAdd]
 rw [e1, e2, e3, e4, e6, e7, e8]
 generalize vs 0 = u5_0
 generalize vs 5 = u5_5
 clear e1 e2 e3 e4 e6 e7 e8 hC hn E5 hL vs L nb
 go_upto_region 7 with (fail)
 refine rg [Fq.is (.int .i64 1)] N2 [] E (fun hp => ⟨?_, tv⟩) ?_
 ·exact zAi hp fo tv (zAj (fun _ => rfl))
 intro L vs w6 nb hL hC hn E6
 have e0 := wXi hC 0
 have E := E6; try simp only [LM, zAd] at E
 rw [zAe hL]
 simp only [SP, Nat.zero_add, Nat.reduceAdd]
 rw [e0]
 clear e0 hC hn E6 hL vs L nb
 clear HQ T1 T2
 clear ha hb hc HDB
 go_wp2
 refine bodyPost_ret (v := .int .i64 1) ?_ rfl ⟨_, rfl, E.below, rfl⟩
 simp [results, Try.results60, go_sem]

set_option maxRecDepth 100000 in
set_option maxHeartbeats 4000000 in
theorem zMr {w : World} {v : Value} {a b c : Int} (h : (Fq.st [.n a, .n b, .n c]).P v w) (ha : ab a < pw 15) (hb : ab b < pw 15) (hc : ab c < pw 15) (hq : sqB (b * b - 4 * (a * c)) = false) (hd : (b * b - 4 * (a * c)) < 0) (hz : ¬ a < 0) :
  Calls Try.prog 60 #[v] w fun e w' => ∃ v', e = .returned v' ∧ Below w.heap.size w w' ∧ v' = .int .i64 0 := by
 replace ha := hidd ha
 replace hb := hidd hb
 replace hc := hidd hc
 have HQ := hidd hq
 clear hq
 have HDB := hidd (zBz ha.out hb.out hc.out)
 have T1 : Hid (cmpI (b * b - 4 * (a * c)) 0 < 0) := cmpIqlt.2 hd
 clear hd
 have T2 : Hid (¬ cmpI a 0 < 0) := fun e => hz (cmpIqlt.1 e)
 clear hz
 obtain ⟨_, rfl, hf0⟩ := h
 have hF0 := hf0
 obtain ⟨y0_p0, y0_q0, _, rfl, _y0_n0, y0_p1, y0_q1, _, rfl, _y0_n1, y0_p2, y0_q2, _, rfl, _y0_n2, rfl⟩ := hf0
 obtain ⟨w1, b1, hw1, hb1, hs1, E⟩ := gS w 33 hF0
 go_enter Try.func60, Try.ntmps60
 go_upto_region 1 with (fail)
 rw [← hw1]
 rw [← hb1]
 clear hw1 hb1 hs1
 refine rg [ip b1 0, Fq.num a, yT, yF, yF, ip b1 2, Fq.num b, yT, yF, yF, yF, ip b1 4, Fq.num c, yT, yF, yF] [none] [] E (fun hp => ⟨?_, ?_, ?_, ?_, ?_, ?_, ?_, ?_, ?_, ?_, ?_, ?_, ?_, ?_, ?_, ?_, tv⟩) ?_
 ·exact qa b1 0 0 hp (sqo 1)
 ·exact lN 0 2 hp (mq 0 rfl) zAb (sqi 0)
 ·exact wXa (Fq.num a) hp zCo (sqi 1) fun v w h => zCr h
 ·exact zAf (F := fun v _ => v = .bool true) hp fo tv (sqi 2) (fun ρ w _ h => ⟨.bool false, by simp [execOp, go_sem, h], rfl⟩)
 ·exact zAc hp fo tv (sqi 3)
 ·exact zAl (b := b1) (off := 0) (off' := 2) hp fo gqi (sqo 1) (fun ρ w h => by simp [execOp, go_sem, h]) (fun _ => rfl)
 ·exact lG 2 2 hp gqi (mq 0 rfl) zAb (sqi 5) fun v w h => zAk h
 ·exact zAm (F := (Fq.num b).P) hp fo gqi (zCo) (sqi 6) (fun v w h => zCr h)
 ·exact zAf (F := fun v _ => v = .bool true) hp fo gqi (sqi 7) (fun ρ w _ h => ⟨.bool false, by simp [execOp, go_sem, h], rfl⟩)
 ·exact zAg (F := fun v _ => v = .bool false) (G := fun v _ => v = .bool false) hp fo tv (sqi 4) (sqi 8) (fun ρ w hc h h' => ⟨_, by simp [execOp, go_sem, h, h'], rfl⟩)
 ·exact zAc hp fo tv (sqi 9)
 ·exact zAl (b := b1) (off := 0) (off' := 4) hp fo gqi (sqo 1) (fun ρ w h => by simp [execOp, go_sem, h]) (fun _ => rfl)
 ·exact lG 4 2 hp gqi (mq 0 rfl) zAb (sqi 11) fun v w h => zAk h
 ·exact zAm (F := (Fq.num c).P) hp fo gqi (zCo) (sqi 12) (fun v w h => zCr h)
 ·exact zAf (F := fun v _ => v = .bool true) hp fo gqi (sqi 13) (fun ρ w _ h => ⟨.bool false, by simp [execOp, go_sem, h], rfl⟩)
 ·exact zAg (F := fun v _ => v = .bool false) (G := fun v _ => v = .bool false) hp fo tv (sqi 10) (sqi 14) (fun ρ w hc h h' => ⟨_, by simp [execOp, go_sem, h, h'], rfl⟩)
 intro L vs w2 nb hL hC hn E2
 have e0 := wXi hC 0
 have e2 := wXi hC 2
 have e3 := wXi hC 3
 have e4 := wXi hC 4
 have e5 := wXi hC 5
 have e7 := wXi hC 7
 have e8 := wXi hC 8
 have e9 := wXi hC 9
 have e10 := wXi hC 10
 have e11 := wXi hC 11
 have e13 := wXi hC 13
 have e14 := wXi hC 14
 have e15 := wXi hC 15
 have E := E2; try simp only [LM, zAd] at E
 rw [zAe hL]
 simp only [SP, Nat.zero_add, Nat.reduceAdd]
 rw [e0, e2, e3, e4, e5, e7, e8, e9, e10, e11, e13, e14, e15]
 generalize vs 1 = u2_1
 generalize vs 6 = u2_6
 generalize vs 12 = u2_12
 clear e0 e2 e3 e4 e5 e7 e8 e9 e10 e11 e13 e14 e15 hC hn E2 hL vs L nb
 go_upto_region 3 with (fail)
 refine rg [Fq.st [.n a, .n b, .n c], Fq.num (b * b - 4 * (a * c)), Fq.any, Fq.any] [none] [⟨2, 3, 2, Fq.num 0, Fq.num (b * b - 4 * (a * c)), none⟩] E (fun hp => ⟨?_, ?_, ?_, ?_, tv⟩) ?_
 ·exact lS 0 6 hp (mq 0 rfl) zAn (sqo 1)
 ·exact wXa (Fq.st [.n a, .n b, .n c]) hp zDw (sqi 0) fun v w h => zDy h (Int.lt_of_lt_of_le ha.out (zAa (by omega))) (Int.lt_of_lt_of_le hb.out (zAa (by omega))) (Int.lt_of_lt_of_le hc.out (zAa (by omega)))
 ·exact aN hp (mq 0 rfl)
 ·exact sN 1 hp (mq 0 rfl)
 intro L vs w3 nb hL hC hn E3
 have e2 : vs 2 = .pointer (some ⟨nb 2, 0, none⟩) := hn _ (mq 0 rfl)
 have E := E3; try simp only [LM, zAd] at E
 rw [zAe hL]
 simp only [SP, Nat.zero_add, Nat.reduceAdd]
 rw [e2]
 generalize nb 2 = b3_2 at E ⊢
 generalize vs 0 = u3_0
 generalize vs 1 = u3_1
 clear e2 hC hn E3 hL vs L nb
 go_upto_region 4 with (fail)
 refine rg [Fq.num (b * b - 4 * (a * c)), yF] N2 [] E (fun hp => ⟨?_, ?_, tv⟩) ?_
 ·exact lI 0 hp (mq 0 rfl) (sqo 3) fun us w hl h => zAq hl h
 ·exact wXa (Fq.num (b * b - 4 * (a * c))) hp zGe (sqi 0) fun v w h => zGi h HDB.out HQ.out
 intro L vs w4 nb hL hC hn E4
 have e1 := wXi hC 1
 have E := E4; try simp only [LM, zAd] at E
 rw [zAe hL]
 simp only [SP, Nat.zero_add, Nat.reduceAdd]
 rw [e1]
 generalize vs 0 = u4_0
 clear e1 hC hn E4 hL vs L nb
 go_upto_region 6 with (fail)
 refine rg [Fq.num (b * b - 4 * (a * c)), Fq.is (.int .i64 (cmpI (b * b - 4 * (a * c)) 0)), yT, yT, ip b1 0, Fq.num a, Fq.is (.int .i64 (cmpI a 0)), yF, yF] N2 [] E (fun hp => ⟨?_, ?_, ?_, ?_, ?_, ?_, ?_, ?_, ?_, tv⟩) ?_
 ·exact lI 0 hp (mq 0 rfl) (sqo 3) fun us w hl h => zAq hl h
 ·exact wXa (Fq.num (b * b - 4 * (a * c))) hp zBv (sqi 0) fun v w h => zBw h
 ·exact zAf (F := fun v _ => v = .int .i64 (cmpI (b * b - 4 * (a * c)) 0)) hp fo tv (sqi 1) (fun ρ w hc h => ⟨.bool true, by simp [execOp, go_sem, h, hc, T1.out], rfl⟩)
 ·exact zAc hp fo tv (sqi 2)
 ·exact zAl (b := b1) (off := 0) (off' := 0) hp fo gqi (sqo 1) (fun ρ w h => by simp [execOp, go_sem, h]) (fun _ => rfl)
 ·exact lG 0 2 hp gqi (mq 1 rfl) zAb (sqi 4) fun v w h => zAk h
 ·exact zAm (F := (Fq.num a).P) hp fo gqi (zBv) (sqi 5) (fun v w h => zBw h)
 ·exact zAf (F := fun v _ => v = .int .i64 (cmpI a 0)) hp fo gqi (sqi 6) (fun ρ w hc h => ⟨.bool false, by simp [execOp, go_sem, h, hc, T2.out], rfl⟩)
 ·exact zAg (F := fun v _ => v = .bool true) (G := fun v _ => v = .bool false) hp fo tv (sqi 3) (sqi 7) (fun ρ w hc h h' => ⟨_, by simp [execOp, go_sem, h, h'], rfl⟩)
 intro L vs w5 nb hL hC hn E5
 have e1 := wXi hC 1
 have e2 := wXi hC 2
 have e3 := wXi hC 3
 have e4 := wXi hC 4
 have e6 := wXi hC 6
 have e7 := wXi hC 7
 have e8 := wXi hC 8
 have E := E5; try simp only [LM, zAd] at E
 rw [zAe hL]
 simp only [SP, Nat.zero_add, Nat.reduceAdd]
 rw [e1, e2, e3, e4, e6, e7, e8]
 generalize vs 0 = u5_0
 generalize vs 5 = u5_5
 clear e1 e2 e3 e4 e6 e7 e8 hC hn E5 hL vs L nb
 go_upto_region 8 with (fail)
 refine rg [Fq.is (.int .i64 0)] N2 [] E (fun hp => ⟨?_, tv⟩) ?_
 ·exact zAi hp fo tv (zAj (fun _ => rfl))
 intro L vs w6 nb hL hC hn E6
 have e0 := wXi hC 0
 have E := E6; try simp only [LM, zAd] at E
 rw [zAe hL]
 simp only [SP, Nat.zero_add, Nat.reduceAdd]
 rw [e0]
 clear e0 hC hn E6 hL vs L nb
 clear HQ T1 T2
 clear ha hb hc HDB
 go_wp2
 refine bodyPost_ret (v := .int .i64 0) ?_ rfl ⟨_, rfl, E.below, rfl⟩
 simp [results, Try.results60, go_sem]

set_option maxRecDepth 100000 in
set_option maxHeartbeats 4000000 in
theorem zMs {w : World} {v : Value} {a b c : Int} (h : (Fq.st [.n a, .n b, .n c]).P v w) (ha : ab a < pw 15) (hb : ab b < pw 15) (hc : ab c < pw 15) (hq : sqB (b * b - 4 * (a * c)) = false) (hd : ¬ (b * b - 4 * (a * c)) < 0) :
  Calls Try.prog 60 #[v] w fun e w' => ∃ v', e = .returned v' ∧ Below w.heap.size w w' ∧ v' = .int .i64 0 := by
 replace ha := hidd ha
 replace hb := hidd hb
 replace hc := hidd hc
 have HQ := hidd hq
 clear hq
 have HDB := hidd (zBz ha.out hb.out hc.out)
 have T1 : Hid (¬ cmpI (b * b - 4 * (a * c)) 0 < 0) := fun e => hd (cmpIqlt.1 e)
 clear hd
 obtain ⟨_, rfl, hf0⟩ := h
 have hF0 := hf0
 obtain ⟨y0_p0, y0_q0, _, rfl, _y0_n0, y0_p1, y0_q1, _, rfl, _y0_n1, y0_p2, y0_q2, _, rfl, _y0_n2, rfl⟩ := hf0
 obtain ⟨w1, b1, hw1, hb1, hs1, E⟩ := gS w 33 hF0
 go_enter Try.func60, Try.ntmps60
 go_upto_region 1 with (fail)
 rw [← hw1]
 rw [← hb1]
 clear hw1 hb1 hs1
 refine rg [ip b1 0, Fq.num a, yT, yF, yF, ip b1 2, Fq.num b, yT, yF, yF, yF, ip b1 4, Fq.num c, yT, yF, yF] [none] [] E (fun hp => ⟨?_, ?_, ?_, ?_, ?_, ?_, ?_, ?_, ?_, ?_, ?_, ?_, ?_, ?_, ?_, ?_, tv⟩) ?_
 ·exact qa b1 0 0 hp (sqo 1)
 ·exact lN 0 2 hp (mq 0 rfl) zAb (sqi 0)
 ·exact wXa (Fq.num a) hp zCo (sqi 1) fun v w h => zCr h
 ·exact zAf (F := fun v _ => v = .bool true) hp fo tv (sqi 2) (fun ρ w _ h => ⟨.bool false, by simp [execOp, go_sem, h], rfl⟩)
 ·exact zAc hp fo tv (sqi 3)
 ·exact zAl (b := b1) (off := 0) (off' := 2) hp fo gqi (sqo 1) (fun ρ w h => by simp [execOp, go_sem, h]) (fun _ => rfl)
 ·exact lG 2 2 hp gqi (mq 0 rfl) zAb (sqi 5) fun v w h => zAk h
 ·exact zAm (F := (Fq.num b).P) hp fo gqi (zCo) (sqi 6) (fun v w h => zCr h)
 ·exact zAf (F := fun v _ => v = .bool true) hp fo gqi (sqi 7) (fun ρ w _ h => ⟨.bool false, by simp [execOp, go_sem, h], rfl⟩)
 ·exact zAg (F := fun v _ => v = .bool false) (G := fun v _ => v = .bool false) hp fo tv (sqi 4) (sqi 8) (fun ρ w hc h h' => ⟨_, by simp [execOp, go_sem, h, h'], rfl⟩)
 ·exact zAc hp fo tv (sqi 9)
 ·exact zAl (b := b1) (off := 0) (off' := 4) hp fo gqi (sqo 1) (fun ρ w h => by simp [execOp, go_sem, h]) (fun _ => rfl)
 ·exact lG 4 2 hp gqi (mq 0 rfl) zAb (sqi 11) fun v w h => zAk h
 ·exact zAm (F := (Fq.num c).P) hp fo gqi (zCo) (sqi 12) (fun v w h => zCr h)
 ·exact zAf (F := fun v _ => v = .bool true) hp fo gqi (sqi 13) (fun ρ w _ h => ⟨.bool false, by simp [execOp, go_sem, h], rfl⟩)
 ·exact zAg (F := fun v _ => v = .bool false) (G := fun v _ => v = .bool false) hp fo tv (sqi 10) (sqi 14) (fun ρ w hc h h' => ⟨_, by simp [execOp, go_sem, h, h'], rfl⟩)
 intro L vs w2 nb hL hC hn E2
 have e0 := wXi hC 0
 have e2 := wXi hC 2
 have e3 := wXi hC 3
 have e4 := wXi hC 4
 have e5 := wXi hC 5
 have e7 := wXi hC 7
 have e8 := wXi hC 8
 have e9 := wXi hC 9
 have e10 := wXi hC 10
 have e11 := wXi hC 11
 have e13 := wXi hC 13
 have e14 := wXi hC 14
 have e15 := wXi hC 15
 have E := E2; try simp only [LM, zAd] at E
 rw [zAe hL]
 simp only [SP, Nat.zero_add, Nat.reduceAdd]
 rw [e0, e2, e3, e4, e5, e7, e8, e9, e10, e11, e13, e14, e15]
 generalize vs 1 = u2_1
 generalize vs 6 = u2_6
 generalize vs 12 = u2_12
 clear e0 e2 e3 e4 e5 e7 e8 e9 e10 e11 e13 e14 e15 hC hn E2 hL vs L nb
 go_upto_region 3 with (fail)
 refine rg [Fq.st [.n a, .n b, .n c], Fq.num (b * b - 4 * (a * c)), Fq.any, Fq.any] [none] [⟨2, 3, 2, Fq.num 0, Fq.num (b * b - 4 * (a * c)), none⟩] E (fun hp => ⟨?_, ?_, ?_, ?_, tv⟩) ?_
 ·exact lS 0 6 hp (mq 0 rfl) zAn (sqo 1)
 ·exact wXa (Fq.st [.n a, .n b, .n c]) hp zDw (sqi 0) fun v w h => zDy h (Int.lt_of_lt_of_le ha.out (zAa (by omega))) (Int.lt_of_lt_of_le hb.out (zAa (by omega))) (Int.lt_of_lt_of_le hc.out (zAa (by omega)))
 ·exact aN hp (mq 0 rfl)
 ·exact sN 1 hp (mq 0 rfl)
 intro L vs w3 nb hL hC hn E3
 have e2 : vs 2 = .pointer (some ⟨nb 2, 0, none⟩) := hn _ (mq 0 rfl)
 have E := E3; try simp only [LM, zAd] at E
 rw [zAe hL]
 simp only [SP, Nat.zero_add, Nat.reduceAdd]
 rw [e2]
 generalize nb 2 = b3_2 at E ⊢
 generalize vs 0 = u3_0
 generalize vs 1 = u3_1
 clear e2 hC hn E3 hL vs L nb
 go_upto_region 4 with (fail)
 refine rg [Fq.num (b * b - 4 * (a * c)), yF] N2 [] E (fun hp => ⟨?_, ?_, tv⟩) ?_
 ·exact lI 0 hp (mq 0 rfl) (sqo 3) fun us w hl h => zAq hl h
 ·exact wXa (Fq.num (b * b - 4 * (a * c))) hp zGe (sqi 0) fun v w h => zGi h HDB.out HQ.out
 intro L vs w4 nb hL hC hn E4
 have e1 := wXi hC 1
 have E := E4; try simp only [LM, zAd] at E
 rw [zAe hL]
 simp only [SP, Nat.zero_add, Nat.reduceAdd]
 rw [e1]
 generalize vs 0 = u4_0
 clear e1 hC hn E4 hL vs L nb
 go_upto_region 6 with (fail)
 refine rg [Fq.num (b * b - 4 * (a * c)), Fq.is (.int .i64 (cmpI (b * b - 4 * (a * c)) 0)), yF, yF, Fq.is (undef), Fq.is (undef), Fq.is (undef), Fq.is (undef), yF] N2 [] E (fun hp => ⟨?_, ?_, ?_, ?_, ?_, ?_, ?_, ?_, ?_, tv⟩) ?_
 ·exact lI 0 hp (mq 0 rfl) (sqo 3) fun us w hl h => zAq hl h
 ·exact wXa (Fq.num (b * b - 4 * (a * c))) hp zBv (sqi 0) fun v w h => zBw h
 ·exact zAf (F := fun v _ => v = .int .i64 (cmpI (b * b - 4 * (a * c)) 0)) hp fo tv (sqi 1) (fun ρ w hc h => ⟨.bool false, by simp [execOp, go_sem, h, hc, T1.out], rfl⟩)
 ·exact zAc hp fo tv (sqi 2)
 ·exact zAh hp fo rfl gqi (fun _ => rfl)
 ·exact zAh hp fo rfl gqi (fun _ => rfl)
 ·exact zAh hp fo rfl gqi (fun _ => rfl)
 ·exact zAh hp fo rfl gqi (fun _ => rfl)
 ·exact zAg (F := fun v _ => v = .bool false) (G := fun v _ => v = .bool false) hp fo tv (sqi 3) (zAj (fun _ => rfl)) (fun ρ w hc h h' => ⟨_, by simp [execOp, go_sem, h, h'], rfl⟩)
 intro L vs w5 nb hL hC hn E5
 have e1 := wXi hC 1
 have e2 := wXi hC 2
 have e3 := wXi hC 3
 have e4 := wXi hC 4
 have e5 := wXi hC 5
 have e6 := wXi hC 6
 have e7 := wXi hC 7
 have e8 := wXi hC 8
 have E := E5; try simp only [LM, zAd] at E
 rw [zAe hL]
 simp only [SP, Nat.zero_add, Nat.reduceAdd]
 rw [e1, e2, e3, e4, e5, e6, e7, e8]
 generalize vs 0 = u5_0
 clear e1 e2 e3 e4 e5 e6 e7 e8 hC hn E5 hL vs L nb
 go_upto_region 8 with (fail)
 refine rg [Fq.is (.int .i64 0)] N2 [] E (fun hp => ⟨?_, tv⟩) ?_
 ·exact zAi hp fo tv (zAj (fun _ => rfl))
 intro L vs w6 nb hL hC hn E6
 have e0 := wXi hC 0
 have E := E6; try simp only [LM, zAd] at E
 rw [zAe hL]
 simp only [SP, Nat.zero_add, Nat.reduceAdd]
 rw [e0]
 clear e0 hC hn E6 hL vs L nb
 clear HQ T1
 clear ha hb hc HDB
 go_wp2
 refine bodyPost_ret (v := .int .i64 0) ?_ rfl ⟨_, rfl, E.below, rfl⟩
 simp [results, Try.results60, go_sem]

theorem zEa {w : World} {v : Value} {a b c : Int} (h : (Fq.st [.n a, .n b, .n c]).P v w) (ha : ab a < pw 15) (hb : ab b < pw 15) (hc : ab c < pw 15) {e0 : Int} (he : chkF a b c = e0) :
  Calls Try.prog 60 #[v] w fun e w' => ∃ v', e = .returned v' ∧ Below w.heap.size w w' ∧ v' = .int .i64 e0 := by
 subst he
 unfold chkF
 cases hq : sqB (b * b - 4 * (a * c)) with
 | true => rw [if_pos rfl]; exact zMu h ha hb hc hq
 | false =>
  rw [if_neg (by decide)]
  by_cases hd : (b * b - 4 * (a * c)) < 0
  ·by_cases hz : a < 0
   ·rw [if_pos ⟨hd, hz⟩]; exact zMt h ha hb hc hq hd hz
   ·rw [if_neg fun x => hz x.2]; exact zMr h ha hb hc hq hd hz
  ·rw [if_neg fun x => hd x.1]; exact zMs h ha hb hc hq hd

set_option maxRecDepth 100000 in
set_option maxHeartbeats 4000000 in
theorem zMy {w : World} {v : Value} {a b c : Int} (h : (Fq.st [.n a, .n b, .n c]).P v w) (ha : ab a < pw 15) (hb : ab b < pw 15) (hc : ab c < pw 15) (hd : (b * b - 4 * (a * c)) < 0) (hz : ¬ a < 0) {t : Bool} (ht : dfB a b c = t) :
  Calls Try.prog 64 #[v] w fun e w' => ∃ v', e = .returned v' ∧ Below w.heap.size w w' ∧ v' = .bool t := by
 replace ha := hidd ha
 replace hb := hidd hb
 replace hc := hidd hc
 have HC := hidd (zF6 hd hz)
 have HDB := hidd (zBz ha.out hb.out hc.out)
 have ht2 : t = true := ht.symm.trans (by unfold dfB; exact decide_eq_true (by omega))
 subst ht2
 clear ht
 have T1 : Hid (cmpI (b * b - 4 * (a * c)) 0 < 0) := cmpIqlt.2 hd
 clear hd hz
 obtain ⟨_, rfl, hf0⟩ := h
 have hF0 := hf0
 obtain ⟨y0_p0, y0_q0, _, rfl, _y0_n0, y0_p1, y0_q1, _, rfl, _y0_n1, y0_p2, y0_q2, _, rfl, _y0_n2, rfl⟩ := hf0
 obtain ⟨w1, b1, hw1, hb1, hs1, E⟩ := gS w 33 hF0
 go_enter Try.func64, Try.ntmps64
 go_upto_region 1 with (fail)
 rw [← hw1]
 rw [← hb1]
 clear hw1 hb1 hs1
 refine rg [Fq.st [.n a, .n b, .n c], Fq.is (.int .i64 0), yT, yT, Fq.st [.n a, .n b, .n c], Fq.num (b * b - 4 * (a * c)), Fq.is (.int .i64 (cmpI (b * b - 4 * (a * c)) 0)), yT, yT, yT] [none] [] E (fun hp => ⟨?_, ?_, ?_, ?_, ?_, ?_, ?_, ?_, ?_, ?_, tv⟩) ?_
 ·exact lS 0 6 hp (mq 0 rfl) zAn (sqo 1)
 ·exact wXa (Fq.st [.n a, .n b, .n c]) hp zD7 (sqi 0) fun v w h => zEa h ha.out hb.out hc.out HC.out
 ·exact zAf (F := fun v _ => v = .int .i64 0) hp fo tv (sqi 1) (fun ρ w hc h => ⟨.bool true, by simp [execOp, go_sem, h, hc], rfl⟩)
 ·exact zAc hp fo tv (sqi 2)
 ·exact lG 0 6 hp gqi (mq 0 rfl) zAn (sqo 1) fun v w h => h
 ·exact zAm (F := (Fq.st [.n a, .n b, .n c]).P) hp fo gqi (zDw) (sqi 4) (fun v w h => zDy h (Int.lt_of_lt_of_le ha.out (zAa (by omega))) (Int.lt_of_lt_of_le hb.out (zAa (by omega))) (Int.lt_of_lt_of_le hc.out (zAa (by omega))))
 ·exact zAm (F := (Fq.num (b * b - 4 * (a * c))).P) hp fo gqi (zBv) (sqi 5) (fun v w h => zBw h)
 ·exact zAf (F := fun v _ => v = .int .i64 (cmpI (b * b - 4 * (a * c)) 0)) hp fo gqi (sqi 6) (fun ρ w hc h => ⟨.bool true, by simp [execOp, go_sem, h, hc, T1.out], rfl⟩)
 ·exact zAg (F := fun v _ => v = .bool true) (G := fun v _ => v = .bool true) hp fo tv (sqi 3) (sqi 7) (fun ρ w hc h h' => ⟨_, by simp [execOp, go_sem, h, h'], rfl⟩)
 ·exact zAi hp fo tv (sqi 8)
 intro L vs w2 nb hL hC hn E2
 have e1 := wXi hC 1
 have e2 := wXi hC 2
 have e3 := wXi hC 3
 have e6 := wXi hC 6
 have e7 := wXi hC 7
 have e8 := wXi hC 8
 have e9 := wXi hC 9
 have E := E2; try simp only [LM, zAd] at E
 rw [zAe hL]
 simp only [SP, Nat.zero_add, Nat.reduceAdd]
 rw [e1, e2, e3, e6, e7, e8, e9]
 generalize vs 0 = u2_0
 generalize vs 4 = u2_4
 generalize vs 5 = u2_5
 clear e1 e2 e3 e6 e7 e8 e9 hC hn E2 hL vs L nb
 clear HC T1
 clear ha hb hc HDB
 go_wp2
 refine bodyPost_ret (v := .bool true) ?_ rfl ⟨_, rfl, E.below, rfl⟩
 simp [results, Try.results64, go_sem]

set_option maxRecDepth 100000 in
set_option maxHeartbeats 4000000 in
theorem zMw {w : World} {v : Value} {a b c : Int} (h : (Fq.st [.n a, .n b, .n c]).P v w) (ha : ab a < pw 15) (hb : ab b < pw 15) (hc : ab c < pw 15) (hd : (b * b - 4 * (a * c)) < 0) (hz : a < 0) {t : Bool} (ht : dfB a b c = t) :
  Calls Try.prog 64 #[v] w fun e w' => ∃ v', e = .returned v' ∧ Below w.heap.size w w' ∧ v' = .bool t := by
 replace ha := hidd ha
 replace hb := hidd hb
 replace hc := hidd hc
 have HC := hidd (zI5 hd hz)
 have HDB := hidd (zBz ha.out hb.out hc.out)
 have ht2 : t = false := ht.symm.trans (by unfold dfB; exact decide_eq_false (by omega))
 subst ht2
 clear ht
 clear hd hz
 obtain ⟨_, rfl, hf0⟩ := h
 have hF0 := hf0
 obtain ⟨y0_p0, y0_q0, _, rfl, _y0_n0, y0_p1, y0_q1, _, rfl, _y0_n1, y0_p2, y0_q2, _, rfl, _y0_n2, rfl⟩ := hf0
 obtain ⟨w1, b1, hw1, hb1, hs1, E⟩ := gS w 33 hF0
 go_enter Try.func64, Try.ntmps64
 go_upto_region 1 with (fail)
 rw [← hw1]
 rw [← hb1]
 clear hw1 hb1 hs1
 refine rg [Fq.st [.n a, .n b, .n c], Fq.is (.int .i64 1), yF, yF, Fq.is (undef), Fq.is (undef), Fq.is (undef), Fq.is (undef), yF, yF] [none] [] E (fun hp => ⟨?_, ?_, ?_, ?_, ?_, ?_, ?_, ?_, ?_, ?_, tv⟩) ?_
 ·exact lS 0 6 hp (mq 0 rfl) zAn (sqo 1)
 ·exact wXa (Fq.st [.n a, .n b, .n c]) hp zD7 (sqi 0) fun v w h => zEa h ha.out hb.out hc.out HC.out
 ·exact zAf (F := fun v _ => v = .int .i64 1) hp fo tv (sqi 1) (fun ρ w hc h => ⟨.bool false, by simp [execOp, go_sem, h, hc], rfl⟩)
 ·exact zAc hp fo tv (sqi 2)
 ·exact zAh hp fo rfl gqi (fun _ => rfl)
 ·exact zAh hp fo rfl gqi (fun _ => rfl)
 ·exact zAh hp fo rfl gqi (fun _ => rfl)
 ·exact zAh hp fo rfl gqi (fun _ => rfl)
 ·exact zAg (F := fun v _ => v = .bool false) (G := fun v _ => v = .bool false) hp fo tv (sqi 3) (zAj (fun _ => rfl)) (fun ρ w hc h h' => ⟨_, by simp [execOp, go_sem, h, h'], rfl⟩)
 ·exact zAi hp fo tv (sqi 8)
 intro L vs w2 nb hL hC hn E2
 have e1 := wXi hC 1
 have e2 := wXi hC 2
 have e3 := wXi hC 3
 have e4 := wXi hC 4
 have e5 := wXi hC 5
 have e6 := wXi hC 6
 have e7 := wXi hC 7
 have e8 := wXi hC 8
 have e9 := wXi hC 9
 have E := E2; try simp only [LM, zAd] at E
 rw [zAe hL]
 simp only [SP, Nat.zero_add, Nat.reduceAdd]
 rw [e1, e2, e3, e4, e5, e6, e7, e8, e9]
 generalize vs 0 = u2_0
 clear e1 e2 e3 e4 e5 e6 e7 e8 e9 hC hn E2 hL vs L nb
 clear HC
 clear ha hb hc HDB
 go_wp2
 refine bodyPost_ret (v := .bool false) ?_ rfl ⟨_, rfl, E.below, rfl⟩
 simp [results, Try.results64, go_sem]

set_option maxRecDepth 100000 in
set_option maxHeartbeats 4000000 in
theorem zMx {w : World} {v : Value} {a b c : Int} (h : (Fq.st [.n a, .n b, .n c]).P v w) (ha : ab a < pw 15) (hb : ab b < pw 15) (hc : ab c < pw 15) (hd : ¬ (b * b - 4 * (a * c)) < 0) (hz : sqB (b * b - 4 * (a * c)) = true) {t : Bool} (ht : dfB a b c = t) :
  Calls Try.prog 64 #[v] w fun e w' => ∃ v', e = .returned v' ∧ Below w.heap.size w w' ∧ v' = .bool t := by
 replace ha := hidd ha
 replace hb := hidd hb
 replace hc := hidd hc
 have HC := hidd ((zHd hd).trans (if_pos hz))
 have HDB := hidd (zBz ha.out hb.out hc.out)
 have ht2 : t = false := ht.symm.trans (by unfold dfB; exact decide_eq_false (by omega))
 subst ht2
 clear ht
 clear hd hz
 obtain ⟨_, rfl, hf0⟩ := h
 have hF0 := hf0
 obtain ⟨y0_p0, y0_q0, _, rfl, _y0_n0, y0_p1, y0_q1, _, rfl, _y0_n1, y0_p2, y0_q2, _, rfl, _y0_n2, rfl⟩ := hf0
 obtain ⟨w1, b1, hw1, hb1, hs1, E⟩ := gS w 33 hF0
 go_enter Try.func64, Try.ntmps64
 go_upto_region 1 with (fail)
 rw [← hw1]
 rw [← hb1]
 clear hw1 hb1 hs1
 refine rg [Fq.st [.n a, .n b, .n c], Fq.is (.int .i64 5), yF, yF, Fq.is (undef), Fq.is (undef), Fq.is (undef), Fq.is (undef), yF, yF] [none] [] E (fun hp => ⟨?_, ?_, ?_, ?_, ?_, ?_, ?_, ?_, ?_, ?_, tv⟩) ?_
 ·exact lS 0 6 hp (mq 0 rfl) zAn (sqo 1)
 ·exact wXa (Fq.st [.n a, .n b, .n c]) hp zD7 (sqi 0) fun v w h => zEa h ha.out hb.out hc.out HC.out
 ·exact zAf (F := fun v _ => v = .int .i64 5) hp fo tv (sqi 1) (fun ρ w hc h => ⟨.bool false, by simp [execOp, go_sem, h, hc], rfl⟩)
 ·exact zAc hp fo tv (sqi 2)
 ·exact zAh hp fo rfl gqi (fun _ => rfl)
 ·exact zAh hp fo rfl gqi (fun _ => rfl)
 ·exact zAh hp fo rfl gqi (fun _ => rfl)
 ·exact zAh hp fo rfl gqi (fun _ => rfl)
 ·exact zAg (F := fun v _ => v = .bool false) (G := fun v _ => v = .bool false) hp fo tv (sqi 3) (zAj (fun _ => rfl)) (fun ρ w hc h h' => ⟨_, by simp [execOp, go_sem, h, h'], rfl⟩)
 ·exact zAi hp fo tv (sqi 8)
 intro L vs w2 nb hL hC hn E2
 have e1 := wXi hC 1
 have e2 := wXi hC 2
 have e3 := wXi hC 3
 have e4 := wXi hC 4
 have e5 := wXi hC 5
 have e6 := wXi hC 6
 have e7 := wXi hC 7
 have e8 := wXi hC 8
 have e9 := wXi hC 9
 have E := E2; try simp only [LM, zAd] at E
 rw [zAe hL]
 simp only [SP, Nat.zero_add, Nat.reduceAdd]
 rw [e1, e2, e3, e4, e5, e6, e7, e8, e9]
 generalize vs 0 = u2_0
 clear e1 e2 e3 e4 e5 e6 e7 e8 e9 hC hn E2 hL vs L nb
 clear HC
 clear ha hb hc HDB
 go_wp2
 refine bodyPost_ret (v := .bool false) ?_ rfl ⟨_, rfl, E.below, rfl⟩
 simp [results, Try.results64, go_sem]

set_option maxRecDepth 100000 in
set_option maxHeartbeats 4000000 in
theorem zMv {w : World} {v : Value} {a b c : Int} (h : (Fq.st [.n a, .n b, .n c]).P v w) (ha : ab a < pw 15) (hb : ab b < pw 15) (hc : ab c < pw 15) (hd : ¬ (b * b - 4 * (a * c)) < 0) (hz : ¬ sqB (b * b - 4 * (a * c)) = true) {t : Bool} (ht : dfB a b c = t) :
  Calls Try.prog 64 #[v] w fun e w' => ∃ v', e = .returned v' ∧ Below w.heap.size w w' ∧ v' = .bool t := by
 replace ha := hidd ha
 replace hb := hidd hb
 replace hc := hidd hc
 have HC := hidd ((zHd hd).trans (if_neg hz))
 have HDB := hidd (zBz ha.out hb.out hc.out)
 have ht2 : t = false := ht.symm.trans (by unfold dfB; exact decide_eq_false (by omega))
 subst ht2
 clear ht
 have T1 : Hid (¬ cmpI (b * b - 4 * (a * c)) 0 < 0) := fun e => hd (cmpIqlt.1 e)
 clear hd hz
 obtain ⟨_, rfl, hf0⟩ := h
 have hF0 := hf0
 obtain ⟨y0_p0, y0_q0, _, rfl, _y0_n0, y0_p1, y0_q1, _, rfl, _y0_n1, y0_p2, y0_q2, _, rfl, _y0_n2, rfl⟩ := hf0
 obtain ⟨w1, b1, hw1, hb1, hs1, E⟩ := gS w 33 hF0
 go_enter Try.func64, Try.ntmps64
 go_upto_region 1 with (fail)
 rw [← hw1]
 rw [← hb1]
 clear hw1 hb1 hs1
 refine rg [Fq.st [.n a, .n b, .n c], Fq.is (.int .i64 0), yT, yT, Fq.st [.n a, .n b, .n c], Fq.num (b * b - 4 * (a * c)), Fq.is (.int .i64 (cmpI (b * b - 4 * (a * c)) 0)), yF, yF, yF] [none] [] E (fun hp => ⟨?_, ?_, ?_, ?_, ?_, ?_, ?_, ?_, ?_, ?_, tv⟩) ?_
 ·exact lS 0 6 hp (mq 0 rfl) zAn (sqo 1)
 ·exact wXa (Fq.st [.n a, .n b, .n c]) hp zD7 (sqi 0) fun v w h => zEa h ha.out hb.out hc.out HC.out
 ·exact zAf (F := fun v _ => v = .int .i64 0) hp fo tv (sqi 1) (fun ρ w hc h => ⟨.bool true, by simp [execOp, go_sem, h, hc], rfl⟩)
 ·exact zAc hp fo tv (sqi 2)
 ·exact lG 0 6 hp gqi (mq 0 rfl) zAn (sqo 1) fun v w h => h
 ·exact zAm (F := (Fq.st [.n a, .n b, .n c]).P) hp fo gqi (zDw) (sqi 4) (fun v w h => zDy h (Int.lt_of_lt_of_le ha.out (zAa (by omega))) (Int.lt_of_lt_of_le hb.out (zAa (by omega))) (Int.lt_of_lt_of_le hc.out (zAa (by omega))))
 ·exact zAm (F := (Fq.num (b * b - 4 * (a * c))).P) hp fo gqi (zBv) (sqi 5) (fun v w h => zBw h)
 ·exact zAf (F := fun v _ => v = .int .i64 (cmpI (b * b - 4 * (a * c)) 0)) hp fo gqi (sqi 6) (fun ρ w hc h => ⟨.bool false, by simp [execOp, go_sem, h, hc, T1.out], rfl⟩)
 ·exact zAg (F := fun v _ => v = .bool true) (G := fun v _ => v = .bool false) hp fo tv (sqi 3) (sqi 7) (fun ρ w hc h h' => ⟨_, by simp [execOp, go_sem, h, h'], rfl⟩)
 ·exact zAi hp fo tv (sqi 8)
 intro L vs w2 nb hL hC hn E2
 have e1 := wXi hC 1
 have e2 := wXi hC 2
 have e3 := wXi hC 3
 have e6 := wXi hC 6
 have e7 := wXi hC 7
 have e8 := wXi hC 8
 have e9 := wXi hC 9
 have E := E2; try simp only [LM, zAd] at E
 rw [zAe hL]
 simp only [SP, Nat.zero_add, Nat.reduceAdd]
 rw [e1, e2, e3, e6, e7, e8, e9]
 generalize vs 0 = u2_0
 generalize vs 4 = u2_4
 generalize vs 5 = u2_5
 clear e1 e2 e3 e6 e7 e8 e9 hC hn E2 hL vs L nb
 clear HC T1
 clear ha hb hc HDB
 go_wp2
 refine bodyPost_ret (v := .bool false) ?_ rfl ⟨_, rfl, E.below, rfl⟩
 simp [results, Try.results64, go_sem]

theorem zC3 {w : World} {v : Value} {a b c : Int} (h : (Fq.st [.n a, .n b, .n c]).P v w) (ha : ab a < pw 15) (hb : ab b < pw 15) (hc : ab c < pw 15) {t : Bool} (ht : dfB a b c = t) :
  Calls Try.prog 64 #[v] w fun e w' => ∃ v', e = .returned v' ∧ Below w.heap.size w w' ∧ v' = .bool t := by
 by_cases hd : (b * b - 4 * (a * c)) < 0
 ·by_cases hz : a < 0
  ·exact zMw h ha hb hc hd hz ht
  ·exact zMy h ha hb hc hd hz ht
 ·by_cases hz : sqB (b * b - 4 * (a * c)) = true
  ·exact zMx h ha hb hc hd hz ht
  ·exact zMv h ha hb hc hd hz ht

set_option maxRecDepth 100000 in
set_option maxHeartbeats 4000000 in
theorem exQRed_no {w : World} {v : Value} {a b c : Int} (h : (Fq.st [.n a, .n b, .n c]).P v w) (ha : ab a < pw 15) (hb : ab b < pw 15) (hc : ab c < pw 15) (hdf : dfB a b c = false) {t : Bool} (ht : (dfB a b c && redB a b c) = t) :
  Calls Try.prog 25 #[v] w fun e w' => ∃ v', e = .returned v' ∧ Below w.heap.size w w' ∧ v' = .bool t := by
 replace ha := hidd ha
 replace hb := hidd hb
 replace hc := hidd hc
 have ht2 : t = false := ht.symm.trans (by rw [hdf]; rfl)
 subst ht2
 clear ht
 have HD := hidd hdf
 clear hdf
 obtain ⟨_, rfl, hf0⟩ := h
 have hF0 := hf0
 obtain ⟨y0_p0, y0_q0, _, rfl, _y0_n0, y0_p1, y0_q1, _, rfl, _y0_n1, y0_p2, y0_q2, _, rfl, _y0_n2, rfl⟩ := hf0
 obtain ⟨w1, b1, hw1, hb1, hs1, E⟩ := gS w 33 hF0
 go_enter Try.func25, Try.ntmps25
 go_upto_region 1 with (fail)
 rw [← hw1]
 rw [← hb1]
 clear hw1 hb1 hs1
 refine rg [Fq.st [.n a, .n b, .n c], yF, yT, yT, Fq.is (undef), Fq.is (undef), Fq.is (undef), Fq.is (undef), Fq.is (undef), Fq.is (undef), Fq.is (undef), yT, yT, Fq.is (undef), Fq.is (undef), Fq.is (undef), Fq.is (undef), Fq.is (undef), Fq.is (undef), yT] [none] [] E (fun hp => ⟨?_, ?_, ?_, ?_, ?_, ?_, ?_, ?_, ?_, ?_, ?_, ?_, ?_, ?_, ?_, ?_, ?_, ?_, ?_, ?_, tv⟩) ?_
 ·exact lS 0 6 hp (mq 0 rfl) zAn (sqo 1)
 ·exact wXa (Fq.st [.n a, .n b, .n c]) hp zC2 (sqi 0) fun v w h => zC3 h ha.out hb.out hc.out HD.out
 ·exact zAf (F := fun v _ => v = .bool false) hp fo tv (sqi 1) (fun ρ w _ h => ⟨.bool true, by simp [execOp, go_sem, h], rfl⟩)
 ·exact zAc hp fo tv (sqi 2)
 ·exact zAh hp fo rfl gqi (fun _ => rfl)
 ·exact zAh hp fo rfl gqi (fun _ => rfl)
 ·exact zAh hp fo rfl gqi (fun _ => rfl)
 ·exact zAh hp fo rfl gqi (fun _ => rfl)
 ·exact zAh hp fo rfl gqi (fun _ => rfl)
 ·exact zAh hp fo rfl gqi (fun _ => rfl)
 ·exact zAh hp fo rfl gqi (fun _ => rfl)
 ·exact zAg (F := fun v _ => v = .bool true) (G := fun v _ => v = .bool true) hp fo tv (sqi 3) (zAj (fun _ => rfl)) (fun ρ w hc h h' => ⟨_, by simp [execOp, go_sem, h, h'], rfl⟩)
 ·exact zAc hp fo tv (sqi 11)
 ·exact zAh hp fo rfl gqi (fun _ => rfl)
 ·exact zAh hp fo rfl gqi (fun _ => rfl)
 ·exact zAh hp fo rfl gqi (fun _ => rfl)
 ·exact zAh hp fo rfl gqi (fun _ => rfl)
 ·exact zAh hp fo rfl gqi (fun _ => rfl)
 ·exact zAh hp fo rfl gqi (fun _ => rfl)
 ·exact zAg (F := fun v _ => v = .bool true) (G := fun v _ => v = .bool true) hp fo tv (sqi 12) (zAj (fun _ => rfl)) (fun ρ w hc h h' => ⟨_, by simp [execOp, go_sem, h, h'], rfl⟩)
 intro L vs w2 nb hL hC hn E2
 have e1 := wXi hC 1
 have e2 := wXi hC 2
 have e3 := wXi hC 3
 have e4 := wXi hC 4
 have e5 := wXi hC 5
 have e6 := wXi hC 6
 have e7 := wXi hC 7
 have e8 := wXi hC 8
 have e9 := wXi hC 9
 have e10 := wXi hC 10
 have e11 := wXi hC 11
 have e12 := wXi hC 12
 have e13 := wXi hC 13
 have e14 := wXi hC 14
 have e15 := wXi hC 15
 have e16 := wXi hC 16
 have e17 := wXi hC 17
 have e18 := wXi hC 18
 have e19 := wXi hC 19
 have E := E2; try simp only [LM, zAd] at E
 rw [zAe hL]
 simp only [SP, Nat.zero_add, Nat.reduceAdd]
 rw [e1, e2, e3, e4, e5, e6, e7, e8, e9, e10, e11, e12, e13, e14, e15, e16, e17, e18, e19]
 generalize vs 0 = u2_0
 clear e1 e2 e3 e4 e5 e6 e7 e8 e9 e10 e11 e12 e13 e14 e15 e16 e17 e18 e19 hC hn E2 hL vs L nb
 go_upto_region 2 with (fail)
 refine rg [yF] [none] [] E (fun hp => ⟨?_, tv⟩) ?_
 ·exact zAi hp fo tv (zAj (fun _ => rfl))
 intro L vs w3 nb hL hC hn E3
 have e0 := wXi hC 0
 have E := E3; try simp only [LM, zAd] at E
 rw [zAe hL]
 simp only [SP, Nat.zero_add, Nat.reduceAdd]
 rw [e0]
 clear e0 hC hn E3 hL vs L nb
 clear HD
 clear ha hb hc
 go_wp2
 refine bodyPost_ret (v := .bool false) ?_ rfl ⟨_, rfl, E.below, rfl⟩
 simp [results, Try.results25, go_sem]

set_option maxRecDepth 100000 in
set_option maxHeartbeats 4000000 in
theorem exQRed_b {w : World} {v : Value} {a b c : Int} (h : (Fq.st [.n a, .n b, .n c]).P v w) (ha : ab a < pw 15) (hb : ab b < pw 15) (hc : ab c < pw 15) (hdf : dfB a b c = true) (hx : a < (Int.natAbs b : Int)) {t : Bool} (ht : (dfB a b c && redB a b c) = t) :
  Calls Try.prog 25 #[v] w fun e w' => ∃ v', e = .returned v' ∧ Below w.heap.size w w' ∧ v' = .bool t := by
 replace ha := hidd ha
 replace hb := hidd hb
 replace hc := hidd hc
 have ht2 : t = false := ht.symm.trans (by rw [hdf, Bool.true_and]; unfold redB; exact decide_eq_false (by omega))
 subst ht2
 clear ht
 have HD := hidd hdf
 clear hdf
 have T1 : Hid (0 < cmpI (Int.natAbs b : Int) a) := cmpIqgt.2 hx
 clear hx
 skip
 obtain ⟨_, rfl, hf0⟩ := h
 have hF0 := hf0
 obtain ⟨y0_p0, y0_q0, _, rfl, _y0_n0, y0_p1, y0_q1, _, rfl, _y0_n1, y0_p2, y0_q2, _, rfl, _y0_n2, rfl⟩ := hf0
 obtain ⟨w1, b1, hw1, hb1, hs1, E⟩ := gS w 33 hF0
 go_enter Try.func25, Try.ntmps25
 go_upto_region 1 with (fail)
 rw [← hw1]
 rw [← hb1]
 clear hw1 hb1 hs1
 have B2 : Hid (ab ((Int.natAbs b : Int)) < pw 15) := zBl hb.out
 refine rg [Fq.st [.n a, .n b, .n c], yT, yF, yF, ip b1 2, Fq.num b, Fq.num (Int.natAbs b : Int), ip b1 0, Fq.num a, Fq.is (.int .i64 (cmpI (Int.natAbs b : Int) a)), yT, yT, yT, Fq.is (undef), Fq.is (undef), Fq.is (undef), Fq.is (undef), Fq.is (undef), Fq.is (undef), yT] [none] [] E (fun hp => ⟨?_, ?_, ?_, ?_, ?_, ?_, ?_, ?_, ?_, ?_, ?_, ?_, ?_, ?_, ?_, ?_, ?_, ?_, ?_, ?_, tv⟩) ?_
 ·exact lS 0 6 hp (mq 0 rfl) zAn (sqo 1)
 ·exact wXa (Fq.st [.n a, .n b, .n c]) hp zC2 (sqi 0) fun v w h => zC3 h ha.out hb.out hc.out HD.out
 ·exact zAf (F := fun v _ => v = .bool true) hp fo tv (sqi 1) (fun ρ w _ h => ⟨.bool false, by simp [execOp, go_sem, h], rfl⟩)
 ·exact zAc hp fo tv (sqi 2)
 ·exact zAl (b := b1) (off := 0) (off' := 2) hp fo gqi (sqo 1) (fun ρ w h => by simp [execOp, go_sem, h]) (fun _ => rfl)
 ·exact lG 2 2 hp gqi (mq 0 rfl) zAb (sqi 4) fun v w h => zAk h
 ·exact zAm (F := (Fq.num b).P) hp fo gqi (zB0) (sqi 5) (fun v w h => exK (zBs h) B2.out (by omega))
 ·exact zAl (b := b1) (off := 0) (off' := 0) hp fo gqi (sqo 1) (fun ρ w h => by simp [execOp, go_sem, h]) (fun _ => rfl)
 ·exact lG 0 2 hp gqi (mq 0 rfl) zAb (sqi 7) fun v w h => zAk h
 ·exact zAv (F := (Fq.num (Int.natAbs b : Int)).P) (G := (Fq.num a).P) hp fo gqi (zA2) (sqi 6) (sqi 8) (fun v v' w h h' => zA3 h h')
 ·exact zAf (F := fun v _ => v = .int .i64 (cmpI (Int.natAbs b : Int) a)) hp fo gqi (sqi 9) (fun ρ w hc h => ⟨.bool true, by simp [execOp, go_sem, h, hc, T1.out], rfl⟩)
 ·exact zAg (F := fun v _ => v = .bool false) (G := fun v _ => v = .bool true) hp fo tv (sqi 3) (sqi 10) (fun ρ w hc h h' => ⟨_, by simp [execOp, go_sem, h, h'], rfl⟩)
 ·exact zAc hp fo tv (sqi 11)
 ·exact zAh hp fo rfl gqi (fun _ => rfl)
 ·exact zAh hp fo rfl gqi (fun _ => rfl)
 ·exact zAh hp fo rfl gqi (fun _ => rfl)
 ·exact zAh hp fo rfl gqi (fun _ => rfl)
 ·exact zAh hp fo rfl gqi (fun _ => rfl)
 ·exact zAh hp fo rfl gqi (fun _ => rfl)
 ·exact zAg (F := fun v _ => v = .bool true) (G := fun v _ => v = .bool true) hp fo tv (sqi 12) (zAj (fun _ => rfl)) (fun ρ w hc h h' => ⟨_, by simp [execOp, go_sem, h, h'], rfl⟩)
 intro L vs w3 nb hL hC hn E3
 have e1 := wXi hC 1
 have e2 := wXi hC 2
 have e3 := wXi hC 3
 have e4 := wXi hC 4
 have e7 := wXi hC 7
 have e9 := wXi hC 9
 have e10 := wXi hC 10
 have e11 := wXi hC 11
 have e12 := wXi hC 12
 have e13 := wXi hC 13
 have e14 := wXi hC 14
 have e15 := wXi hC 15
 have e16 := wXi hC 16
 have e17 := wXi hC 17
 have e18 := wXi hC 18
 have e19 := wXi hC 19
 have E := E3; try simp only [LM, zAd] at E
 rw [zAe hL]
 simp only [SP, Nat.zero_add, Nat.reduceAdd]
 rw [e1, e2, e3, e4, e7, e9, e10, e11, e12, e13, e14, e15, e16, e17, e18, e19]
 generalize vs 0 = u3_0
 generalize vs 5 = u3_5
 generalize vs 6 = u3_6
 generalize vs 8 = u3_8
 clear e1 e2 e3 e4 e7 e9 e10 e11 e12 e13 e14 e15 e16 e17 e18 e19 hC hn E3 hL vs L nb
 go_upto_region 2 with (fail)
 refine rg [yF] [none] [] E (fun hp => ⟨?_, tv⟩) ?_
 ·exact zAi hp fo tv (zAj (fun _ => rfl))
 intro L vs w4 nb hL hC hn E4
 have e0 := wXi hC 0
 have E := E4; try simp only [LM, zAd] at E
 rw [zAe hL]
 simp only [SP, Nat.zero_add, Nat.reduceAdd]
 rw [e0]
 clear e0 hC hn E4 hL vs L nb
 clear HD T1
 clear B2 ha hb hc
 go_wp2
 refine bodyPost_ret (v := .bool false) ?_ rfl ⟨_, rfl, E.below, rfl⟩
 simp [results, Try.results25, go_sem]

set_option maxRecDepth 100000 in
set_option maxHeartbeats 4000000 in
theorem exQRed_c {w : World} {v : Value} {a b c : Int} (h : (Fq.st [.n a, .n b, .n c]).P v w) (ha : ab a < pw 15) (hb : ab b < pw 15) (hc : ab c < pw 15) (hdf : dfB a b c = true) (hx : ¬ a < (Int.natAbs b : Int)) (hy : ¬ a ≤ c) {t : Bool} (ht : (dfB a b c && redB a b c) = t) :
  Calls Try.prog 25 #[v] w fun e w' => ∃ v', e = .returned v' ∧ Below w.heap.size w w' ∧ v' = .bool t := by
 replace ha := hidd ha
 replace hb := hidd hb
 replace hc := hidd hc
 have ht2 : t = false := ht.symm.trans (by rw [hdf, Bool.true_and]; unfold redB; exact decide_eq_false (by omega))
 subst ht2
 clear ht
 have HD := hidd hdf
 clear hdf
 have T1 : Hid (¬ 0 < cmpI (Int.natAbs b : Int) a) := fun e => by have := cmpIqgt.1 e; omega
 have T2 : Hid (0 < cmpI a c) := cmpIqgt.2 (by omega)
 clear hx hy
 obtain ⟨_, rfl, hf0⟩ := h
 have hF0 := hf0
 obtain ⟨y0_p0, y0_q0, _, rfl, _y0_n0, y0_p1, y0_q1, _, rfl, _y0_n1, y0_p2, y0_q2, _, rfl, _y0_n2, rfl⟩ := hf0
 obtain ⟨w1, b1, hw1, hb1, hs1, E⟩ := gS w 33 hF0
 go_enter Try.func25, Try.ntmps25
 go_upto_region 1 with (fail)
 rw [← hw1]
 rw [← hb1]
 clear hw1 hb1 hs1
 have B2 : Hid (ab ((Int.natAbs b : Int)) < pw 15) := zBl hb.out
 refine rg [Fq.st [.n a, .n b, .n c], yT, yF, yF, ip b1 2, Fq.num b, Fq.num (Int.natAbs b : Int), ip b1 0, Fq.num a, Fq.is (.int .i64 (cmpI (Int.natAbs b : Int) a)), yF, yF, yF, ip b1 0, Fq.num a, ip b1 4, Fq.num c, Fq.is (.int .i64 (cmpI a c)), yT, yT] [none] [] E (fun hp => ⟨?_, ?_, ?_, ?_, ?_, ?_, ?_, ?_, ?_, ?_, ?_, ?_, ?_, ?_, ?_, ?_, ?_, ?_, ?_, ?_, tv⟩) ?_
 ·exact lS 0 6 hp (mq 0 rfl) zAn (sqo 1)
 ·exact wXa (Fq.st [.n a, .n b, .n c]) hp zC2 (sqi 0) fun v w h => zC3 h ha.out hb.out hc.out HD.out
 ·exact zAf (F := fun v _ => v = .bool true) hp fo tv (sqi 1) (fun ρ w _ h => ⟨.bool false, by simp [execOp, go_sem, h], rfl⟩)
 ·exact zAc hp fo tv (sqi 2)
 ·exact zAl (b := b1) (off := 0) (off' := 2) hp fo gqi (sqo 1) (fun ρ w h => by simp [execOp, go_sem, h]) (fun _ => rfl)
 ·exact lG 2 2 hp gqi (mq 0 rfl) zAb (sqi 4) fun v w h => zAk h
 ·exact zAm (F := (Fq.num b).P) hp fo gqi (zB0) (sqi 5) (fun v w h => exK (zBs h) B2.out (by omega))
 ·exact zAl (b := b1) (off := 0) (off' := 0) hp fo gqi (sqo 1) (fun ρ w h => by simp [execOp, go_sem, h]) (fun _ => rfl)
 ·exact lG 0 2 hp gqi (mq 0 rfl) zAb (sqi 7) fun v w h => zAk h
 ·exact zAv (F := (Fq.num (Int.natAbs b : Int)).P) (G := (Fq.num a).P) hp fo gqi (zA2) (sqi 6) (sqi 8) (fun v v' w h h' => zA3 h h')
 ·exact zAf (F := fun v _ => v = .int .i64 (cmpI (Int.natAbs b : Int) a)) hp fo gqi (sqi 9) (fun ρ w hc h => ⟨.bool false, by simp [execOp, go_sem, h, hc, T1.out], rfl⟩)
 ·exact zAg (F := fun v _ => v = .bool false) (G := fun v _ => v = .bool false) hp fo tv (sqi 3) (sqi 10) (fun ρ w hc h h' => ⟨_, by simp [execOp, go_sem, h, h'], rfl⟩)
 ·exact zAc hp fo tv (sqi 11)
 ·exact zAl (b := b1) (off := 0) (off' := 0) hp fo gqi (sqo 1) (fun ρ w h => by simp [execOp, go_sem, h]) (fun _ => rfl)
 ·exact lG 0 2 hp gqi (mq 0 rfl) zAb (sqi 13) fun v w h => zAk h
 ·exact zAl (b := b1) (off := 0) (off' := 4) hp fo gqi (sqo 1) (fun ρ w h => by simp [execOp, go_sem, h]) (fun _ => rfl)
 ·exact lG 4 2 hp gqi (mq 0 rfl) zAb (sqi 15) fun v w h => zAk h
 ·exact zAv (F := (Fq.num a).P) (G := (Fq.num c).P) hp fo gqi (zA2) (sqi 14) (sqi 16) (fun v v' w h h' => zA3 h h')
 ·exact zAf (F := fun v _ => v = .int .i64 (cmpI a c)) hp fo gqi (sqi 17) (fun ρ w hc h => ⟨.bool true, by simp [execOp, go_sem, h, hc, T2.out], rfl⟩)
 ·exact zAg (F := fun v _ => v = .bool false) (G := fun v _ => v = .bool true) hp fo tv (sqi 12) (sqi 18) (fun ρ w hc h h' => ⟨_, by simp [execOp, go_sem, h, h'], rfl⟩)
 intro L vs w3 nb hL hC hn E3
 have e1 := wXi hC 1
 have e2 := wXi hC 2
 have e3 := wXi hC 3
 have e4 := wXi hC 4
 have e7 := wXi hC 7
 have e9 := wXi hC 9
 have e10 := wXi hC 10
 have e11 := wXi hC 11
 have e12 := wXi hC 12
 have e13 := wXi hC 13
 have e15 := wXi hC 15
 have e17 := wXi hC 17
 have e18 := wXi hC 18
 have e19 := wXi hC 19
 have E := E3; try simp only [LM, zAd] at E
 rw [zAe hL]
 simp only [SP, Nat.zero_add, Nat.reduceAdd]
 rw [e1, e2, e3, e4, e7, e9, e10, e11, e12, e13, e15, e17, e18, e19]
 generalize vs 0 = u3_0
 generalize vs 5 = u3_5
 generalize vs 6 = u3_6
 generalize vs 8 = u3_8
 generalize vs 14 = u3_14
 generalize vs 16 = u3_16
 clear e1 e2 e3 e4 e7 e9 e10 e11 e12 e13 e15 e17 e18 e19 hC hn E3 hL vs L nb
 go_upto_region 2 with (fail)
 refine rg [yF] [none] [] E (fun hp => ⟨?_, tv⟩) ?_
 ·exact zAi hp fo tv (zAj (fun _ => rfl))
 intro L vs w4 nb hL hC hn E4
 have e0 := wXi hC 0
 have E := E4; try simp only [LM, zAd] at E
 rw [zAe hL]
 simp only [SP, Nat.zero_add, Nat.reduceAdd]
 rw [e0]
 clear e0 hC hn E4 hL vs L nb
 clear HD T1 T2
 clear B2 ha hb hc
 go_wp2
 refine bodyPost_ret (v := .bool false) ?_ rfl ⟨_, rfl, E.below, rfl⟩
 simp [results, Try.results25, go_sem]

set_option maxRecDepth 100000 in
set_option maxHeartbeats 4000000 in
theorem zMz {w : World} {v : Value} {a b c : Int} (h : (Fq.st [.n a, .n b, .n c]).P v w) (ha : ab a < pw 15) (hb : ab b < pw 15) (hc : ab c < pw 15) (hdf : dfB a b c = true) (hx : ¬ a < (Int.natAbs b : Int)) (hy : a ≤ c) (k0 : ¬ (Int.natAbs b : Int) = a) (k1 : ¬ a = c) (k2 : ¬ 0 ≤ b) {t : Bool} (ht : (dfB a b c && redB a b c) = t) :
  Calls Try.prog 25 #[v] w fun e w' => ∃ v', e = .returned v' ∧ Below w.heap.size w w' ∧ v' = .bool t := by
 replace ha := hidd ha
 replace hb := hidd hb
 replace hc := hidd hc
 have ht2 : t = true := ht.symm.trans (by rw [hdf, Bool.true_and]; unfold redB; exact decide_eq_true (by omega))
 subst ht2
 clear ht
 have HD := hidd hdf
 clear hdf
 have T1 : Hid (¬ 0 < cmpI (Int.natAbs b : Int) a) := fun e => by have := cmpIqgt.1 e; omega
 have T2 : Hid (¬ 0 < cmpI a c) := fun e => by have := cmpIqgt.1 e; omega
 have T3 : Hid (¬ cmpI (Int.natAbs b : Int) a = 0) := fun e => k0 (cmpIq0.1 e)
 have T4 : Hid (¬ cmpI a c = 0) := fun e => k1 (cmpIq0.1 e)
 have T5 : Hid (¬ 0 ≤ cmpI b 0) := by have := cmpIqlt.2 (show b < 0 by omega); show ¬ _ ≤ _; omega
 clear k0 k1 k2
 clear hx hy
 obtain ⟨_, rfl, hf0⟩ := h
 have hF0 := hf0
 obtain ⟨y0_p0, y0_q0, _, rfl, _y0_n0, y0_p1, y0_q1, _, rfl, _y0_n1, y0_p2, y0_q2, _, rfl, _y0_n2, rfl⟩ := hf0
 obtain ⟨w1, b1, hw1, hb1, hs1, E⟩ := gS w 33 hF0
 go_enter Try.func25, Try.ntmps25
 go_upto_region 1 with (fail)
 rw [← hw1]
 rw [← hb1]
 clear hw1 hb1 hs1
 have B2 : Hid (ab ((Int.natAbs b : Int)) < pw 15) := zBl hb.out
 refine rg [Fq.st [.n a, .n b, .n c], yT, yF, yF, ip b1 2, Fq.num b, Fq.num (Int.natAbs b : Int), ip b1 0, Fq.num a, Fq.is (.int .i64 (cmpI (Int.natAbs b : Int) a)), yF, yF, yF, ip b1 0, Fq.num a, ip b1 4, Fq.num c, Fq.is (.int .i64 (cmpI a c)), yF, yF] [none] [] E (fun hp => ⟨?_, ?_, ?_, ?_, ?_, ?_, ?_, ?_, ?_, ?_, ?_, ?_, ?_, ?_, ?_, ?_, ?_, ?_, ?_, ?_, tv⟩) ?_
 ·exact lS 0 6 hp (mq 0 rfl) zAn (sqo 1)
 ·exact wXa (Fq.st [.n a, .n b, .n c]) hp zC2 (sqi 0) fun v w h => zC3 h ha.out hb.out hc.out HD.out
 ·exact zAf (F := fun v _ => v = .bool true) hp fo tv (sqi 1) (fun ρ w _ h => ⟨.bool false, by simp [execOp, go_sem, h], rfl⟩)
 ·exact zAc hp fo tv (sqi 2)
 ·exact zAl (b := b1) (off := 0) (off' := 2) hp fo gqi (sqo 1) (fun ρ w h => by simp [execOp, go_sem, h]) (fun _ => rfl)
 ·exact lG 2 2 hp gqi (mq 0 rfl) zAb (sqi 4) fun v w h => zAk h
 ·exact zAm (F := (Fq.num b).P) hp fo gqi (zB0) (sqi 5) (fun v w h => exK (zBs h) B2.out (by omega))
 ·exact zAl (b := b1) (off := 0) (off' := 0) hp fo gqi (sqo 1) (fun ρ w h => by simp [execOp, go_sem, h]) (fun _ => rfl)
 ·exact lG 0 2 hp gqi (mq 0 rfl) zAb (sqi 7) fun v w h => zAk h
 ·exact zAv (F := (Fq.num (Int.natAbs b : Int)).P) (G := (Fq.num a).P) hp fo gqi (zA2) (sqi 6) (sqi 8) (fun v v' w h h' => zA3 h h')
 ·exact zAf (F := fun v _ => v = .int .i64 (cmpI (Int.natAbs b : Int) a)) hp fo gqi (sqi 9) (fun ρ w hc h => ⟨.bool false, by simp [execOp, go_sem, h, hc, T1.out], rfl⟩)
 ·exact zAg (F := fun v _ => v = .bool false) (G := fun v _ => v = .bool false) hp fo tv (sqi 3) (sqi 10) (fun ρ w hc h h' => ⟨_, by simp [execOp, go_sem, h, h'], rfl⟩)
 ·exact zAc hp fo tv (sqi 11)
 ·exact zAl (b := b1) (off := 0) (off' := 0) hp fo gqi (sqo 1) (fun ρ w h => by simp [execOp, go_sem, h]) (fun _ => rfl)
 ·exact lG 0 2 hp gqi (mq 0 rfl) zAb (sqi 13) fun v w h => zAk h
 ·exact zAl (b := b1) (off := 0) (off' := 4) hp fo gqi (sqo 1) (fun ρ w h => by simp [execOp, go_sem, h]) (fun _ => rfl)
 ·exact lG 4 2 hp gqi (mq 0 rfl) zAb (sqi 15) fun v w h => zAk h
 ·exact zAv (F := (Fq.num a).P) (G := (Fq.num c).P) hp fo gqi (zA2) (sqi 14) (sqi 16) (fun v v' w h h' => zA3 h h')
 ·exact zAf (F := fun v _ => v = .int .i64 (cmpI a c)) hp fo gqi (sqi 17) (fun ρ w hc h => ⟨.bool false, by simp [execOp, go_sem, h, hc, T2.out], rfl⟩)
 ·exact zAg (F := fun v _ => v = .bool false) (G := fun v _ => v = .bool false) hp fo tv (sqi 12) (sqi 18) (fun ρ w hc h h' => ⟨_, by simp [execOp, go_sem, h, h'], rfl⟩)
 intro L vs w3 nb hL hC hn E3
 have e1 := wXi hC 1
 have e2 := wXi hC 2
 have e3 := wXi hC 3
 have e4 := wXi hC 4
 have e7 := wXi hC 7
 have e9 := wXi hC 9
 have e10 := wXi hC 10
 have e11 := wXi hC 11
 have e12 := wXi hC 12
 have e13 := wXi hC 13
 have e15 := wXi hC 15
 have e17 := wXi hC 17
 have e18 := wXi hC 18
 have e19 := wXi hC 19
 have E := E3; try simp only [LM, zAd] at E
 rw [zAe hL]
 simp only [SP, Nat.zero_add, Nat.reduceAdd]
 rw [e1, e2, e3, e4, e7, e9, e10, e11, e12, e13, e15, e17, e18, e19]
 generalize vs 0 = u3_0
 generalize vs 5 = u3_5
 generalize vs 6 = u3_6
 generalize vs 8 = u3_8
 generalize vs 14 = u3_14
 generalize vs 16 = u3_16
 clear e1 e2 e3 e4 e7 e9 e10 e11 e12 e13 e15 e17 e18 e19 hC hn E3 hL vs L nb
 go_upto_region 3 with (fail)
 refine rg [ip b1 2, Fq.num b, Fq.num (Int.natAbs b : Int), ip b1 0, Fq.num a, Fq.is (.int .i64 (cmpI (Int.natAbs b : Int) a)), yF, yF, ip b1 0, Fq.num a, ip b1 4, Fq.num c, Fq.is (.int .i64 (cmpI a c)), yF, yF, yF] [none] [] E (fun hp => ⟨?_, ?_, ?_, ?_, ?_, ?_, ?_, ?_, ?_, ?_, ?_, ?_, ?_, ?_, ?_, ?_, tv⟩) ?_
 ·exact qa b1 0 2 hp (sqo 1)
 ·exact lN 2 2 hp (mq 0 rfl) zAb (sqi 0)
 ·exact wXa (Fq.num b) hp zB0 (sqi 1) fun v w h => exK (zBs h) B2.out (by omega)
 ·exact qa b1 0 0 hp (sqo 1)
 ·exact lN 0 2 hp (mq 0 rfl) zAb (sqi 3)
 ·exact wXb (Fq.num (Int.natAbs b : Int)) (Fq.num a) hp zA2 (sqi 2) (sqi 4) fun v v' w h h' => zA3 h h'
 ·exact zAf (F := fun v _ => v = .int .i64 (cmpI (Int.natAbs b : Int) a)) hp fo tv (sqi 5) (fun ρ w hc h => ⟨.bool false, by simp [execOp, go_sem, h, hc, T3.out], rfl⟩)
 ·exact zAc hp fo tv (sqi 6)
 ·exact zAl (b := b1) (off := 0) (off' := 0) hp fo gqi (sqo 1) (fun ρ w h => by simp [execOp, go_sem, h]) (fun _ => rfl)
 ·exact lG 0 2 hp gqi (mq 0 rfl) zAb (sqi 8) fun v w h => zAk h
 ·exact zAl (b := b1) (off := 0) (off' := 4) hp fo gqi (sqo 1) (fun ρ w h => by simp [execOp, go_sem, h]) (fun _ => rfl)
 ·exact lG 4 2 hp gqi (mq 0 rfl) zAb (sqi 10) fun v w h => zAk h
 ·exact zAv (F := (Fq.num a).P) (G := (Fq.num c).P) hp fo gqi (zA2) (sqi 9) (sqi 11) (fun v v' w h h' => zA3 h h')
 ·exact zAf (F := fun v _ => v = .int .i64 (cmpI a c)) hp fo gqi (sqi 12) (fun ρ w hc h => ⟨.bool false, by simp [execOp, go_sem, h, hc, T4.out], rfl⟩)
 ·exact zAg (F := fun v _ => v = .bool false) (G := fun v _ => v = .bool false) hp fo tv (sqi 7) (sqi 13) (fun ρ w hc h h' => ⟨_, by simp [execOp, go_sem, h, h'], rfl⟩)
 ·exact zAi hp fo tv (sqi 14)
 intro L vs w4 nb hL hC hn E4
 have e0 := wXi hC 0
 have e3 := wXi hC 3
 have e5 := wXi hC 5
 have e6 := wXi hC 6
 have e7 := wXi hC 7
 have e8 := wXi hC 8
 have e10 := wXi hC 10
 have e12 := wXi hC 12
 have e13 := wXi hC 13
 have e14 := wXi hC 14
 have e15 := wXi hC 15
 have E := E4; try simp only [LM, zAd] at E
 rw [zAe hL]
 simp only [SP, Nat.zero_add, Nat.reduceAdd]
 rw [e0, e3, e5, e6, e7, e8, e10, e12, e13, e14, e15]
 generalize vs 1 = u4_1
 generalize vs 2 = u4_2
 generalize vs 4 = u4_4
 generalize vs 9 = u4_9
 generalize vs 11 = u4_11
 clear e0 e3 e5 e6 e7 e8 e10 e12 e13 e14 e15 hC hn E4 hL vs L nb
 go_upto_region 4 with (fail)
 refine rg [yF, yT, yT, Fq.is (undef), Fq.is (undef), Fq.is (undef), Fq.is (undef), yT, yT] [none] [] E (fun hp => ⟨?_, ?_, ?_, ?_, ?_, ?_, ?_, ?_, ?_, tv⟩) ?_
 ·exact zAc hp fo tv (sqo 3)
 ·exact zAf (F := fun v _ => v = .bool false) hp fo tv (sqi 0) (fun ρ w _ h => ⟨.bool true, by simp [execOp, go_sem, h], rfl⟩)
 ·exact zAc hp fo tv (sqi 1)
 ·exact zAh hp fo rfl gqi (fun _ => rfl)
 ·exact zAh hp fo rfl gqi (fun _ => rfl)
 ·exact zAh hp fo rfl gqi (fun _ => rfl)
 ·exact zAh hp fo rfl gqi (fun _ => rfl)
 ·exact zAg (F := fun v _ => v = .bool true) (G := fun v _ => v = .bool true) hp fo tv (sqi 2) (zAj (fun _ => rfl)) (fun ρ w hc h h' => ⟨_, by simp [execOp, go_sem, h, h'], rfl⟩)
 ·exact zAi hp fo tv (sqi 7)
 intro L vs w5 nb hL hC hn E5
 have e0 := wXi hC 0
 have e1 := wXi hC 1
 have e2 := wXi hC 2
 have e3 := wXi hC 3
 have e4 := wXi hC 4
 have e5 := wXi hC 5
 have e6 := wXi hC 6
 have e7 := wXi hC 7
 have e8 := wXi hC 8
 have E := E5; try simp only [LM, zAd] at E
 rw [zAe hL]
 simp only [SP, Nat.zero_add, Nat.reduceAdd]
 rw [e0, e1, e2, e3, e4, e5, e6, e7, e8]
 clear e0 e1 e2 e3 e4 e5 e6 e7 e8 hC hn E5 hL vs L nb
 clear HD T1 T2 T3 T4 T5
 clear B2 ha hb hc
 go_wp2
 refine bodyPost_ret (v := .bool true) ?_ rfl ⟨_, rfl, E.below, rfl⟩
 simp [results, Try.results25, go_sem]

set_option maxRecDepth 100000 in
set_option maxHeartbeats 4000000 in
theorem zM0 {w : World} {v : Value} {a b c : Int} (h : (Fq.st [.n a, .n b, .n c]).P v w) (ha : ab a < pw 15) (hb : ab b < pw 15) (hc : ab c < pw 15) (hdf : dfB a b c = true) (hx : ¬ a < (Int.natAbs b : Int)) (hy : a ≤ c) (k0 : ¬ (Int.natAbs b : Int) = a) (k1 : ¬ a = c) (k2 : 0 ≤ b) {t : Bool} (ht : (dfB a b c && redB a b c) = t) :
  Calls Try.prog 25 #[v] w fun e w' => ∃ v', e = .returned v' ∧ Below w.heap.size w w' ∧ v' = .bool t := by
 replace ha := hidd ha
 replace hb := hidd hb
 replace hc := hidd hc
 have ht2 : t = true := ht.symm.trans (by rw [hdf, Bool.true_and]; unfold redB; exact decide_eq_true (by omega))
 subst ht2
 clear ht
 have HD := hidd hdf
 clear hdf
 have T1 : Hid (¬ 0 < cmpI (Int.natAbs b : Int) a) := fun e => by have := cmpIqgt.1 e; omega
 have T2 : Hid (¬ 0 < cmpI a c) := fun e => by have := cmpIqgt.1 e; omega
 have T3 : Hid (¬ cmpI (Int.natAbs b : Int) a = 0) := fun e => k0 (cmpIq0.1 e)
 have T4 : Hid (¬ cmpI a c = 0) := fun e => k1 (cmpIq0.1 e)
 have T5 : Hid (0 ≤ cmpI b 0) := by have := mt cmpIqlt.1 (show ¬ b < 0 by omega); show _ ≤ _; omega
 clear k0 k1 k2
 clear hx hy
 obtain ⟨_, rfl, hf0⟩ := h
 have hF0 := hf0
 obtain ⟨y0_p0, y0_q0, _, rfl, _y0_n0, y0_p1, y0_q1, _, rfl, _y0_n1, y0_p2, y0_q2, _, rfl, _y0_n2, rfl⟩ := hf0
 obtain ⟨w1, b1, hw1, hb1, hs1, E⟩ := gS w 33 hF0
 go_enter Try.func25, Try.ntmps25
 go_upto_region 1 with (fail)
 rw [← hw1]
 rw [← hb1]
 clear hw1 hb1 hs1
 have B2 : Hid (ab ((Int.natAbs b : Int)) < pw 15) := zBl hb.out
 refine rg [Fq.st [.n a, .n b, .n c], yT, yF, yF, ip b1 2, Fq.num b, Fq.num (Int.natAbs b : Int), ip b1 0, Fq.num a, Fq.is (.int .i64 (cmpI (Int.natAbs b : Int) a)), yF, yF, yF, ip b1 0, Fq.num a, ip b1 4, Fq.num c, Fq.is (.int .i64 (cmpI a c)), yF, yF] [none] [] E (fun hp => ⟨?_, ?_, ?_, ?_, ?_, ?_, ?_, ?_, ?_, ?_, ?_, ?_, ?_, ?_, ?_, ?_, ?_, ?_, ?_, ?_, tv⟩) ?_
 ·exact lS 0 6 hp (mq 0 rfl) zAn (sqo 1)
 ·exact wXa (Fq.st [.n a, .n b, .n c]) hp zC2 (sqi 0) fun v w h => zC3 h ha.out hb.out hc.out HD.out
 ·exact zAf (F := fun v _ => v = .bool true) hp fo tv (sqi 1) (fun ρ w _ h => ⟨.bool false, by simp [execOp, go_sem, h], rfl⟩)
 ·exact zAc hp fo tv (sqi 2)
 ·exact zAl (b := b1) (off := 0) (off' := 2) hp fo gqi (sqo 1) (fun ρ w h => by simp [execOp, go_sem, h]) (fun _ => rfl)
 ·exact lG 2 2 hp gqi (mq 0 rfl) zAb (sqi 4) fun v w h => zAk h
 ·exact zAm (F := (Fq.num b).P) hp fo gqi (zB0) (sqi 5) (fun v w h => exK (zBs h) B2.out (by omega))
 ·exact zAl (b := b1) (off := 0) (off' := 0) hp fo gqi (sqo 1) (fun ρ w h => by simp [execOp, go_sem, h]) (fun _ => rfl)
 ·exact lG 0 2 hp gqi (mq 0 rfl) zAb (sqi 7) fun v w h => zAk h
 ·exact zAv (F := (Fq.num (Int.natAbs b : Int)).P) (G := (Fq.num a).P) hp fo gqi (zA2) (sqi 6) (sqi 8) (fun v v' w h h' => zA3 h h')
 ·exact zAf (F := fun v _ => v = .int .i64 (cmpI (Int.natAbs b : Int) a)) hp fo gqi (sqi 9) (fun ρ w hc h => ⟨.bool false, by simp [execOp, go_sem, h, hc, T1.out], rfl⟩)
 ·exact zAg (F := fun v _ => v = .bool false) (G := fun v _ => v = .bool false) hp fo tv (sqi 3) (sqi 10) (fun ρ w hc h h' => ⟨_, by simp [execOp, go_sem, h, h'], rfl⟩)
 ·exact zAc hp fo tv (sqi 11)
 ·exact zAl (b := b1) (off := 0) (off' := 0) hp fo gqi (sqo 1) (fun ρ w h => by simp [execOp, go_sem, h]) (fun _ => rfl)
 ·exact lG 0 2 hp gqi (mq 0 rfl) zAb (sqi 13) fun v w h => zAk h
 ·exact zAl (b := b1) (off := 0) (off' := 4) hp fo gqi (sqo 1) (fun ρ w h => by simp [execOp, go_sem, h]) (fun _ => rfl)
 ·exact lG 4 2 hp gqi (mq 0 rfl) zAb (sqi 15) fun v w h => zAk h
 ·exact zAv (F := (Fq.num a).P) (G := (Fq.num c).P) hp fo gqi (zA2) (sqi 14) (sqi 16) (fun v v' w h h' => zA3 h h')
 ·exact zAf (F := fun v _ => v = .int .i64 (cmpI a c)) hp fo gqi (sqi 17) (fun ρ w hc h => ⟨.bool false, by simp [execOp, go_sem, h, hc, T2.out], rfl⟩)
 ·exact zAg (F := fun v _ => v = .bool false) (G := fun v _ => v = .bool false) hp fo tv (sqi 12) (sqi 18) (fun ρ w hc h h' => ⟨_, by simp [execOp, go_sem, h, h'], rfl⟩)
 intro L vs w3 nb hL hC hn E3
 have e1 := wXi hC 1
 have e2 := wXi hC 2
 have e3 := wXi hC 3
 have e4 := wXi hC 4
 have e7 := wXi hC 7
 have e9 := wXi hC 9
 have e10 := wXi hC 10
 have e11 := wXi hC 11
 have e12 := wXi hC 12
 have e13 := wXi hC 13
 have e15 := wXi hC 15
 have e17 := wXi hC 17
 have e18 := wXi hC 18
 have e19 := wXi hC 19
 have E := E3; try simp only [LM, zAd] at E
 rw [zAe hL]
 simp only [SP, Nat.zero_add, Nat.reduceAdd]
 rw [e1, e2, e3, e4, e7, e9, e10, e11, e12, e13, e15, e17, e18, e19]
 generalize vs 0 = u3_0
 generalize vs 5 = u3_5
 generalize vs 6 = u3_6
 generalize vs 8 = u3_8
 generalize vs 14 = u3_14
 generalize vs 16 = u3_16
 clear e1 e2 e3 e4 e7 e9 e10 e11 e12 e13 e15 e17 e18 e19 hC hn E3 hL vs L nb
 go_upto_region 3 with (fail)
 refine rg [ip b1 2, Fq.num b, Fq.num (Int.natAbs b : Int), ip b1 0, Fq.num a, Fq.is (.int .i64 (cmpI (Int.natAbs b : Int) a)), yF, yF, ip b1 0, Fq.num a, ip b1 4, Fq.num c, Fq.is (.int .i64 (cmpI a c)), yF, yF, yF] [none] [] E (fun hp => ⟨?_, ?_, ?_, ?_, ?_, ?_, ?_, ?_, ?_, ?_, ?_, ?_, ?_, ?_, ?_, ?_, tv⟩) ?_
 ·exact qa b1 0 2 hp (sqo 1)
 ·exact lN 2 2 hp (mq 0 rfl) zAb (sqi 0)
 ·exact wXa (Fq.num b) hp zB0 (sqi 1) fun v w h => exK (zBs h) B2.out (by omega)
 ·exact qa b1 0 0 hp (sqo 1)
 ·exact lN 0 2 hp (mq 0 rfl) zAb (sqi 3)
 ·exact wXb (Fq.num (Int.natAbs b : Int)) (Fq.num a) hp zA2 (sqi 2) (sqi 4) fun v v' w h h' => zA3 h h'
 ·exact zAf (F := fun v _ => v = .int .i64 (cmpI (Int.natAbs b : Int) a)) hp fo tv (sqi 5) (fun ρ w hc h => ⟨.bool false, by simp [execOp, go_sem, h, hc, T3.out], rfl⟩)
 ·exact zAc hp fo tv (sqi 6)
 ·exact zAl (b := b1) (off := 0) (off' := 0) hp fo gqi (sqo 1) (fun ρ w h => by simp [execOp, go_sem, h]) (fun _ => rfl)
 ·exact lG 0 2 hp gqi (mq 0 rfl) zAb (sqi 8) fun v w h => zAk h
 ·exact zAl (b := b1) (off := 0) (off' := 4) hp fo gqi (sqo 1) (fun ρ w h => by simp [execOp, go_sem, h]) (fun _ => rfl)
 ·exact lG 4 2 hp gqi (mq 0 rfl) zAb (sqi 10) fun v w h => zAk h
 ·exact zAv (F := (Fq.num a).P) (G := (Fq.num c).P) hp fo gqi (zA2) (sqi 9) (sqi 11) (fun v v' w h h' => zA3 h h')
 ·exact zAf (F := fun v _ => v = .int .i64 (cmpI a c)) hp fo gqi (sqi 12) (fun ρ w hc h => ⟨.bool false, by simp [execOp, go_sem, h, hc, T4.out], rfl⟩)
 ·exact zAg (F := fun v _ => v = .bool false) (G := fun v _ => v = .bool false) hp fo tv (sqi 7) (sqi 13) (fun ρ w hc h h' => ⟨_, by simp [execOp, go_sem, h, h'], rfl⟩)
 ·exact zAi hp fo tv (sqi 14)
 intro L vs w4 nb hL hC hn E4
 have e0 := wXi hC 0
 have e3 := wXi hC 3
 have e5 := wXi hC 5
 have e6 := wXi hC 6
 have e7 := wXi hC 7
 have e8 := wXi hC 8
 have e10 := wXi hC 10
 have e12 := wXi hC 12
 have e13 := wXi hC 13
 have e14 := wXi hC 14
 have e15 := wXi hC 15
 have E := E4; try simp only [LM, zAd] at E
 rw [zAe hL]
 simp only [SP, Nat.zero_add, Nat.reduceAdd]
 rw [e0, e3, e5, e6, e7, e8, e10, e12, e13, e14, e15]
 generalize vs 1 = u4_1
 generalize vs 2 = u4_2
 generalize vs 4 = u4_4
 generalize vs 9 = u4_9
 generalize vs 11 = u4_11
 clear e0 e3 e5 e6 e7 e8 e10 e12 e13 e14 e15 hC hn E4 hL vs L nb
 go_upto_region 4 with (fail)
 refine rg [yF, yT, yT, Fq.is (undef), Fq.is (undef), Fq.is (undef), Fq.is (undef), yT, yT] [none] [] E (fun hp => ⟨?_, ?_, ?_, ?_, ?_, ?_, ?_, ?_, ?_, tv⟩) ?_
 ·exact zAc hp fo tv (sqo 3)
 ·exact zAf (F := fun v _ => v = .bool false) hp fo tv (sqi 0) (fun ρ w _ h => ⟨.bool true, by simp [execOp, go_sem, h], rfl⟩)
 ·exact zAc hp fo tv (sqi 1)
 ·exact zAh hp fo rfl gqi (fun _ => rfl)
 ·exact zAh hp fo rfl gqi (fun _ => rfl)
 ·exact zAh hp fo rfl gqi (fun _ => rfl)
 ·exact zAh hp fo rfl gqi (fun _ => rfl)
 ·exact zAg (F := fun v _ => v = .bool true) (G := fun v _ => v = .bool true) hp fo tv (sqi 2) (zAj (fun _ => rfl)) (fun ρ w hc h h' => ⟨_, by simp [execOp, go_sem, h, h'], rfl⟩)
 ·exact zAi hp fo tv (sqi 7)
 intro L vs w5 nb hL hC hn E5
 have e0 := wXi hC 0
 have e1 := wXi hC 1
 have e2 := wXi hC 2
 have e3 := wXi hC 3
 have e4 := wXi hC 4
 have e5 := wXi hC 5
 have e6 := wXi hC 6
 have e7 := wXi hC 7
 have e8 := wXi hC 8
 have E := E5; try simp only [LM, zAd] at E
 rw [zAe hL]
 simp only [SP, Nat.zero_add, Nat.reduceAdd]
 rw [e0, e1, e2, e3, e4, e5, e6, e7, e8]
 clear e0 e1 e2 e3 e4 e5 e6 e7 e8 hC hn E5 hL vs L nb
 clear HD T1 T2 T3 T4 T5
 clear B2 ha hb hc
 go_wp2
 refine bodyPost_ret (v := .bool true) ?_ rfl ⟨_, rfl, E.below, rfl⟩
 simp [results, Try.results25, go_sem]

set_option maxRecDepth 100000 in
set_option maxHeartbeats 4000000 in
theorem zM1 {w : World} {v : Value} {a b c : Int} (h : (Fq.st [.n a, .n b, .n c]).P v w) (ha : ab a < pw 15) (hb : ab b < pw 15) (hc : ab c < pw 15) (hdf : dfB a b c = true) (hx : ¬ a < (Int.natAbs b : Int)) (hy : a ≤ c) (k0 : ¬ (Int.natAbs b : Int) = a) (k1 : a = c) (k2 : ¬ 0 ≤ b) {t : Bool} (ht : (dfB a b c && redB a b c) = t) :
  Calls Try.prog 25 #[v] w fun e w' => ∃ v', e = .returned v' ∧ Below w.heap.size w w' ∧ v' = .bool t := by
 replace ha := hidd ha
 replace hb := hidd hb
 replace hc := hidd hc
 have ht2 : t = false := ht.symm.trans (by rw [hdf, Bool.true_and]; unfold redB; exact decide_eq_false (by omega))
 subst ht2
 clear ht
 have HD := hidd hdf
 clear hdf
 have T1 : Hid (¬ 0 < cmpI (Int.natAbs b : Int) a) := fun e => by have := cmpIqgt.1 e; omega
 have T2 : Hid (¬ 0 < cmpI a c) := fun e => by have := cmpIqgt.1 e; omega
 have T3 : Hid (¬ cmpI (Int.natAbs b : Int) a = 0) := fun e => k0 (cmpIq0.1 e)
 have T4 : Hid (cmpI a c = 0) := cmpIq0.2 k1
 have T5 : Hid (¬ 0 ≤ cmpI b 0) := by have := cmpIqlt.2 (show b < 0 by omega); show ¬ _ ≤ _; omega
 clear k0 k1 k2
 clear hx hy
 obtain ⟨_, rfl, hf0⟩ := h
 have hF0 := hf0
 obtain ⟨y0_p0, y0_q0, _, rfl, _y0_n0, y0_p1, y0_q1, _, rfl, _y0_n1, y0_p2, y0_q2, _, rfl, _y0_n2, rfl⟩ := hf0
 obtain ⟨w1, b1, hw1, hb1, hs1, E⟩ := gS w 33 hF0
 go_enter Try.func25, Try.ntmps25
 go_upto_region 1 with (fail)
 rw [← hw1]
 rw [← hb1]
 clear hw1 hb1 hs1
 have B2 : Hid (ab ((Int.natAbs b : Int)) < pw 15) := zBl hb.out
 refine rg [Fq.st [.n a, .n b, .n c], yT, yF, yF, ip b1 2, Fq.num b, Fq.num (Int.natAbs b : Int), ip b1 0, Fq.num a, Fq.is (.int .i64 (cmpI (Int.natAbs b : Int) a)), yF, yF, yF, ip b1 0, Fq.num a, ip b1 4, Fq.num c, Fq.is (.int .i64 (cmpI a c)), yF, yF] [none] [] E (fun hp => ⟨?_, ?_, ?_, ?_, ?_, ?_, ?_, ?_, ?_, ?_, ?_, ?_, ?_, ?_, ?_, ?_, ?_, ?_, ?_, ?_, tv⟩) ?_
 ·exact lS 0 6 hp (mq 0 rfl) zAn (sqo 1)
 ·exact wXa (Fq.st [.n a, .n b, .n c]) hp zC2 (sqi 0) fun v w h => zC3 h ha.out hb.out hc.out HD.out
 ·exact zAf (F := fun v _ => v = .bool true) hp fo tv (sqi 1) (fun ρ w _ h => ⟨.bool false, by simp [execOp, go_sem, h], rfl⟩)
 ·exact zAc hp fo tv (sqi 2)
 ·exact zAl (b := b1) (off := 0) (off' := 2) hp fo gqi (sqo 1) (fun ρ w h => by simp [execOp, go_sem, h]) (fun _ => rfl)
 ·exact lG 2 2 hp gqi (mq 0 rfl) zAb (sqi 4) fun v w h => zAk h
 ·exact zAm (F := (Fq.num b).P) hp fo gqi (zB0) (sqi 5) (fun v w h => exK (zBs h) B2.out (by omega))
 ·exact zAl (b := b1) (off := 0) (off' := 0) hp fo gqi (sqo 1) (fun ρ w h => by simp [execOp, go_sem, h]) (fun _ => rfl)
 ·exact lG 0 2 hp gqi (mq 0 rfl) zAb (sqi 7) fun v w h => zAk h
 ·exact zAv (F := (Fq.num (Int.natAbs b : Int)).P) (G := (Fq.num a).P) hp fo gqi (zA2) (sqi 6) (sqi 8) (fun v v' w h h' => zA3 h h')
 ·exact zAf (F := fun v _ => v = .int .i64 (cmpI (Int.natAbs b : Int) a)) hp fo gqi (sqi 9) (fun ρ w hc h => ⟨.bool false, by simp [execOp, go_sem, h, hc, T1.out], rfl⟩)
 ·exact zAg (F := fun v _ => v = .bool false) (G := fun v _ => v = .bool false) hp fo tv (sqi 3) (sqi 10) (fun ρ w hc h h' => ⟨_, by simp [execOp, go_sem, h, h'], rfl⟩)
 ·exact zAc hp fo tv (sqi 11)
 ·exact zAl (b := b1) (off := 0) (off' := 0) hp fo gqi (sqo 1) (fun ρ w h => by simp [execOp, go_sem, h]) (fun _ => rfl)
 ·exact lG 0 2 hp gqi (mq 0 rfl) zAb (sqi 13) fun v w h => zAk h
 ·exact zAl (b := b1) (off := 0) (off' := 4) hp fo gqi (sqo 1) (fun ρ w h => by simp [execOp, go_sem, h]) (fun _ => rfl)
 ·exact lG 4 2 hp gqi (mq 0 rfl) zAb (sqi 15) fun v w h => zAk h
 ·exact zAv (F := (Fq.num a).P) (G := (Fq.num c).P) hp fo gqi (zA2) (sqi 14) (sqi 16) (fun v v' w h h' => zA3 h h')
 ·exact zAf (F := fun v _ => v = .int .i64 (cmpI a c)) hp fo gqi (sqi 17) (fun ρ w hc h => ⟨.bool false, by simp [execOp, go_sem, h, hc, T2.out], rfl⟩)
 ·exact zAg (F := fun v _ => v = .bool false) (G := fun v _ => v = .bool false) hp fo tv (sqi 12) (sqi 18) (fun ρ w hc h h' => ⟨_, by simp [execOp, go_sem, h, h'], rfl⟩)
 intro L vs w3 nb hL hC hn E3
 have e1 := wXi hC 1
 have e2 := wXi hC 2
 have e3 := wXi hC 3
 have e4 := wXi hC 4
 have e7 := wXi hC 7
 have e9 := wXi hC 9
 have e10 := wXi hC 10
 have e11 := wXi hC 11
 have e12 := wXi hC 12
 have e13 := wXi hC 13
 have e15 := wXi hC 15
 have e17 := wXi hC 17
 have e18 := wXi hC 18
 have e19 := wXi hC 19
 have E := E3; try simp only [LM, zAd] at E
 rw [zAe hL]
 simp only [SP, Nat.zero_add, Nat.reduceAdd]
 rw [e1, e2, e3, e4, e7, e9, e10, e11, e12, e13, e15, e17, e18, e19]
 generalize vs 0 = u3_0
 generalize vs 5 = u3_5
 generalize vs 6 = u3_6
 generalize vs 8 = u3_8
 generalize vs 14 = u3_14
 generalize vs 16 = u3_16
 clear e1 e2 e3 e4 e7 e9 e10 e11 e12 e13 e15 e17 e18 e19 hC hn E3 hL vs L nb
 go_upto_region 3 with (fail)
 refine rg [ip b1 2, Fq.num b, Fq.num (Int.natAbs b : Int), ip b1 0, Fq.num a, Fq.is (.int .i64 (cmpI (Int.natAbs b : Int) a)), yF, yF, ip b1 0, Fq.num a, ip b1 4, Fq.num c, Fq.is (.int .i64 (cmpI a c)), yT, yT, yT] [none] [] E (fun hp => ⟨?_, ?_, ?_, ?_, ?_, ?_, ?_, ?_, ?_, ?_, ?_, ?_, ?_, ?_, ?_, ?_, tv⟩) ?_
 ·exact qa b1 0 2 hp (sqo 1)
 ·exact lN 2 2 hp (mq 0 rfl) zAb (sqi 0)
 ·exact wXa (Fq.num b) hp zB0 (sqi 1) fun v w h => exK (zBs h) B2.out (by omega)
 ·exact qa b1 0 0 hp (sqo 1)
 ·exact lN 0 2 hp (mq 0 rfl) zAb (sqi 3)
 ·exact wXb (Fq.num (Int.natAbs b : Int)) (Fq.num a) hp zA2 (sqi 2) (sqi 4) fun v v' w h h' => zA3 h h'
 ·exact zAf (F := fun v _ => v = .int .i64 (cmpI (Int.natAbs b : Int) a)) hp fo tv (sqi 5) (fun ρ w hc h => ⟨.bool false, by simp [execOp, go_sem, h, hc, T3.out], rfl⟩)
 ·exact zAc hp fo tv (sqi 6)
 ·exact zAl (b := b1) (off := 0) (off' := 0) hp fo gqi (sqo 1) (fun ρ w h => by simp [execOp, go_sem, h]) (fun _ => rfl)
 ·exact lG 0 2 hp gqi (mq 0 rfl) zAb (sqi 8) fun v w h => zAk h
 ·exact zAl (b := b1) (off := 0) (off' := 4) hp fo gqi (sqo 1) (fun ρ w h => by simp [execOp, go_sem, h]) (fun _ => rfl)
 ·exact lG 4 2 hp gqi (mq 0 rfl) zAb (sqi 10) fun v w h => zAk h
 ·exact zAv (F := (Fq.num a).P) (G := (Fq.num c).P) hp fo gqi (zA2) (sqi 9) (sqi 11) (fun v v' w h h' => zA3 h h')
 ·exact zAf (F := fun v _ => v = .int .i64 (cmpI a c)) hp fo gqi (sqi 12) (fun ρ w hc h => ⟨.bool true, by simp [execOp, go_sem, h, hc, T4.out], rfl⟩)
 ·exact zAg (F := fun v _ => v = .bool false) (G := fun v _ => v = .bool true) hp fo tv (sqi 7) (sqi 13) (fun ρ w hc h h' => ⟨_, by simp [execOp, go_sem, h, h'], rfl⟩)
 ·exact zAi hp fo tv (sqi 14)
 intro L vs w4 nb hL hC hn E4
 have e0 := wXi hC 0
 have e3 := wXi hC 3
 have e5 := wXi hC 5
 have e6 := wXi hC 6
 have e7 := wXi hC 7
 have e8 := wXi hC 8
 have e10 := wXi hC 10
 have e12 := wXi hC 12
 have e13 := wXi hC 13
 have e14 := wXi hC 14
 have e15 := wXi hC 15
 have E := E4; try simp only [LM, zAd] at E
 rw [zAe hL]
 simp only [SP, Nat.zero_add, Nat.reduceAdd]
 rw [e0, e3, e5, e6, e7, e8, e10, e12, e13, e14, e15]
 generalize vs 1 = u4_1
 generalize vs 2 = u4_2
 generalize vs 4 = u4_4
 generalize vs 9 = u4_9
 generalize vs 11 = u4_11
 clear e0 e3 e5 e6 e7 e8 e10 e12 e13 e14 e15 hC hn E4 hL vs L nb
 go_upto_region 4 with (fail)
 refine rg [yT, yF, yF, ip b1 2, Fq.num b, Fq.is (.int .i64 (cmpI b 0)), yF, yF, yF] [none] [] E (fun hp => ⟨?_, ?_, ?_, ?_, ?_, ?_, ?_, ?_, ?_, tv⟩) ?_
 ·exact zAc hp fo tv (sqo 3)
 ·exact zAf (F := fun v _ => v = .bool true) hp fo tv (sqi 0) (fun ρ w _ h => ⟨.bool false, by simp [execOp, go_sem, h], rfl⟩)
 ·exact zAc hp fo tv (sqi 1)
 ·exact zAl (b := b1) (off := 0) (off' := 2) hp fo gqi (sqo 1) (fun ρ w h => by simp [execOp, go_sem, h]) (fun _ => rfl)
 ·exact lG 2 2 hp gqi (mq 0 rfl) zAb (sqi 3) fun v w h => zAk h
 ·exact zAm (F := (Fq.num b).P) hp fo gqi (zBv) (sqi 4) (fun v w h => zBw h)
 ·exact zAf (F := fun v _ => v = .int .i64 (cmpI b 0)) hp fo gqi (sqi 5) (fun ρ w hc h => ⟨.bool false, by simp [execOp, go_sem, h, hc, T5.out], rfl⟩)
 ·exact zAg (F := fun v _ => v = .bool false) (G := fun v _ => v = .bool false) hp fo tv (sqi 2) (sqi 6) (fun ρ w hc h h' => ⟨_, by simp [execOp, go_sem, h, h'], rfl⟩)
 ·exact zAi hp fo tv (sqi 7)
 intro L vs w5 nb hL hC hn E5
 have e0 := wXi hC 0
 have e1 := wXi hC 1
 have e2 := wXi hC 2
 have e3 := wXi hC 3
 have e5 := wXi hC 5
 have e6 := wXi hC 6
 have e7 := wXi hC 7
 have e8 := wXi hC 8
 have E := E5; try simp only [LM, zAd] at E
 rw [zAe hL]
 simp only [SP, Nat.zero_add, Nat.reduceAdd]
 rw [e0, e1, e2, e3, e5, e6, e7, e8]
 generalize vs 4 = u5_4
 clear e0 e1 e2 e3 e5 e6 e7 e8 hC hn E5 hL vs L nb
 clear HD T1 T2 T3 T4 T5
 clear B2 ha hb hc
 go_wp2
 refine bodyPost_ret (v := .bool false) ?_ rfl ⟨_, rfl, E.below, rfl⟩
 simp [results, Try.results25, go_sem]

set_option maxRecDepth 100000 in
set_option maxHeartbeats 4000000 in
theorem zM2 {w : World} {v : Value} {a b c : Int} (h : (Fq.st [.n a, .n b, .n c]).P v w) (ha : ab a < pw 15) (hb : ab b < pw 15) (hc : ab c < pw 15) (hdf : dfB a b c = true) (hx : ¬ a < (Int.natAbs b : Int)) (hy : a ≤ c) (k0 : ¬ (Int.natAbs b : Int) = a) (k1 : a = c) (k2 : 0 ≤ b) {t : Bool} (ht : (dfB a b c && redB a b c) = t) :
  Calls Try.prog 25 #[v] w fun e w' => ∃ v', e = .returned v' ∧ Below w.heap.size w w' ∧ v' = .bool t := by
 replace ha := hidd ha
 replace hb := hidd hb
 replace hc := hidd hc
 have ht2 : t = true := ht.symm.trans (by rw [hdf, Bool.true_and]; unfold redB; exact decide_eq_true (by omega))
 subst ht2
 clear ht
 have HD := hidd hdf
 clear hdf
 have T1 : Hid (¬ 0 < cmpI (Int.natAbs b : Int) a) := fun e => by have := cmpIqgt.1 e; omega
 have T2 : Hid (¬ 0 < cmpI a c) := fun e => by have := cmpIqgt.1 e; omega
 have T3 : Hid (¬ cmpI (Int.natAbs b : Int) a = 0) := fun e => k0 (cmpIq0.1 e)
 have T4 : Hid (cmpI a c = 0) := cmpIq0.2 k1
 have T5 : Hid (0 ≤ cmpI b 0) := by have := mt cmpIqlt.1 (show ¬ b < 0 by omega); show _ ≤ _; omega
 clear k0 k1 k2
 clear hx hy
 obtain ⟨_, rfl, hf0⟩ := h
 have hF0 := hf0
 obtain ⟨y0_p0, y0_q0, _, rfl, _y0_n0, y0_p1, y0_q1, _, rfl, _y0_n1, y0_p2, y0_q2, _, rfl, _y0_n2, rfl⟩ := hf0
 obtain ⟨w1, b1, hw1, hb1, hs1, E⟩ := gS w 33 hF0
 go_enter Try.func25, Try.ntmps25
 go_upto_region 1 with (fail)
 rw [← hw1]
 rw [← hb1]
 clear hw1 hb1 hs1
 have B2 : Hid (ab ((Int.natAbs b : Int)) < pw 15) := zBl hb.out
 refine rg [Fq.st [.n a, .n b, .n c], yT, yF, yF, ip b1 2, Fq.num b, Fq.num (Int.natAbs b : Int), ip b1 0, Fq.num a, Fq.is (.int .i64 (cmpI (Int.natAbs b : Int) a)), yF, yF, yF, ip b1 0, Fq.num a, ip b1 4, Fq.num c, Fq.is (.int .i64 (cmpI a c)), yF, yF] [none] [] E (fun hp => ⟨?_, ?_, ?_, ?_, ?_, ?_, ?_, ?_, ?_, ?_, ?_, ?_, ?_, ?_, ?_, ?_, ?_, ?_, ?_, ?_, tv⟩) ?_
 ·exact lS 0 6 hp (mq 0 rfl) zAn (sqo 1)
 ·exact wXa (Fq.st [.n a, .n b, .n c]) hp zC2 (sqi 0) fun v w h => zC3 h ha.out hb.out hc.out HD.out
 ·exact zAf (F := fun v _ => v = .bool true) hp fo tv (sqi 1) (fun ρ w _ h => ⟨.bool false, by simp [execOp, go_sem, h], rfl⟩)
 ·exact zAc hp fo tv (sqi 2)
 ·exact zAl (b := b1) (off := 0) (off' := 2) hp fo gqi (sqo 1) (fun ρ w h => by simp [execOp, go_sem, h]) (fun _ => rfl)
 ·exact lG 2 2 hp gqi (mq 0 rfl) zAb (sqi 4) fun v w h => zAk h
 ·exact zAm (F := (Fq.num b).P) hp fo gqi (zB0) (sqi 5) (fun v w h => exK (zBs h) B2.out (by omega))
 ·exact zAl (b := b1) (off := 0) (off' := 0) hp fo gqi (sqo 1) (fun ρ w h => by simp [execOp, go_sem, h]) (fun _ => rfl)
 ·exact lG 0 2 hp gqi (mq 0 rfl) zAb (sqi 7) fun v w h => zAk h
 ·exact zAv (F := (Fq.num (Int.natAbs b : Int)).P) (G := (Fq.num a).P) hp fo gqi (zA2) (sqi 6) (sqi 8) (fun v v' w h h' => zA3 h h')
 ·exact zAf (F := fun v _ => v = .int .i64 (cmpI (Int.natAbs b : Int) a)) hp fo gqi (sqi 9) (fun ρ w hc h => ⟨.bool false, by simp [execOp, go_sem, h, hc, T1.out], rfl⟩)
 ·exact zAg (F := fun v _ => v = .bool false) (G := fun v _ => v = .bool false) hp fo tv (sqi 3) (sqi 10) (fun ρ w hc h h' => ⟨_, by simp [execOp, go_sem, h, h'], rfl⟩)
 ·exact zAc hp fo tv (sqi 11)
 ·exact zAl (b := b1) (off := 0) (off' := 0) hp fo gqi (sqo 1) (fun ρ w h => by simp [execOp, go_sem, h]) (fun _ => rfl)
 ·exact lG 0 2 hp gqi (mq 0 rfl) zAb (sqi 13) fun v w h => zAk h
 ·exact zAl (b := b1) (off := 0) (off' := 4) hp fo gqi (sqo 1) (fun ρ w h => by simp [execOp, go_sem, h]) (fun _ => rfl)
 ·exact lG 4 2 hp gqi (mq 0 rfl) zAb (sqi 15) fun v w h => zAk h
 ·exact zAv (F := (Fq.num a).P) (G := (Fq.num c).P) hp fo gqi (zA2) (sqi 14) (sqi 16) (fun v v' w h h' => zA3 h h')
 ·exact zAf (F := fun v _ => v = .int .i64 (cmpI a c)) hp fo gqi (sqi 17) (fun ρ w hc h => ⟨.bool false, by simp [execOp, go_sem, h, hc, T2.out], rfl⟩)
 ·exact zAg (F := fun v _ => v = .bool false) (G := fun v _ => v = .bool false) hp fo tv (sqi 12) (sqi 18) (fun ρ w hc h h' => ⟨_, by simp [execOp, go_sem, h, h'], rfl⟩)
 intro L vs w3 nb hL hC hn E3
 have e1 := wXi hC 1
 have e2 := wXi hC 2
 have e3 := wXi hC 3
 have e4 := wXi hC 4
 have e7 := wXi hC 7
 have e9 := wXi hC 9
 have e10 := wXi hC 10
 have e11 := wXi hC 11
 have e12 := wXi hC 12
 have e13 := wXi hC 13
 have e15 := wXi hC 15
 have e17 := wXi hC 17
 have e18 := wXi hC 18
 have e19 := wXi hC 19
 have E := E3; try simp only [LM, zAd] at E
 rw [zAe hL]
 simp only [SP, Nat.zero_add, Nat.reduceAdd]
 rw [e1, e2, e3, e4, e7, e9, e10, e11, e12, e13, e15, e17, e18, e19]
 generalize vs 0 = u3_0
 generalize vs 5 = u3_5
 generalize vs 6 = u3_6
 generalize vs 8 = u3_8
 generalize vs 14 = u3_14
 generalize vs 16 = u3_16
 clear e1 e2 e3 e4 e7 e9 e10 e11 e12 e13 e15 e17 e18 e19 hC hn E3 hL vs L nb
 go_upto_region 3 with (fail)
 refine rg [ip b1 2, Fq.num b, Fq.num (Int.natAbs b : Int), ip b1 0, Fq.num a, Fq.is (.int .i64 (cmpI (Int.natAbs b : Int) a)), yF, yF, ip b1 0, Fq.num a, ip b1 4, Fq.num c, Fq.is (.int .i64 (cmpI a c)), yT, yT, yT] [none] [] E (fun hp => ⟨?_, ?_, ?_, ?_, ?_, ?_, ?_, ?_, ?_, ?_, ?_, ?_, ?_, ?_, ?_, ?_, tv⟩) ?_
 ·exact qa b1 0 2 hp (sqo 1)
 ·exact lN 2 2 hp (mq 0 rfl) zAb (sqi 0)
 ·exact wXa (Fq.num b) hp zB0 (sqi 1) fun v w h => exK (zBs h) B2.out (by omega)
 ·exact qa b1 0 0 hp (sqo 1)
 ·exact lN 0 2 hp (mq 0 rfl) zAb (sqi 3)
 ·exact wXb (Fq.num (Int.natAbs b : Int)) (Fq.num a) hp zA2 (sqi 2) (sqi 4) fun v v' w h h' => zA3 h h'
 ·exact zAf (F := fun v _ => v = .int .i64 (cmpI (Int.natAbs b : Int) a)) hp fo tv (sqi 5) (fun ρ w hc h => ⟨.bool false, by simp [execOp, go_sem, h, hc, T3.out], rfl⟩)
 ·exact zAc hp fo tv (sqi 6)
 ·exact zAl (b := b1) (off := 0) (off' := 0) hp fo gqi (sqo 1) (fun ρ w h => by simp [execOp, go_sem, h]) (fun _ => rfl)
 ·exact lG 0 2 hp gqi (mq 0 rfl) zAb (sqi 8) fun v w h => zAk h
 ·exact zAl (b := b1) (off := 0) (off' := 4) hp fo gqi (sqo 1) (fun ρ w h => by simp [execOp, go_sem, h]) (fun _ => rfl)
 ·exact lG 4 2 hp gqi (mq 0 rfl) zAb (sqi 10) fun v w h => zAk h
 ·exact zAv (F := (Fq.num a).P) (G := (Fq.num c).P) hp fo gqi (zA2) (sqi 9) (sqi 11) (fun v v' w h h' => zA3 h h')
 ·exact zAf (F := fun v _ => v = .int .i64 (cmpI a c)) hp fo gqi (sqi 12) (fun ρ w hc h => ⟨.bool true, by simp [execOp, go_sem, h, hc, T4.out], rfl⟩)
 ·exact zAg (F := fun v _ => v = .bool false) (G := fun v _ => v = .bool true) hp fo tv (sqi 7) (sqi 13) (fun ρ w hc h h' => ⟨_, by simp [execOp, go_sem, h, h'], rfl⟩)
 ·exact zAi hp fo tv (sqi 14)
 intro L vs w4 nb hL hC hn E4
 have e0 := wXi hC 0
 have e3 := wXi hC 3
 have e5 := wXi hC 5
 have e6 := wXi hC 6
 have e7 := wXi hC 7
 have e8 := wXi hC 8
 have e10 := wXi hC 10
 have e12 := wXi hC 12
 have e13 := wXi hC 13
 have e14 := wXi hC 14
 have e15 := wXi hC 15
 have E := E4; try simp only [LM, zAd] at E
 rw [zAe hL]
 simp only [SP, Nat.zero_add, Nat.reduceAdd]
 rw [e0, e3, e5, e6, e7, e8, e10, e12, e13, e14, e15]
 generalize vs 1 = u4_1
 generalize vs 2 = u4_2
 generalize vs 4 = u4_4
 generalize vs 9 = u4_9
 generalize vs 11 = u4_11
 clear e0 e3 e5 e6 e7 e8 e10 e12 e13 e14 e15 hC hn E4 hL vs L nb
 go_upto_region 4 with (fail)
 refine rg [yT, yF, yF, ip b1 2, Fq.num b, Fq.is (.int .i64 (cmpI b 0)), yT, yT, yT] [none] [] E (fun hp => ⟨?_, ?_, ?_, ?_, ?_, ?_, ?_, ?_, ?_, tv⟩) ?_
 ·exact zAc hp fo tv (sqo 3)
 ·exact zAf (F := fun v _ => v = .bool true) hp fo tv (sqi 0) (fun ρ w _ h => ⟨.bool false, by simp [execOp, go_sem, h], rfl⟩)
 ·exact zAc hp fo tv (sqi 1)
 ·exact zAl (b := b1) (off := 0) (off' := 2) hp fo gqi (sqo 1) (fun ρ w h => by simp [execOp, go_sem, h]) (fun _ => rfl)
 ·exact lG 2 2 hp gqi (mq 0 rfl) zAb (sqi 3) fun v w h => zAk h
 ·exact zAm (F := (Fq.num b).P) hp fo gqi (zBv) (sqi 4) (fun v w h => zBw h)
 ·exact zAf (F := fun v _ => v = .int .i64 (cmpI b 0)) hp fo gqi (sqi 5) (fun ρ w hc h => ⟨.bool true, by simp [execOp, go_sem, h, hc, T5.out], rfl⟩)
 ·exact zAg (F := fun v _ => v = .bool false) (G := fun v _ => v = .bool true) hp fo tv (sqi 2) (sqi 6) (fun ρ w hc h h' => ⟨_, by simp [execOp, go_sem, h, h'], rfl⟩)
 ·exact zAi hp fo tv (sqi 7)
 intro L vs w5 nb hL hC hn E5
 have e0 := wXi hC 0
 have e1 := wXi hC 1
 have e2 := wXi hC 2
 have e3 := wXi hC 3
 have e5 := wXi hC 5
 have e6 := wXi hC 6
 have e7 := wXi hC 7
 have e8 := wXi hC 8
 have E := E5; try simp only [LM, zAd] at E
 rw [zAe hL]
 simp only [SP, Nat.zero_add, Nat.reduceAdd]
 rw [e0, e1, e2, e3, e5, e6, e7, e8]
 generalize vs 4 = u5_4
 clear e0 e1 e2 e3 e5 e6 e7 e8 hC hn E5 hL vs L nb
 clear HD T1 T2 T3 T4 T5
 clear B2 ha hb hc
 go_wp2
 refine bodyPost_ret (v := .bool true) ?_ rfl ⟨_, rfl, E.below, rfl⟩
 simp [results, Try.results25, go_sem]

set_option maxRecDepth 100000 in
set_option maxHeartbeats 4000000 in
theorem zM3 {w : World} {v : Value} {a b c : Int} (h : (Fq.st [.n a, .n b, .n c]).P v w) (ha : ab a < pw 15) (hb : ab b < pw 15) (hc : ab c < pw 15) (hdf : dfB a b c = true) (hx : ¬ a < (Int.natAbs b : Int)) (hy : a ≤ c) (k0 : (Int.natAbs b : Int) = a) (k1 : ¬ a = c) (k2 : ¬ 0 ≤ b) {t : Bool} (ht : (dfB a b c && redB a b c) = t) :
  Calls Try.prog 25 #[v] w fun e w' => ∃ v', e = .returned v' ∧ Below w.heap.size w w' ∧ v' = .bool t := by
 replace ha := hidd ha
 replace hb := hidd hb
 replace hc := hidd hc
 have ht2 : t = false := ht.symm.trans (by rw [hdf, Bool.true_and]; unfold redB; exact decide_eq_false (by omega))
 subst ht2
 clear ht
 have HD := hidd hdf
 clear hdf
 have T1 : Hid (¬ 0 < cmpI (Int.natAbs b : Int) a) := fun e => by have := cmpIqgt.1 e; omega
 have T2 : Hid (¬ 0 < cmpI a c) := fun e => by have := cmpIqgt.1 e; omega
 have T3 : Hid (cmpI (Int.natAbs b : Int) a = 0) := cmpIq0.2 k0
 have T4 : Hid (¬ cmpI a c = 0) := fun e => k1 (cmpIq0.1 e)
 have T5 : Hid (¬ 0 ≤ cmpI b 0) := by have := cmpIqlt.2 (show b < 0 by omega); show ¬ _ ≤ _; omega
 clear k0 k1 k2
 clear hx hy
 obtain ⟨_, rfl, hf0⟩ := h
 have hF0 := hf0
 obtain ⟨y0_p0, y0_q0, _, rfl, _y0_n0, y0_p1, y0_q1, _, rfl, _y0_n1, y0_p2, y0_q2, _, rfl, _y0_n2, rfl⟩ := hf0
 obtain ⟨w1, b1, hw1, hb1, hs1, E⟩ := gS w 33 hF0
 go_enter Try.func25, Try.ntmps25
 go_upto_region 1 with (fail)
 rw [← hw1]
 rw [← hb1]
 clear hw1 hb1 hs1
 have B2 : Hid (ab ((Int.natAbs b : Int)) < pw 15) := zBl hb.out
 refine rg [Fq.st [.n a, .n b, .n c], yT, yF, yF, ip b1 2, Fq.num b, Fq.num (Int.natAbs b : Int), ip b1 0, Fq.num a, Fq.is (.int .i64 (cmpI (Int.natAbs b : Int) a)), yF, yF, yF, ip b1 0, Fq.num a, ip b1 4, Fq.num c, Fq.is (.int .i64 (cmpI a c)), yF, yF] [none] [] E (fun hp => ⟨?_, ?_, ?_, ?_, ?_, ?_, ?_, ?_, ?_, ?_, ?_, ?_, ?_, ?_, ?_, ?_, ?_, ?_, ?_, ?_, tv⟩) ?_
 ·exact lS 0 6 hp (mq 0 rfl) zAn (sqo 1)
 ·exact wXa (Fq.st [.n a, .n b, .n c]) hp zC2 (sqi 0) fun v w h => zC3 h ha.out hb.out hc.out HD.out
 ·exact zAf (F := fun v _ => v = .bool true) hp fo tv (sqi 1) (fun ρ w _ h => ⟨.bool false, by simp [execOp, go_sem, h], rfl⟩)
 ·exact zAc hp fo tv (sqi 2)
 ·exact zAl (b := b1) (off := 0) (off' := 2) hp fo gqi (sqo 1) (fun ρ w h => by simp [execOp, go_sem, h]) (fun _ => rfl)
 ·exact lG 2 2 hp gqi (mq 0 rfl) zAb (sqi 4) fun v w h => zAk h
 ·exact zAm (F := (Fq.num b).P) hp fo gqi (zB0) (sqi 5) (fun v w h => exK (zBs h) B2.out (by omega))
 ·exact zAl (b := b1) (off := 0) (off' := 0) hp fo gqi (sqo 1) (fun ρ w h => by simp [execOp, go_sem, h]) (fun _ => rfl)
 ·exact lG 0 2 hp gqi (mq 0 rfl) zAb (sqi 7) fun v w h => zAk h
 ·exact zAv (F := (Fq.num (Int.natAbs b : Int)).P) (G := (Fq.num a).P) hp fo gqi (zA2) (sqi 6) (sqi 8) (fun v v' w h h' => zA3 h h')
 ·exact zAf (F := fun v _ => v = .int .i64 (cmpI (Int.natAbs b : Int) a)) hp fo gqi (sqi 9) (fun ρ w hc h => ⟨.bool false, by simp [execOp, go_sem, h, hc, T1.out], rfl⟩)
 ·exact zAg (F := fun v _ => v = .bool false) (G := fun v _ => v = .bool false) hp fo tv (sqi 3) (sqi 10) (fun ρ w hc h h' => ⟨_, by simp [execOp, go_sem, h, h'], rfl⟩)
 ·exact zAc hp fo tv (sqi 11)
 ·exact zAl (b := b1) (off := 0) (off' := 0) hp fo gqi (sqo 1) (fun ρ w h => by simp [execOp, go_sem, h]) (fun _ => rfl)
 ·exact lG 0 2 hp gqi (mq 0 rfl) zAb (sqi 13) fun v w h => zAk h
 ·exact zAl (b := b1) (off := 0) (off' := 4) hp fo gqi (sqo 1) (fun ρ w h => by simp [execOp, go_sem, h]) (fun _ => rfl)
 ·exact lG 4 2 hp gqi (mq 0 rfl) zAb (sqi 15) fun v w h => zAk h
 ·exact zAv (F := (Fq.num a).P) (G := (Fq.num c).P) hp fo gqi (zA2) (sqi 14) (sqi 16) (fun v v' w h h' => zA3 h h')
 ·exact zAf (F := fun v _ => v = .int .i64 (cmpI a c)) hp fo gqi (sqi 17) (fun ρ w hc h => ⟨.bool false, by simp [execOp, go_sem, h, hc, T2.out], rfl⟩)
 ·exact zAg (F := fun v _ => v = .bool false) (G := fun v _ => v = .bool false) hp fo tv (sqi 12) (sqi 18) (fun ρ w hc h h' => ⟨_, by simp [execOp, go_sem, h, h'], rfl⟩)
 intro L vs w3 nb hL hC hn E3
 have e1 := wXi hC 1
 have e2 := wXi hC 2
 have e3 := wXi hC 3
 have e4 := wXi hC 4
 have e7 := wXi hC 7
 have e9 := wXi hC 9
 have e10 := wXi hC 10
 have e11 := wXi hC 11
 have e12 := wXi hC 12
 have e13 := wXi hC 13
 have e15 := wXi hC 15
 have e17 := wXi hC 17
 have e18 := wXi hC 18
 have e19 := wXi hC 19
 have E := E3; try simp only [LM, zAd] at E
 rw [zAe hL]
 simp only [SP, Nat.zero_add, Nat.reduceAdd]
 rw [e1, e2, e3, e4, e7, e9, e10, e11, e12, e13, e15, e17, e18, e19]
 generalize vs 0 = u3_0
 generalize vs 5 = u3_5
 generalize vs 6 = u3_6
 generalize vs 8 = u3_8
 generalize vs 14 = u3_14
 generalize vs 16 = u3_16
 clear e1 e2 e3 e4 e7 e9 e10 e11 e12 e13 e15 e17 e18 e19 hC hn E3 hL vs L nb
 go_upto_region 3 with (fail)
 refine rg [ip b1 2, Fq.num b, Fq.num (Int.natAbs b : Int), ip b1 0, Fq.num a, Fq.is (.int .i64 (cmpI (Int.natAbs b : Int) a)), yT, yT, Fq.is (undef), Fq.is (undef), Fq.is (undef), Fq.is (undef), Fq.is (undef), Fq.is (undef), yT, yT] [none] [] E (fun hp => ⟨?_, ?_, ?_, ?_, ?_, ?_, ?_, ?_, ?_, ?_, ?_, ?_, ?_, ?_, ?_, ?_, tv⟩) ?_
 ·exact qa b1 0 2 hp (sqo 1)
 ·exact lN 2 2 hp (mq 0 rfl) zAb (sqi 0)
 ·exact wXa (Fq.num b) hp zB0 (sqi 1) fun v w h => exK (zBs h) B2.out (by omega)
 ·exact qa b1 0 0 hp (sqo 1)
 ·exact lN 0 2 hp (mq 0 rfl) zAb (sqi 3)
 ·exact wXb (Fq.num (Int.natAbs b : Int)) (Fq.num a) hp zA2 (sqi 2) (sqi 4) fun v v' w h h' => zA3 h h'
 ·exact zAf (F := fun v _ => v = .int .i64 (cmpI (Int.natAbs b : Int) a)) hp fo tv (sqi 5) (fun ρ w hc h => ⟨.bool true, by simp [execOp, go_sem, h, hc, T3.out], rfl⟩)
 ·exact zAc hp fo tv (sqi 6)
 ·exact zAh hp fo rfl gqi (fun _ => rfl)
 ·exact zAh hp fo rfl gqi (fun _ => rfl)
 ·exact zAh hp fo rfl gqi (fun _ => rfl)
 ·exact zAh hp fo rfl gqi (fun _ => rfl)
 ·exact zAh hp fo rfl gqi (fun _ => rfl)
 ·exact zAh hp fo rfl gqi (fun _ => rfl)
 ·exact zAg (F := fun v _ => v = .bool true) (G := fun v _ => v = .bool true) hp fo tv (sqi 7) (zAj (fun _ => rfl)) (fun ρ w hc h h' => ⟨_, by simp [execOp, go_sem, h, h'], rfl⟩)
 ·exact zAi hp fo tv (sqi 14)
 intro L vs w4 nb hL hC hn E4
 have e0 := wXi hC 0
 have e3 := wXi hC 3
 have e5 := wXi hC 5
 have e6 := wXi hC 6
 have e7 := wXi hC 7
 have e8 := wXi hC 8
 have e9 := wXi hC 9
 have e10 := wXi hC 10
 have e11 := wXi hC 11
 have e12 := wXi hC 12
 have e13 := wXi hC 13
 have e14 := wXi hC 14
 have e15 := wXi hC 15
 have E := E4; try simp only [LM, zAd] at E
 rw [zAe hL]
 simp only [SP, Nat.zero_add, Nat.reduceAdd]
 rw [e0, e3, e5, e6, e7, e8, e9, e10, e11, e12, e13, e14, e15]
 generalize vs 1 = u4_1
 generalize vs 2 = u4_2
 generalize vs 4 = u4_4
 clear e0 e3 e5 e6 e7 e8 e9 e10 e11 e12 e13 e14 e15 hC hn E4 hL vs L nb
 go_upto_region 4 with (fail)
 refine rg [yT, yF, yF, ip b1 2, Fq.num b, Fq.is (.int .i64 (cmpI b 0)), yF, yF, yF] [none] [] E (fun hp => ⟨?_, ?_, ?_, ?_, ?_, ?_, ?_, ?_, ?_, tv⟩) ?_
 ·exact zAc hp fo tv (sqo 3)
 ·exact zAf (F := fun v _ => v = .bool true) hp fo tv (sqi 0) (fun ρ w _ h => ⟨.bool false, by simp [execOp, go_sem, h], rfl⟩)
 ·exact zAc hp fo tv (sqi 1)
 ·exact zAl (b := b1) (off := 0) (off' := 2) hp fo gqi (sqo 1) (fun ρ w h => by simp [execOp, go_sem, h]) (fun _ => rfl)
 ·exact lG 2 2 hp gqi (mq 0 rfl) zAb (sqi 3) fun v w h => zAk h
 ·exact zAm (F := (Fq.num b).P) hp fo gqi (zBv) (sqi 4) (fun v w h => zBw h)
 ·exact zAf (F := fun v _ => v = .int .i64 (cmpI b 0)) hp fo gqi (sqi 5) (fun ρ w hc h => ⟨.bool false, by simp [execOp, go_sem, h, hc, T5.out], rfl⟩)
 ·exact zAg (F := fun v _ => v = .bool false) (G := fun v _ => v = .bool false) hp fo tv (sqi 2) (sqi 6) (fun ρ w hc h h' => ⟨_, by simp [execOp, go_sem, h, h'], rfl⟩)
 ·exact zAi hp fo tv (sqi 7)
 intro L vs w5 nb hL hC hn E5
 have e0 := wXi hC 0
 have e1 := wXi hC 1
 have e2 := wXi hC 2
 have e3 := wXi hC 3
 have e5 := wXi hC 5
 have e6 := wXi hC 6
 have e7 := wXi hC 7
 have e8 := wXi hC 8
 have E := E5; try simp only [LM, zAd] at E
 rw [zAe hL]
 simp only [SP, Nat.zero_add, Nat.reduceAdd]
 rw [e0, e1, e2, e3, e5, e6, e7, e8]
 generalize vs 4 = u5_4
 clear e0 e1 e2 e3 e5 e6 e7 e8 hC hn E5 hL vs L nb
 clear HD T1 T2 T3 T4 T5
 clear B2 ha hb hc
 go_wp2
 refine bodyPost_ret (v := .bool false) ?_ rfl ⟨_, rfl, E.below, rfl⟩
 simp [results, Try.results25, go_sem]

set_option maxRecDepth 100000 in
set_option maxHeartbeats 4000000 in
theorem zM4 {w : World} {v : Value} {a b c : Int} (h : (Fq.st [.n a, .n b, .n c]).P v w) (ha : ab a < pw 15) (hb : ab b < pw 15) (hc : ab c < pw 15) (hdf : dfB a b c = true) (hx : ¬ a < (Int.natAbs b : Int)) (hy : a ≤ c) (k0 : (Int.natAbs b : Int) = a) (k1 : ¬ a = c) (k2 : 0 ≤ b) {t : Bool} (ht : (dfB a b c && redB a b c) = t) :
  Calls Try.prog 25 #[v] w fun e w' => ∃ v', e = .returned v' ∧ Below w.heap.size w w' ∧ v' = .bool t := by
 replace ha := hidd ha
 replace hb := hidd hb
 replace hc := hidd hc
 have ht2 : t = true := ht.symm.trans (by rw [hdf, Bool.true_and]; unfold redB; exact decide_eq_true (by omega))
 subst ht2
 clear ht
 have HD := hidd hdf
 clear hdf
 have T1 : Hid (¬ 0 < cmpI (Int.natAbs b : Int) a) := fun e => by have := cmpIqgt.1 e; omega
 have T2 : Hid (¬ 0 < cmpI a c) := fun e => by have := cmpIqgt.1 e; omega
 have T3 : Hid (cmpI (Int.natAbs b : Int) a = 0) := cmpIq0.2 k0
 have T4 : Hid (¬ cmpI a c = 0) := fun e => k1 (cmpIq0.1 e)
 have T5 : Hid (0 ≤ cmpI b 0) := by have := mt cmpIqlt.1 (show ¬ b < 0 by omega); show _ ≤ _; omega
 clear k0 k1 k2
 clear hx hy
 obtain ⟨_, rfl, hf0⟩ := h
 have hF0 := hf0
 obtain ⟨y0_p0, y0_q0, _, rfl, _y0_n0, y0_p1, y0_q1, _, rfl, _y0_n1, y0_p2, y0_q2, _, rfl, _y0_n2, rfl⟩ := hf0
 obtain ⟨w1, b1, hw1, hb1, hs1, E⟩ := gS w 33 hF0
 go_enter Try.func25, Try.ntmps25
 go_upto_region 1 with (fail)
 rw [← hw1]
 rw [← hb1]
 clear hw1 hb1 hs1
 have B2 : Hid (ab ((Int.natAbs b : Int)) < pw 15) := zBl hb.out
 refine rg [Fq.st [.n a, .n b, .n c], yT, yF, yF, ip b1 2, Fq.num b, Fq.num (Int.natAbs b : Int), ip b1 0, Fq.num a, Fq.is (.int .i64 (cmpI (Int.natAbs b : Int) a)), yF, yF, yF, ip b1 0, Fq.num a, ip b1 4, Fq.num c, Fq.is (.int .i64 (cmpI a c)), yF, yF] [none] [] E (fun hp => ⟨?_, ?_, ?_, ?_, ?_, ?_, ?_, ?_, ?_, ?_, ?_, ?_, ?_, ?_, ?_, ?_, ?_, ?_, ?_, ?_, tv⟩) ?_
 ·exact lS 0 6 hp (mq 0 rfl) zAn (sqo 1)
 ·exact wXa (Fq.st [.n a, .n b, .n c]) hp zC2 (sqi 0) fun v w h => zC3 h ha.out hb.out hc.out HD.out
 ·exact zAf (F := fun v _ => v = .bool true) hp fo tv (sqi 1) (fun ρ w _ h => ⟨.bool false, by simp [execOp, go_sem, h], rfl⟩)
 ·exact zAc hp fo tv (sqi 2)
 ·exact zAl (b := b1) (off := 0) (off' := 2) hp fo gqi (sqo 1) (fun ρ w h => by simp [execOp, go_sem, h]) (fun _ => rfl)
 ·exact lG 2 2 hp gqi (mq 0 rfl) zAb (sqi 4) fun v w h => zAk h
 ·exact zAm (F := (Fq.num b).P) hp fo gqi (zB0) (sqi 5) (fun v w h => exK (zBs h) B2.out (by omega))
 ·exact zAl (b := b1) (off := 0) (off' := 0) hp fo gqi (sqo 1) (fun ρ w h => by simp [execOp, go_sem, h]) (fun _ => rfl)
 ·exact lG 0 2 hp gqi (mq 0 rfl) zAb (sqi 7) fun v w h => zAk h
 ·exact zAv (F := (Fq.num (Int.natAbs b : Int)).P) (G := (Fq.num a).P) hp fo gqi (zA2) (sqi 6) (sqi 8) (fun v v' w h h' => zA3 h h')
 ·exact zAf (F := fun v _ => v = .int .i64 (cmpI (Int.natAbs b : Int) a)) hp fo gqi (sqi 9) (fun ρ w hc h => ⟨.bool false, by simp [execOp, go_sem, h, hc, T1.out], rfl⟩)
 ·exact zAg (F := fun v _ => v = .bool false) (G := fun v _ => v = .bool false) hp fo tv (sqi 3) (sqi 10) (fun ρ w hc h h' => ⟨_, by simp [execOp, go_sem, h, h'], rfl⟩)
 ·exact zAc hp fo tv (sqi 11)
 ·exact zAl (b := b1) (off := 0) (off' := 0) hp fo gqi (sqo 1) (fun ρ w h => by simp [execOp, go_sem, h]) (fun _ => rfl)
 ·exact lG 0 2 hp gqi (mq 0 rfl) zAb (sqi 13) fun v w h => zAk h
 ·exact zAl (b := b1) (off := 0) (off' := 4) hp fo gqi (sqo 1) (fun ρ w h => by simp [execOp, go_sem, h]) (fun _ => rfl)
 ·exact lG 4 2 hp gqi (mq 0 rfl) zAb (sqi 15) fun v w h => zAk h
 ·exact zAv (F := (Fq.num a).P) (G := (Fq.num c).P) hp fo gqi (zA2) (sqi 14) (sqi 16) (fun v v' w h h' => zA3 h h')
 ·exact zAf (F := fun v _ => v = .int .i64 (cmpI a c)) hp fo gqi (sqi 17) (fun ρ w hc h => ⟨.bool false, by simp [execOp, go_sem, h, hc, T2.out], rfl⟩)
 ·exact zAg (F := fun v _ => v = .bool false) (G := fun v _ => v = .bool false) hp fo tv (sqi 12) (sqi 18) (fun ρ w hc h h' => ⟨_, by simp [execOp, go_sem, h, h'], rfl⟩)
 intro L vs w3 nb hL hC hn E3
 have e1 := wXi hC 1
 have e2 := wXi hC 2
 have e3 := wXi hC 3
 have e4 := wXi hC 4
 have e7 := wXi hC 7
 have e9 := wXi hC 9
 have e10 := wXi hC 10
 have e11 := wXi hC 11
 have e12 := wXi hC 12
 have e13 := wXi hC 13
 have e15 := wXi hC 15
 have e17 := wXi hC 17
 have e18 := wXi hC 18
 have e19 := wXi hC 19
 have E := E3; try simp only [LM, zAd] at E
 rw [zAe hL]
 simp only [SP, Nat.zero_add, Nat.reduceAdd]
 rw [e1, e2, e3, e4, e7, e9, e10, e11, e12, e13, e15, e17, e18, e19]
 generalize vs 0 = u3_0
 generalize vs 5 = u3_5
 generalize vs 6 = u3_6
 generalize vs 8 = u3_8
 generalize vs 14 = u3_14
 generalize vs 16 = u3_16
 clear e1 e2 e3 e4 e7 e9 e10 e11 e12 e13 e15 e17 e18 e19 hC hn E3 hL vs L nb
 go_upto_region 3 with (fail)
 refine rg [ip b1 2, Fq.num b, Fq.num (Int.natAbs b : Int), ip b1 0, Fq.num a, Fq.is (.int .i64 (cmpI (Int.natAbs b : Int) a)), yT, yT, Fq.is (undef), Fq.is (undef), Fq.is (undef), Fq.is (undef), Fq.is (undef), Fq.is (undef), yT, yT] [none] [] E (fun hp => ⟨?_, ?_, ?_, ?_, ?_, ?_, ?_, ?_, ?_, ?_, ?_, ?_, ?_, ?_, ?_, ?_, tv⟩) ?_
 ·exact qa b1 0 2 hp (sqo 1)
 ·exact lN 2 2 hp (mq 0 rfl) zAb (sqi 0)
 ·exact wXa (Fq.num b) hp zB0 (sqi 1) fun v w h => exK (zBs h) B2.out (by omega)
 ·exact qa b1 0 0 hp (sqo 1)
 ·exact lN 0 2 hp (mq 0 rfl) zAb (sqi 3)
 ·exact wXb (Fq.num (Int.natAbs b : Int)) (Fq.num a) hp zA2 (sqi 2) (sqi 4) fun v v' w h h' => zA3 h h'
 ·exact zAf (F := fun v _ => v = .int .i64 (cmpI (Int.natAbs b : Int) a)) hp fo tv (sqi 5) (fun ρ w hc h => ⟨.bool true, by simp [execOp, go_sem, h, hc, T3.out], rfl⟩)
 ·exact zAc hp fo tv (sqi 6)
 ·exact zAh hp fo rfl gqi (fun _ => rfl)
 ·exact zAh hp fo rfl gqi (fun _ => rfl)
 ·exact zAh hp fo rfl gqi (fun _ => rfl)
 ·exact zAh hp fo rfl gqi (fun _ => rfl)
 ·exact zAh hp fo rfl gqi (fun _ => rfl)
 ·exact zAh hp fo rfl gqi (fun _ => rfl)
 ·exact zAg (F := fun v _ => v = .bool true) (G := fun v _ => v = .bool true) hp fo tv (sqi 7) (zAj (fun _ => rfl)) (fun ρ w hc h h' => ⟨_, by simp [execOp, go_sem, h, h'], rfl⟩)
 ·exact zAi hp fo tv (sqi 14)
 intro L vs w4 nb hL hC hn E4
 have e0 := wXi hC 0
 have e3 := wXi hC 3
 have e5 := wXi hC 5
 have e6 := wXi hC 6
 have e7 := wXi hC 7
 have e8 := wXi hC 8
 have e9 := wXi hC 9
 have e10 := wXi hC 10
 have e11 := wXi hC 11
 have e12 := wXi hC 12
 have e13 := wXi hC 13
 have e14 := wXi hC 14
 have e15 := wXi hC 15
 have E := E4; try simp only [LM, zAd] at E
 rw [zAe hL]
 simp only [SP, Nat.zero_add, Nat.reduceAdd]
 rw [e0, e3, e5, e6, e7, e8, e9, e10, e11, e12, e13, e14, e15]
 generalize vs 1 = u4_1
 generalize vs 2 = u4_2
 generalize vs 4 = u4_4
 clear e0 e3 e5 e6 e7 e8 e9 e10 e11 e12 e13 e14 e15 hC hn E4 hL vs L nb
 go_upto_region 4 with (fail)
 refine rg [yT, yF, yF, ip b1 2, Fq.num b, Fq.is (.int .i64 (cmpI b 0)), yT, yT, yT] [none] [] E (fun hp => ⟨?_, ?_, ?_, ?_, ?_, ?_, ?_, ?_, ?_, tv⟩) ?_
 ·exact zAc hp fo tv (sqo 3)
 ·exact zAf (F := fun v _ => v = .bool true) hp fo tv (sqi 0) (fun ρ w _ h => ⟨.bool false, by simp [execOp, go_sem, h], rfl⟩)
 ·exact zAc hp fo tv (sqi 1)
 ·exact zAl (b := b1) (off := 0) (off' := 2) hp fo gqi (sqo 1) (fun ρ w h => by simp [execOp, go_sem, h]) (fun _ => rfl)
 ·exact lG 2 2 hp gqi (mq 0 rfl) zAb (sqi 3) fun v w h => zAk h
 ·exact zAm (F := (Fq.num b).P) hp fo gqi (zBv) (sqi 4) (fun v w h => zBw h)
 ·exact zAf (F := fun v _ => v = .int .i64 (cmpI b 0)) hp fo gqi (sqi 5) (fun ρ w hc h => ⟨.bool true, by simp [execOp, go_sem, h, hc, T5.out], rfl⟩)
 ·exact zAg (F := fun v _ => v = .bool false) (G := fun v _ => v = .bool true) hp fo tv (sqi 2) (sqi 6) (fun ρ w hc h h' => ⟨_, by simp [execOp, go_sem, h, h'], rfl⟩)
 ·exact zAi hp fo tv (sqi 7)
 intro L vs w5 nb hL hC hn E5
 have e0 := wXi hC 0
 have e1 := wXi hC 1
 have e2 := wXi hC 2
 have e3 := wXi hC 3
 have e5 := wXi hC 5
 have e6 := wXi hC 6
 have e7 := wXi hC 7
 have e8 := wXi hC 8
 have E := E5; try simp only [LM, zAd] at E
 rw [zAe hL]
 simp only [SP, Nat.zero_add, Nat.reduceAdd]
 rw [e0, e1, e2, e3, e5, e6, e7, e8]
 generalize vs 4 = u5_4
 clear e0 e1 e2 e3 e5 e6 e7 e8 hC hn E5 hL vs L nb
 clear HD T1 T2 T3 T4 T5
 clear B2 ha hb hc
 go_wp2
 refine bodyPost_ret (v := .bool true) ?_ rfl ⟨_, rfl, E.below, rfl⟩
 simp [results, Try.results25, go_sem]

set_option maxRecDepth 100000 in
set_option maxHeartbeats 4000000 in
theorem zM5 {w : World} {v : Value} {a b c : Int} (h : (Fq.st [.n a, .n b, .n c]).P v w) (ha : ab a < pw 15) (hb : ab b < pw 15) (hc : ab c < pw 15) (hdf : dfB a b c = true) (hx : ¬ a < (Int.natAbs b : Int)) (hy : a ≤ c) (k0 : (Int.natAbs b : Int) = a) (k1 : a = c) (k2 : ¬ 0 ≤ b) {t : Bool} (ht : (dfB a b c && redB a b c) = t) :
  Calls Try.prog 25 #[v] w fun e w' => ∃ v', e = .returned v' ∧ Below w.heap.size w w' ∧ v' = .bool t := by
 replace ha := hidd ha
 replace hb := hidd hb
 replace hc := hidd hc
 have ht2 : t = false := ht.symm.trans (by rw [hdf, Bool.true_and]; unfold redB; exact decide_eq_false (by omega))
 subst ht2
 clear ht
 have HD := hidd hdf
 clear hdf
 have T1 : Hid (¬ 0 < cmpI (Int.natAbs b : Int) a) := fun e => by have := cmpIqgt.1 e; omega
 have T2 : Hid (¬ 0 < cmpI a c) := fun e => by have := cmpIqgt.1 e; omega
 have T3 : Hid (cmpI (Int.natAbs b : Int) a = 0) := cmpIq0.2 k0
 have T4 : Hid (cmpI a c = 0) := cmpIq0.2 k1
 have T5 : Hid (¬ 0 ≤ cmpI b 0) := by have := cmpIqlt.2 (show b < 0 by omega); show ¬ _ ≤ _; omega
 clear k0 k1 k2
 clear hx hy
 obtain ⟨_, rfl, hf0⟩ := h
 have hF0 := hf0
 obtain ⟨y0_p0, y0_q0, _, rfl, _y0_n0, y0_p1, y0_q1, _, rfl, _y0_n1, y0_p2, y0_q2, _, rfl, _y0_n2, rfl⟩ := hf0
 obtain ⟨w1, b1, hw1, hb1, hs1, E⟩ := gS w 33 hF0
 go_enter Try.func25, Try.ntmps25
 go_upto_region 1 with (fail)
 rw [← hw1]
 rw [← hb1]
 clear hw1 hb1 hs1
 have B2 : Hid (ab ((Int.natAbs b : Int)) < pw 15) := zBl hb.out
 refine rg [Fq.st [.n a, .n b, .n c], yT, yF, yF, ip b1 2, Fq.num b, Fq.num (Int.natAbs b : Int), ip b1 0, Fq.num a, Fq.is (.int .i64 (cmpI (Int.natAbs b : Int) a)), yF, yF, yF, ip b1 0, Fq.num a, ip b1 4, Fq.num c, Fq.is (.int .i64 (cmpI a c)), yF, yF] [none] [] E (fun hp => ⟨?_, ?_, ?_, ?_, ?_, ?_, ?_, ?_, ?_, ?_, ?_, ?_, ?_, ?_, ?_, ?_, ?_, ?_, ?_, ?_, tv⟩) ?_
 ·exact lS 0 6 hp (mq 0 rfl) zAn (sqo 1)
 ·exact wXa (Fq.st [.n a, .n b, .n c]) hp zC2 (sqi 0) fun v w h => zC3 h ha.out hb.out hc.out HD.out
 ·exact zAf (F := fun v _ => v = .bool true) hp fo tv (sqi 1) (fun ρ w _ h => ⟨.bool false, by simp [execOp, go_sem, h], rfl⟩)
 ·exact zAc hp fo tv (sqi 2)
 ·exact zAl (b := b1) (off := 0) (off' := 2) hp fo gqi (sqo 1) (fun ρ w h => by simp [execOp, go_sem, h]) (fun _ => rfl)
 ·exact lG 2 2 hp gqi (mq 0 rfl) zAb (sqi 4) fun v w h => zAk h
 ·exact zAm (F := (Fq.num b).P) hp fo gqi (zB0) (sqi 5) (fun v w h => exK (zBs h) B2.out (by omega))
 ·exact zAl (b := b1) (off := 0) (off' := 0) hp fo gqi (sqo 1) (fun ρ w h => by simp [execOp, go_sem, h]) (fun _ => rfl)
 ·exact lG 0 2 hp gqi (mq 0 rfl) zAb (sqi 7) fun v w h => zAk h
 ·exact zAv (F := (Fq.num (Int.natAbs b : Int)).P) (G := (Fq.num a).P) hp fo gqi (zA2) (sqi 6) (sqi 8) (fun v v' w h h' => zA3 h h')
 ·exact zAf (F := fun v _ => v = .int .i64 (cmpI (Int.natAbs b : Int) a)) hp fo gqi (sqi 9) (fun ρ w hc h => ⟨.bool false, by simp [execOp, go_sem, h, hc, T1.out], rfl⟩)
 ·exact zAg (F := fun v _ => v = .bool false) (G := fun v _ => v = .bool false) hp fo tv (sqi 3) (sqi 10) (fun ρ w hc h h' => ⟨_, by simp [execOp, go_sem, h, h'], rfl⟩)
 ·exact zAc hp fo tv (sqi 11)
 ·exact zAl (b := b1) (off := 0) (off' := 0) hp fo gqi (sqo 1) (fun ρ w h => by simp [execOp, go_sem, h]) (fun _ => rfl)
 ·exact lG 0 2 hp gqi (mq 0 rfl) zAb (sqi 13) fun v w h => zAk h
 ·exact zAl (b := b1) (off := 0) (off' := 4) hp fo gqi (sqo 1) (fun ρ w h => by simp [execOp, go_sem, h]) (fun _ => rfl)
 ·exact lG 4 2 hp gqi (mq 0 rfl) zAb (sqi 15) fun v w h => zAk h
 ·exact zAv (F := (Fq.num a).P) (G := (Fq.num c).P) hp fo gqi (zA2) (sqi 14) (sqi 16) (fun v v' w h h' => zA3 h h')
 ·exact zAf (F := fun v _ => v = .int .i64 (cmpI a c)) hp fo gqi (sqi 17) (fun ρ w hc h => ⟨.bool false, by simp [execOp, go_sem, h, hc, T2.out], rfl⟩)
 ·exact zAg (F := fun v _ => v = .bool false) (G := fun v _ => v = .bool false) hp fo tv (sqi 12) (sqi 18) (fun ρ w hc h h' => ⟨_, by simp [execOp, go_sem, h, h'], rfl⟩)
 intro L vs w3 nb hL hC hn E3
 have e1 := wXi hC 1
 have e2 := wXi hC 2
 have e3 := wXi hC 3
 have e4 := wXi hC 4
 have e7 := wXi hC 7
 have e9 := wXi hC 9
 have e10 := wXi hC 10
 have e11 := wXi hC 11
 have e12 := wXi hC 12
 have e13 := wXi hC 13
 have e15 := wXi hC 15
 have e17 := wXi hC 17
 have e18 := wXi hC 18
 have e19 := wXi hC 19
 have E := E3; try simp only [LM, zAd] at E
 rw [zAe hL]
 simp only [SP, Nat.zero_add, Nat.reduceAdd]
 rw [e1, e2, e3, e4, e7, e9, e10, e11, e12, e13, e15, e17, e18, e19]
 generalize vs 0 = u3_0
 generalize vs 5 = u3_5
 generalize vs 6 = u3_6
 generalize vs 8 = u3_8
 generalize vs 14 = u3_14
 generalize vs 16 = u3_16
 clear e1 e2 e3 e4 e7 e9 e10 e11 e12 e13 e15 e17 e18 e19 hC hn E3 hL vs L nb
 go_upto_region 3 with (fail)
 refine rg [ip b1 2, Fq.num b, Fq.num (Int.natAbs b : Int), ip b1 0, Fq.num a, Fq.is (.int .i64 (cmpI (Int.natAbs b : Int) a)), yT, yT, Fq.is (undef), Fq.is (undef), Fq.is (undef), Fq.is (undef), Fq.is (undef), Fq.is (undef), yT, yT] [none] [] E (fun hp => ⟨?_, ?_, ?_, ?_, ?_, ?_, ?_, ?_, ?_, ?_, ?_, ?_, ?_, ?_, ?_, ?_, tv⟩) ?_
 ·exact qa b1 0 2 hp (sqo 1)
 ·exact lN 2 2 hp (mq 0 rfl) zAb (sqi 0)
 ·exact wXa (Fq.num b) hp zB0 (sqi 1) fun v w h => exK (zBs h) B2.out (by omega)
 ·exact qa b1 0 0 hp (sqo 1)
 ·exact lN 0 2 hp (mq 0 rfl) zAb (sqi 3)
 ·exact wXb (Fq.num (Int.natAbs b : Int)) (Fq.num a) hp zA2 (sqi 2) (sqi 4) fun v v' w h h' => zA3 h h'
 ·exact zAf (F := fun v _ => v = .int .i64 (cmpI (Int.natAbs b : Int) a)) hp fo tv (sqi 5) (fun ρ w hc h => ⟨.bool true, by simp [execOp, go_sem, h, hc, T3.out], rfl⟩)
 ·exact zAc hp fo tv (sqi 6)
 ·exact zAh hp fo rfl gqi (fun _ => rfl)
 ·exact zAh hp fo rfl gqi (fun _ => rfl)
 ·exact zAh hp fo rfl gqi (fun _ => rfl)
 ·exact zAh hp fo rfl gqi (fun _ => rfl)
 ·exact zAh hp fo rfl gqi (fun _ => rfl)
 ·exact zAh hp fo rfl gqi (fun _ => rfl)
 ·exact zAg (F := fun v _ => v = .bool true) (G := fun v _ => v = .bool true) hp fo tv (sqi 7) (zAj (fun _ => rfl)) (fun ρ w hc h h' => ⟨_, by simp [execOp, go_sem, h, h'], rfl⟩)
 ·exact zAi hp fo tv (sqi 14)
 intro L vs w4 nb hL hC hn E4
 have e0 := wXi hC 0
 have e3 := wXi hC 3
 have e5 := wXi hC 5
 have e6 := wXi hC 6
 have e7 := wXi hC 7
 have e8 := wXi hC 8
 have e9 := wXi hC 9
 have e10 := wXi hC 10
 have e11 := wXi hC 11
 have e12 := wXi hC 12
 have e13 := wXi hC 13
 have e14 := wXi hC 14
 have e15 := wXi hC 15
 have E := E4; try simp only [LM, zAd] at E
 rw [zAe hL]
 simp only [SP, Nat.zero_add, Nat.reduceAdd]
 rw [e0, e3, e5, e6, e7, e8, e9, e10, e11, e12, e13, e14, e15]
 generalize vs 1 = u4_1
 generalize vs 2 = u4_2
 generalize vs 4 = u4_4
 clear e0 e3 e5 e6 e7 e8 e9 e10 e11 e12 e13 e14 e15 hC hn E4 hL vs L nb
 go_upto_region 4 with (fail)
 refine rg [yT, yF, yF, ip b1 2, Fq.num b, Fq.is (.int .i64 (cmpI b 0)), yF, yF, yF] [none] [] E (fun hp => ⟨?_, ?_, ?_, ?_, ?_, ?_, ?_, ?_, ?_, tv⟩) ?_
 ·exact zAc hp fo tv (sqo 3)
 ·exact zAf (F := fun v _ => v = .bool true) hp fo tv (sqi 0) (fun ρ w _ h => ⟨.bool false, by simp [execOp, go_sem, h], rfl⟩)
 ·exact zAc hp fo tv (sqi 1)
 ·exact zAl (b := b1) (off := 0) (off' := 2) hp fo gqi (sqo 1) (fun ρ w h => by simp [execOp, go_sem, h]) (fun _ => rfl)
 ·exact lG 2 2 hp gqi (mq 0 rfl) zAb (sqi 3) fun v w h => zAk h
 ·exact zAm (F := (Fq.num b).P) hp fo gqi (zBv) (sqi 4) (fun v w h => zBw h)
 ·exact zAf (F := fun v _ => v = .int .i64 (cmpI b 0)) hp fo gqi (sqi 5) (fun ρ w hc h => ⟨.bool false, by simp [execOp, go_sem, h, hc, T5.out], rfl⟩)
 ·exact zAg (F := fun v _ => v = .bool false) (G := fun v _ => v = .bool false) hp fo tv (sqi 2) (sqi 6) (fun ρ w hc h h' => ⟨_, by simp [execOp, go_sem, h, h'], rfl⟩)
 ·exact zAi hp fo tv (sqi 7)
 intro L vs w5 nb hL hC hn E5
 have e0 := wXi hC 0
 have e1 := wXi hC 1
 have e2 := wXi hC 2
 have e3 := wXi hC 3
 have e5 := wXi hC 5
 have e6 := wXi hC 6
 have e7 := wXi hC 7
 have e8 := wXi hC 8
 have E := E5; try simp only [LM, zAd] at E
 rw [zAe hL]
 simp only [SP, Nat.zero_add, Nat.reduceAdd]
 rw [e0, e1, e2, e3, e5, e6, e7, e8]
 generalize vs 4 = u5_4
 clear e0 e1 e2 e3 e5 e6 e7 e8 hC hn E5 hL vs L nb
 clear HD T1 T2 T3 T4 T5
 clear B2 ha hb hc
 go_wp2
 refine bodyPost_ret (v := .bool false) ?_ rfl ⟨_, rfl, E.below, rfl⟩
 simp [results, Try.results25, go_sem]

set_option maxRecDepth 100000 in
set_option maxHeartbeats 4000000 in
theorem zM6 {w : World} {v : Value} {a b c : Int} (h : (Fq.st [.n a, .n b, .n c]).P v w) (ha : ab a < pw 15) (hb : ab b < pw 15) (hc : ab c < pw 15) (hdf : dfB a b c = true) (hx : ¬ a < (Int.natAbs b : Int)) (hy : a ≤ c) (k0 : (Int.natAbs b : Int) = a) (k1 : a = c) (k2 : 0 ≤ b) {t : Bool} (ht : (dfB a b c && redB a b c) = t) :
  Calls Try.prog 25 #[v] w fun e w' => ∃ v', e = .returned v' ∧ Below w.heap.size w w' ∧ v' = .bool t := by
 replace ha := hidd ha
 replace hb := hidd hb
 replace hc := hidd hc
 have ht2 : t = true := ht.symm.trans (by rw [hdf, Bool.true_and]; unfold redB; exact decide_eq_true (by omega))
 subst ht2
 clear ht
 have HD := hidd hdf
 clear hdf
 have T1 : Hid (¬ 0 < cmpI (Int.natAbs b : Int) a) := fun e => by have := cmpIqgt.1 e; omega
 have T2 : Hid (¬ 0 < cmpI a c) := fun e => by have := cmpIqgt.1 e; omega
 have T3 : Hid (cmpI (Int.natAbs b : Int) a = 0) := cmpIq0.2 k0
 have T4 : Hid (cmpI a c = 0) := cmpIq0.2 k1
 have T5 : Hid (0 ≤ cmpI b 0) := by have := mt cmpIqlt.1 (show ¬ b < 0 by omega); show _ ≤ _; omega
 clear k0 k1 k2
 clear hx hy
 obtain ⟨_, rfl, hf0⟩ := h
 have hF0 := hf0
 obtain ⟨y0_p0, y0_q0, _, rfl, _y0_n0, y0_p1, y0_q1, _, rfl, _y0_n1, y0_p2, y0_q2, _, rfl, _y0_n2, rfl⟩ := hf0
 obtain ⟨w1, b1, hw1, hb1, hs1, E⟩ := gS w 33 hF0
 go_enter Try.func25, Try.ntmps25
 go_upto_region 1 with (fail)
 rw [← hw1]
 rw [← hb1]
 clear hw1 hb1 hs1
 have B2 : Hid (ab ((Int.natAbs b : Int)) < pw 15) := zBl hb.out
 refine rg [Fq.st [.n a, .n b, .n c], yT, yF, yF, ip b1 2, Fq.num b, Fq.num (Int.natAbs b : Int), ip b1 0, Fq.num a, Fq.is (.int .i64 (cmpI (Int.natAbs b : Int) a)), yF, yF, yF, ip b1 0, Fq.num a, ip b1 4, Fq.num c, Fq.is (.int .i64 (cmpI a c)), yF, yF] [none] [] E (fun hp => ⟨?_, ?_, ?_, ?_, ?_, ?_, ?_, ?_, ?_, ?_, ?_, ?_, ?_, ?_, ?_, ?_, ?_, ?_, ?_, ?_, tv⟩) ?_
 ·exact lS 0 6 hp (mq 0 rfl) zAn (sqo 1)
 ·exact wXa (Fq.st [.n a, .n b, .n c]) hp zC2 (sqi 0) fun v w h => zC3 h ha.out hb.out hc.out HD.out
 ·exact zAf (F := fun v _ => v = .bool true) hp fo tv (sqi 1) (fun ρ w _ h => ⟨.bool false, by simp [execOp, go_sem, h], rfl⟩)
 ·exact zAc hp fo tv (sqi 2)
 ·exact zAl (b := b1) (off := 0) (off' := 2) hp fo gqi (sqo 1) (fun ρ w h => by simp [execOp, go_sem, h]) (fun _ => rfl)
 ·exact lG 2 2 hp gqi (mq 0 rfl) zAb (sqi 4) fun v w h => zAk h
 ·exact zAm (F := (Fq.num b).P) hp fo gqi (zB0) (sqi 5) (fun v w h => exK (zBs h) B2.out (by omega))
 ·exact zAl (b := b1) (off := 0) (off' := 0) hp fo gqi (sqo 1) (fun ρ w h => by simp [execOp, go_sem, h]) (fun _ => rfl)
 ·exact lG 0 2 hp gqi (mq 0 rfl) zAb (sqi 7) fun v w h => zAk h
 ·exact zAv (F := (Fq.num (Int.natAbs b : Int)).P) (G := (Fq.num a).P) hp fo gqi (zA2) (sqi 6) (sqi 8) (fun v v' w h h' => zA3 h h')
 ·exact zAf (F := fun v _ => v = .int .i64 (cmpI (Int.natAbs b : Int) a)) hp fo gqi (sqi 9) (fun ρ w hc h => ⟨.bool false, by simp [execOp, go_sem, h, hc, T1.out], rfl⟩)
 ·exact zAg (F := fun v _ => v = .bool false) (G := fun v _ => v = .bool false) hp fo tv (sqi 3) (sqi 10) (fun ρ w hc h h' => ⟨_, by simp [execOp, go_sem, h, h'], rfl⟩)
 ·exact zAc hp fo tv (sqi 11)
 ·exact zAl (b := b1) (off := 0) (off' := 0) hp fo gqi (sqo 1) (fun ρ w h => by simp [execOp, go_sem, h]) (fun _ => rfl)
 ·exact lG 0 2 hp gqi (mq 0 rfl) zAb (sqi 13) fun v w h => zAk h
 ·exact zAl (b := b1) (off := 0) (off' := 4) hp fo gqi (sqo 1) (fun ρ w h => by simp [execOp, go_sem, h]) (fun _ => rfl)
 ·exact lG 4 2 hp gqi (mq 0 rfl) zAb (sqi 15) fun v w h => zAk h
 ·exact zAv (F := (Fq.num a).P) (G := (Fq.num c).P) hp fo gqi (zA2) (sqi 14) (sqi 16) (fun v v' w h h' => zA3 h h')
 ·exact zAf (F := fun v _ => v = .int .i64 (cmpI a c)) hp fo gqi (sqi 17) (fun ρ w hc h => ⟨.bool false, by simp [execOp, go_sem, h, hc, T2.out], rfl⟩)
 ·exact zAg (F := fun v _ => v = .bool false) (G := fun v _ => v = .bool false) hp fo tv (sqi 12) (sqi 18) (fun ρ w hc h h' => ⟨_, by simp [execOp, go_sem, h, h'], rfl⟩)
 intro L vs w3 nb hL hC hn E3
 have e1 := wXi hC 1
 have e2 := wXi hC 2
 have e3 := wXi hC 3
 have e4 := wXi hC 4
 have e7 := wXi hC 7
 have e9 := wXi hC 9
 have e10 := wXi hC 10
 have e11 := wXi hC 11
 have e12 := wXi hC 12
 have e13 := wXi hC 13
 have e15 := wXi hC 15
 have e17 := wXi hC 17
 have e18 := wXi hC 18
 have e19 := wXi hC 19
 have E := E3; try simp only [LM, zAd] at E
 rw [zAe hL]
 simp only [SP, Nat.zero_add, Nat.reduceAdd]
 rw [e1, e2, e3, e4, e7, e9, e10, e11, e12, e13, e15, e17, e18, e19]
 generalize vs 0 = u3_0
 generalize vs 5 = u3_5
 generalize vs 6 = u3_6
 generalize vs 8 = u3_8
 generalize vs 14 = u3_14
 generalize vs 16 = u3_16
 clear e1 e2 e3 e4 e7 e9 e10 e11 e12 e13 e15 e17 e18 e19 hC hn E3 hL vs L nb
 go_upto_region 3 with (fail)
 refine rg [ip b1 2, Fq.num b, Fq.num (Int.natAbs b : Int), ip b1 0, Fq.num a, Fq.is (.int .i64 (cmpI (Int.natAbs b : Int) a)), yT, yT, Fq.is (undef), Fq.is (undef), Fq.is (undef), Fq.is (undef), Fq.is (undef), Fq.is (undef), yT, yT] [none] [] E (fun hp => ⟨?_, ?_, ?_, ?_, ?_, ?_, ?_, ?_, ?_, ?_, ?_, ?_, ?_, ?_, ?_, ?_, tv⟩) ?_
 ·exact qa b1 0 2 hp (sqo 1)
 ·exact lN 2 2 hp (mq 0 rfl) zAb (sqi 0)
 ·exact wXa (Fq.num b) hp zB0 (sqi 1) fun v w h => exK (zBs h) B2.out (by omega)
 ·exact qa b1 0 0 hp (sqo 1)
 ·exact lN 0 2 hp (mq 0 rfl) zAb (sqi 3)
 ·exact wXb (Fq.num (Int.natAbs b : Int)) (Fq.num a) hp zA2 (sqi 2) (sqi 4) fun v v' w h h' => zA3 h h'
 ·exact zAf (F := fun v _ => v = .int .i64 (cmpI (Int.natAbs b : Int) a)) hp fo tv (sqi 5) (fun ρ w hc h => ⟨.bool true, by simp [execOp, go_sem, h, hc, T3.out], rfl⟩)
 ·exact zAc hp fo tv (sqi 6)
 ·exact zAh hp fo rfl gqi (fun _ => rfl)
 ·exact zAh hp fo rfl gqi (fun _ => rfl)
 ·exact zAh hp fo rfl gqi (fun _ => rfl)
 ·exact zAh hp fo rfl gqi (fun _ => rfl)
 ·exact zAh hp fo rfl gqi (fun _ => rfl)
 ·exact zAh hp fo rfl gqi (fun _ => rfl)
 ·exact zAg (F := fun v _ => v = .bool true) (G := fun v _ => v = .bool true) hp fo tv (sqi 7) (zAj (fun _ => rfl)) (fun ρ w hc h h' => ⟨_, by simp [execOp, go_sem, h, h'], rfl⟩)
 ·exact zAi hp fo tv (sqi 14)
 intro L vs w4 nb hL hC hn E4
 have e0 := wXi hC 0
 have e3 := wXi hC 3
 have e5 := wXi hC 5
 have e6 := wXi hC 6
 have e7 := wXi hC 7
 have e8 := wXi hC 8
 have e9 := wXi hC 9
 have e10 := wXi hC 10
 have e11 := wXi hC 11
 have e12 := wXi hC 12
 have e13 := wXi hC 13
 have e14 := wXi hC 14
 have e15 := wXi hC 15
 have E := E4; try simp only [LM, zAd] at E
 rw [zAe hL]
 simp only [SP, Nat.zero_add, Nat.reduceAdd]
 rw [e0, e3, e5, e6, e7, e8, e9, e10, e11, e12, e13, e14, e15]
 generalize vs 1 = u4_1
 generalize vs 2 = u4_2
 generalize vs 4 = u4_4
 clear e0 e3 e5 e6 e7 e8 e9 e10 e11 e12 e13 e14 e15 hC hn E4 hL vs L nb
 go_upto_region 4 with (fail)
 refine rg [yT, yF, yF, ip b1 2, Fq.num b, Fq.is (.int .i64 (cmpI b 0)), yT, yT, yT] [none] [] E (fun hp => ⟨?_, ?_, ?_, ?_, ?_, ?_, ?_, ?_, ?_, tv⟩) ?_
 ·exact zAc hp fo tv (sqo 3)
 ·exact zAf (F := fun v _ => v = .bool true) hp fo tv (sqi 0) (fun ρ w _ h => ⟨.bool false, by simp [execOp, go_sem, h], rfl⟩)
 ·exact zAc hp fo tv (sqi 1)
 ·exact zAl (b := b1) (off := 0) (off' := 2) hp fo gqi (sqo 1) (fun ρ w h => by simp [execOp, go_sem, h]) (fun _ => rfl)
 ·exact lG 2 2 hp gqi (mq 0 rfl) zAb (sqi 3) fun v w h => zAk h
 ·exact zAm (F := (Fq.num b).P) hp fo gqi (zBv) (sqi 4) (fun v w h => zBw h)
 ·exact zAf (F := fun v _ => v = .int .i64 (cmpI b 0)) hp fo gqi (sqi 5) (fun ρ w hc h => ⟨.bool true, by simp [execOp, go_sem, h, hc, T5.out], rfl⟩)
 ·exact zAg (F := fun v _ => v = .bool false) (G := fun v _ => v = .bool true) hp fo tv (sqi 2) (sqi 6) (fun ρ w hc h h' => ⟨_, by simp [execOp, go_sem, h, h'], rfl⟩)
 ·exact zAi hp fo tv (sqi 7)
 intro L vs w5 nb hL hC hn E5
 have e0 := wXi hC 0
 have e1 := wXi hC 1
 have e2 := wXi hC 2
 have e3 := wXi hC 3
 have e5 := wXi hC 5
 have e6 := wXi hC 6
 have e7 := wXi hC 7
 have e8 := wXi hC 8
 have E := E5; try simp only [LM, zAd] at E
 rw [zAe hL]
 simp only [SP, Nat.zero_add, Nat.reduceAdd]
 rw [e0, e1, e2, e3, e5, e6, e7, e8]
 generalize vs 4 = u5_4
 clear e0 e1 e2 e3 e5 e6 e7 e8 hC hn E5 hL vs L nb
 clear HD T1 T2 T3 T4 T5
 clear B2 ha hb hc
 go_wp2
 refine bodyPost_ret (v := .bool true) ?_ rfl ⟨_, rfl, E.below, rfl⟩
 simp [results, Try.results25, go_sem]

theorem zFa {w : World} {v : Value} {a b c : Int} (h : (Fq.st [.n a, .n b, .n c]).P v w) (ha : ab a < pw 15) (hb : ab b < pw 15) (hc : ab c < pw 15) {t : Bool} (ht : (dfB a b c && redB a b c) = t) :
  Calls Try.prog 25 #[v] w fun e w' => ∃ v', e = .returned v' ∧ Below w.heap.size w w' ∧ v' = .bool t := by
 cases hdf : dfB a b c with
 | false => exact exQRed_no h ha hb hc hdf ht
 | true =>
  by_cases hx : a < (Int.natAbs b : Int)
  ·exact exQRed_b h ha hb hc hdf hx ht
  by_cases hy : a ≤ c
  ·by_cases k0 : (Int.natAbs b : Int) = a <;> by_cases k1 : a = c <;> by_cases k2 : 0 ≤ b
   ·exact zM6 h ha hb hc hdf hx hy k0 k1 k2 ht
   ·exact zM5 h ha hb hc hdf hx hy k0 k1 k2 ht
   ·exact zM4 h ha hb hc hdf hx hy k0 k1 k2 ht
   ·exact zM3 h ha hb hc hdf hx hy k0 k1 k2 ht
   ·exact zM2 h ha hb hc hdf hx hy k0 k1 k2 ht
   ·exact zM1 h ha hb hc hdf hx hy k0 k1 k2 ht
   ·exact zM0 h ha hb hc hdf hx hy k0 k1 k2 ht
   ·exact zMz h ha hb hc hdf hx hy k0 k1 k2 ht
  ·exact exQRed_c h ha hb hc hdf hx hy ht

end Go.Proofs.Ytdhkhedhnolcjaa
