/- Ui, Uj, Ue, Uf, Uk, Ov, Ng, Nf, Ow, Ox, Om, Oj, Uq, Ul, Uo, Ux. -/
import Derived.Test.YtdhkhedhnolcjaaCf5
set_option linter.unusedSimpArgs false
set_option linter.unusedVariables false
namespace Go.Proofs.Ytdhkhedhnolcjaa
open Go Go.RowKit

theorem zJq (args : Array Value) (w : World) : (callFunc 89 args).run Try.prog w = .ok (.enter 89 args) w := zAq Try.func89 (by kernel_rfl) rfl args w
theorem zJr (args : Array Value) (w : World) : (callFunc 57 args).run Try.prog w = .ok (.enter 57 args) w := zAq Try.func57 (by kernel_rfl) rfl args w
theorem zMg (args : Array Value) (w : World) : (callFunc 59 args).run Try.prog w = .ok (.enter 59 args) w := zAq Try.func59 (by kernel_rfl) rfl args w
theorem zO2 : zCr 93 14 = true := by kernel_rfl
theorem zNy (w : World) : Fits w [.n 0, .n 0, .n 0, .n 0, .n 0, .n 0, .n 0] [.bool false, .slice none 0 0, .bool false, .slice none 0 0, .bool false, .slice none 0 0, .bool false, .slice none 0 0, .bool false, .slice none 0 0, .bool false, .slice none 0 0, .bool false, .slice none 0 0] := ⟨_, _, _, rfl, Num.zero w, _, _, _, rfl, Num.zero w, _, _, _, rfl, Num.zero w, _, _, _, rfl, Num.zero w, _, _, _, rfl, Num.zero w, _, _, _, rfl, Num.zero w, _, _, _, rfl, Num.zero w, rfl⟩
theorem zOo {d : Option Tmp} {ty : TypeId} {ps : String} {af : Array Edge} (ρ : Operand → Value) (w : World) : (execOp ρ { dst := d, op := .alloc 93, type := ty, pos := ps, after := af, guard := none }).run Try.prog w = .ok (.value (.pointer (some ⟨w.heap.size, 0, none⟩))) (w.alloc (.cells [.bool false, .slice none 0 0, .bool false, .slice none 0 0, .bool false, .slice none 0 0, .bool false, .slice none 0 0, .bool false, .slice none 0 0, .bool false, .slice none 0 0, .bool false, .slice none 0 0].toArray 93)) := by
 simp [execOp, go_sem]
theorem bq_pre {w : World} {b : Nat} {x y z p q r s : Int} (h : Bq w b 14 (Fq.st [.n x, .n y, .n z, .n p, .n q, .n r, .n s])) : Bq w b 6 (Fq.st [.n x, .n y, .n z]) := by
 obtain ⟨us, hl, _, hat, ht, us', e, hfit⟩ := h
 obtain rfl : us = us' := zEr e
 have hf := hfit.first (k := 6) (gs := [.n x, .n y, .n z]) rfl
 refine ⟨us.take 6, by rw [List.length_take]; omega, by decide, fun j hj => ?_, fun u hu => ht u (List.mem_of_mem_take hu), us.take 6, rfl, hf⟩
 rw [List.length_take] at hj
 have := hat j (by omega)
 rw [List.getD_eq_getElem?_getD, List.getElem?_take_of_lt (by omega), ← List.getD_eq_getElem?_getD]
 exact this
def RB (S : RS) : Prop := (ab S.fa < pw 5 ∧ ab S.fb < pw 5 ∧ ab S.fc < pw 15) ∧ ab S.x1 < pw 30 ∧ ab S.x2 < pw 30 ∧ ab S.x3 < pw 30 ∧ ab S.x4 < pw 30
theorem rsh_a (S : RS) : qv S.fa S.fb S.fc 1 0 = (rsh S).fa := (Und.shift S.fa S.fb S.fc S.kk).ea.symm
theorem rsh_b (S : RS) : qm S.fa S.fb S.fc 1 ((S.fa - S.fb) / (2 * S.fa)) 0 1 = (rsh S).fb := (Und.shift S.fa S.fb S.fc S.kk).eb.symm
theorem rsh_c (S : RS) : qv S.fa S.fb S.fc ((S.fa - S.fb) / (2 * S.fa)) 1 = (rsh S).fc := (Und.shift S.fa S.fb S.fc S.kk).ec.symm
theorem rsw_a (S : RS) : qv S.fa S.fb S.fc 0 1 = (rsw S).fa := (Und.swap S.fa S.fb S.fc).ea.symm
theorem rsw_b (S : RS) : qm S.fa S.fb S.fc 0 (-1) 1 0 = (rsw S).fb := (Und.swap S.fa S.fb S.fc).eb.symm
theorem rsw_c (S : RS) : qv S.fa S.fb S.fc (-1) 0 = (rsw S).fc := (Und.swap S.fa S.fb S.fc).ec.symm
def PIn (a b c : Int) (P : RS) : Prop := ∃ S, RAt a b c S ∧ P = rsh S ∧ RIn a b c S.x1 S.x2 S.x3 S.x4 S.fa S.fb S.fc
theorem zIu {S : RS} (h0 : 0 < S.fa) (hr : S.red = true) : rsh S = S := by
 have h := (zEc h0).1 hr
 have hk : S.kk = 0 := by
  unfold RS.kk
  refine Int.ediv_eq_zero_of_lt ?_ ?_
  ·have := h.hi; omega
  ·have := h.lo; omega
 unfold rsh
 rw [hk]
 simp
theorem PIn.start {a b c : Int} (h0 : 0 < a) (hb : ab b < pw 5) (hc : ab c < pw 5) : PIn a b c (rsh ⟨1, 0, 0, 1, a, b, c⟩) := ⟨_, RAt.zero a b c, rfl, RIn.one h0 hb hc⟩
theorem PIn.red {a b c : Int} {P : RS} (h : PIn a b c P) (hr : P.red = true) : zB7 a b c = P := by
 obtain ⟨S, hA, rfl, hI⟩ := h
 cases hs : S.red with
 | true => rw [zIu hI.p hs]; exact zIp hA hs
 | false =>
  have h2 := hA.next hs
  unfold zCe at h2
  rw [if_pos hr] at h2
  exact zIp h2 hr
theorem PIn.at {a b c : Int} {P : RS} (h : PIn a b c P) (ha : ab a < pw 5) (hb : ab b < pw 5) (hc : ab c < pw 5) (hd : b * b - 4 * (a * c) < 0) : RB P ∧ 0 < P.fa ∧ RIn a b c P.x1 P.x2 P.x3 P.x4 P.fa P.fb P.fc ∧ -P.fa < P.fb ∧ P.fb ≤ P.fa := by
 obtain ⟨S, _, rfl, hI⟩ := h
 obtain ⟨h1, h2, h3⟩ := hI.shift ha hb hc hd (kk := S.kk) rfl rfl rfl
 exact ⟨h1.bds ha hc hd, h1.p, h1, h2, h3⟩
theorem PIn.next {a b c : Int} {P : RS} (h : PIn a b c P) (ha : ab a < pw 5) (hb : ab b < pw 5) (hc : ab c < pw 5) (hd : b * b - 4 * (a * c) < 0) (hr : P.red = false) : PIn a b c (rsh (rsw P)) ∧ RB (rsw P) ∧ 0 < (rsw P).fa ∧ 2 * (rsh (rsw P)).fa.natAbs + (if redB (rsh (rsw P)).fa (rsh (rsw P)).fb (rsh (rsw P)).fc = true then 0 else 1) < 2 * P.fa.natAbs + 1 := by
 obtain ⟨_, hp, hI, hm1, hm2⟩ := h.at ha hb hc hd
 obtain ⟨S, hA, rfl, hIS⟩ := h
 have hs : S.red = false := by
  cases hs : S.red with
  | false => rfl
  | true => rw [zIu hIS.p hs, hs] at hr; cases hr
 have h2 := hA.next hs
 unfold zCe at h2
 rw [if_neg (by rw [hr]; decide)] at h2
 have hsw := zLl hp hm1 hm2 (fun e => by rw [show (rsh S).red = true from (zEc hp).2 e] at hr; cases hr)
 have hle : (rsh S).fc ≤ (rsh S).fa := by rcases hsw with h | h <;> omega
 have hI2 := RIn.swap (fa := (rsh S).fa) (fb := (rsh S).fb) (fc := (rsh S).fc) hI ha hc hd hle
 have hp2 : 0 < (rsw (rsh S)).fa := hI2.p
 refine ⟨⟨_, h2, rfl, hI2⟩, hI2.bds ha hc hd, hp2, ?_⟩
 have e : (rsh (rsw (rsh S))).fa = (rsh S).fc := rfl
 rcases hsw with hl | ⟨he, _, hrd⟩
 ·rw [e]
  have : (rsw (rsh S)).fa = (rsh S).fc := rfl
  split <;> omega
 ·have hr2 : (rsw (rsh S)).red = true := (zEc hp2).2 hrd
  have e2 : rsh (rsw (rsh S)) = rsw (rsh S) := zIu hp2 hr2
  rw [show redB (rsh (rsw (rsh S))).fa (rsh (rsw (rsh S))).fb (rsh (rsw (rsh S))).fc = true by rw [e2]; exact hr2, if_pos rfl, e, he]
  omega
theorem zE8 {a b c : Int} (hd : b * b - 4 * (a * c) < 0) (h0 : 0 < a) : redE a b c = 0 := by
 unfold redE
 rw [if_neg (fun x => by omega), zHi hd (by omega)]
theorem zG4 {a b c : Int} (h : redE a b c = 0) : b * b - 4 * (a * c) < 0 ∧ 0 < a := by
 have h1 := zIo a b c
 rw [h] at h1
 have h2 := of_decide_eq_true (h1.trans (decide_eq_true rfl))
 have h3 := zJ2 h2.1
 omega
section
variable {os : List Oper} {Q : Exit → Act → World → Prop} {a : Act} {p : Pq} {B B0 : Nat} {w0 : World}
variable {i s : Nat} {d : Option Tmp} {ty : TypeId} {ps : String} {af : Array Edge} {gd : Option (Nat × Bool)}
theorem zOf {x0 : Operand} {z0 : Int} {x1 : Operand} {z1 : Int} {x3 : Operand} {z3 : Int} (hp : p.Ok B B0) (hF : p.Free i) (hg : GdQ os a p B B0 w0 af gd) (h0 : SrcQ os a p B B0 w0 af x0 fun v w => Num w v z0) (h1 : SrcQ os a p B B0 w0 af x1 fun v w => Num w v z1) (h3 : SrcQ os a p B B0 w0 af x3 fun v w => Num w v z3) (hC : ∀ v w, (Fq.st [.n z0, .n z1, .n 0, .n z3]).P v w → (p.c i).P v w) :
  zAr os Q a p B B0 w0 i { dst := d, op := .build 36 #[(0, x0), (1, x1), (3, x3)], type := ty, pos := ps, after := af, guard := gd } := by
 refine zBr hp hF hg fun L vs w hG hL hc hd => ?_
 have g0 := h0 L vs w hG hd
 obtain ⟨n0, ao0, k0, c0, e0⟩ := g0.parts
 have m0 : Num w (.agg #[.bool n0, .slice ao0 k0 c0]) z0 := by rw [← e0]; exact g0
 have g1 := h1 L vs w hG hd
 obtain ⟨n1, ao1, k1, c1, e1⟩ := g1.parts
 have m1 : Num w (.agg #[.bool n1, .slice ao1 k1 c1]) z1 := by rw [← e1]; exact g1
 have g3 := h3 L vs w hG hd
 obtain ⟨n3, ao3, k3, c3, e3⟩ := g3.parts
 have m3 : Num w (.agg #[.bool n3, .slice ao3 k3 c3]) z3 := by rw [← e3]; exact g3
 refine ⟨.agg #[.bool n0, .slice ao0 k0 c0, .bool n1, .slice ao1 k1 c1, .bool false, .slice none 0 0, .bool n3, .slice ao3 k3 c3], ?_, hC _ _ ⟨_, rfl, _, _, _, rfl, m0, _, _, _, rfl, m1, _, _, _, rfl, Num.zero w, _, _, _, rfl, m3, rfl⟩⟩
 generalize (lay os.toArray L vs os.toArray.size a).eval = ρ at e0 e1 e3
 simp [execOp, go_sem, e0, e1, e3]
theorem zOg {x0 : Operand} {z0 : Int} {x3 : Operand} {z3 : Int} (hp : p.Ok B B0) (hF : p.Free i) (hg : GdQ os a p B B0 w0 af gd) (h0 : SrcQ os a p B B0 w0 af x0 fun v w => Num w v z0) (h3 : SrcQ os a p B B0 w0 af x3 fun v w => Num w v z3) (hC : ∀ v w, (Fq.st [.n z0, .n 0, .n 0, .n z3]).P v w → (p.c i).P v w) :
  zAr os Q a p B B0 w0 i { dst := d, op := .build 36 #[(0, x0), (3, x3)], type := ty, pos := ps, after := af, guard := gd } := by
 refine zBr hp hF hg fun L vs w hG hL hc hd => ?_
 have g0 := h0 L vs w hG hd
 obtain ⟨n0, ao0, k0, c0, e0⟩ := g0.parts
 have m0 : Num w (.agg #[.bool n0, .slice ao0 k0 c0]) z0 := by rw [← e0]; exact g0
 have g3 := h3 L vs w hG hd
 obtain ⟨n3, ao3, k3, c3, e3⟩ := g3.parts
 have m3 : Num w (.agg #[.bool n3, .slice ao3 k3 c3]) z3 := by rw [← e3]; exact g3
 refine ⟨.agg #[.bool n0, .slice ao0 k0 c0, .bool false, .slice none 0 0, .bool false, .slice none 0 0, .bool n3, .slice ao3 k3 c3], ?_, hC _ _ ⟨_, rfl, _, _, _, rfl, m0, _, _, _, rfl, Num.zero w, _, _, _, rfl, Num.zero w, _, _, _, rfl, m3, rfl⟩⟩
 generalize (lay os.toArray L vs os.toArray.size a).eval = ρ at e0 e3
 simp [execOp, go_sem, e0, e3]
theorem zOh {x1 : Operand} {z1 : Int} {x2 : Operand} {z2 : Int} (hp : p.Ok B B0) (hF : p.Free i) (hg : GdQ os a p B B0 w0 af gd) (h1 : SrcQ os a p B B0 w0 af x1 fun v w => Num w v z1) (h2 : SrcQ os a p B B0 w0 af x2 fun v w => Num w v z2) (hC : ∀ v w, (Fq.st [.n 0, .n z1, .n z2, .n 0]).P v w → (p.c i).P v w) :
  zAr os Q a p B B0 w0 i { dst := d, op := .build 36 #[(1, x1), (2, x2)], type := ty, pos := ps, after := af, guard := gd } := by
 refine zBr hp hF hg fun L vs w hG hL hc hd => ?_
 have g1 := h1 L vs w hG hd
 obtain ⟨n1, ao1, k1, c1, e1⟩ := g1.parts
 have m1 : Num w (.agg #[.bool n1, .slice ao1 k1 c1]) z1 := by rw [← e1]; exact g1
 have g2 := h2 L vs w hG hd
 obtain ⟨n2, ao2, k2, c2, e2⟩ := g2.parts
 have m2 : Num w (.agg #[.bool n2, .slice ao2 k2 c2]) z2 := by rw [← e2]; exact g2
 refine ⟨.agg #[.bool false, .slice none 0 0, .bool n1, .slice ao1 k1 c1, .bool n2, .slice ao2 k2 c2, .bool false, .slice none 0 0], ?_, hC _ _ ⟨_, rfl, _, _, _, rfl, Num.zero w, _, _, _, rfl, m1, _, _, _, rfl, m2, _, _, _, rfl, Num.zero w, rfl⟩⟩
 generalize (lay os.toArray L vs os.toArray.size a).eval = ρ at e1 e2
 simp [execOp, go_sem, e1, e2]
theorem zOi {x0 : Operand} {z0_0 : Int} {z0_1 : Int} {z0_2 : Int} {x1 : Operand} {z1_0 : Int} {z1_1 : Int} {z1_2 : Int} {z1_3 : Int} (hp : p.Ok B B0) (hF : p.Free i) (hg : GdQ os a p B B0 w0 af gd) (h0 : SrcQ os a p B B0 w0 af x0 (Fq.st [.n z0_0, .n z0_1, .n z0_2]).P) (h1 : SrcQ os a p B B0 w0 af x1 (Fq.st [.n z1_0, .n z1_1, .n z1_2, .n z1_3]).P) (hC : ∀ v w, (Fq.st [.n z0_0, .n z0_1, .n z0_2, .n z1_0, .n z1_1, .n z1_2, .n z1_3]).P v w → (p.c i).P v w) :
  zAr os Q a p B B0 w0 i { dst := d, op := .build 93 #[(0, x0), (1, x1)], type := ty, pos := ps, after := af, guard := gd } := by
 refine zBr hp hF hg fun L vs w hG hL hc hd => ?_
 have g0 := h0 L vs w hG hd
 obtain ⟨_, e0, _, _, _, rfl, a0_n0, _, _, _, rfl, a0_n1, _, _, _, rfl, a0_n2, rfl⟩ := g0
 obtain ⟨n0_0, ao0_0, k0_0, c0_0, e0_0⟩ := a0_n0.parts
 have m0_0 := a0_n0
 rw [e0_0] at m0_0
 obtain ⟨n0_1, ao0_1, k0_1, c0_1, e0_1⟩ := a0_n1.parts
 have m0_1 := a0_n1
 rw [e0_1] at m0_1
 obtain ⟨n0_2, ao0_2, k0_2, c0_2, e0_2⟩ := a0_n2.parts
 have m0_2 := a0_n2
 rw [e0_2] at m0_2
 injection e0_0 with f0_0
 have f0_0 := congrArg Array.toList f0_0
 simp at f0_0
 obtain ⟨rfl, rfl⟩ := f0_0
 injection e0_1 with f0_1
 have f0_1 := congrArg Array.toList f0_1
 simp at f0_1
 obtain ⟨rfl, rfl⟩ := f0_1
 injection e0_2 with f0_2
 have f0_2 := congrArg Array.toList f0_2
 simp at f0_2
 obtain ⟨rfl, rfl⟩ := f0_2
 have g1 := h1 L vs w hG hd
 obtain ⟨_, e1, _, _, _, rfl, a1_n0, _, _, _, rfl, a1_n1, _, _, _, rfl, a1_n2, _, _, _, rfl, a1_n3, rfl⟩ := g1
 obtain ⟨n1_0, ao1_0, k1_0, c1_0, e1_0⟩ := a1_n0.parts
 have m1_0 := a1_n0
 rw [e1_0] at m1_0
 obtain ⟨n1_1, ao1_1, k1_1, c1_1, e1_1⟩ := a1_n1.parts
 have m1_1 := a1_n1
 rw [e1_1] at m1_1
 obtain ⟨n1_2, ao1_2, k1_2, c1_2, e1_2⟩ := a1_n2.parts
 have m1_2 := a1_n2
 rw [e1_2] at m1_2
 obtain ⟨n1_3, ao1_3, k1_3, c1_3, e1_3⟩ := a1_n3.parts
 have m1_3 := a1_n3
 rw [e1_3] at m1_3
 injection e1_0 with f1_0
 have f1_0 := congrArg Array.toList f1_0
 simp at f1_0
 obtain ⟨rfl, rfl⟩ := f1_0
 injection e1_1 with f1_1
 have f1_1 := congrArg Array.toList f1_1
 simp at f1_1
 obtain ⟨rfl, rfl⟩ := f1_1
 injection e1_2 with f1_2
 have f1_2 := congrArg Array.toList f1_2
 simp at f1_2
 obtain ⟨rfl, rfl⟩ := f1_2
 injection e1_3 with f1_3
 have f1_3 := congrArg Array.toList f1_3
 simp at f1_3
 obtain ⟨rfl, rfl⟩ := f1_3
 refine ⟨.agg #[.bool n0_0, .slice ao0_0 k0_0 c0_0, .bool n0_1, .slice ao0_1 k0_1 c0_1, .bool n0_2, .slice ao0_2 k0_2 c0_2, .bool n1_0, .slice ao1_0 k1_0 c1_0, .bool n1_1, .slice ao1_1 k1_1 c1_1, .bool n1_2, .slice ao1_2 k1_2 c1_2, .bool n1_3, .slice ao1_3 k1_3 c1_3], ?_, hC _ _ ⟨_, rfl, _, _, _, rfl, m0_0, _, _, _, rfl, m0_1, _, _, _, rfl, m0_2, _, _, _, rfl, m1_0, _, _, _, rfl, m1_1, _, _, _, rfl, m1_2, _, _, _, rfl, m1_3, rfl⟩⟩
 generalize (lay os.toArray L vs os.toArray.size a).eval = ρ at e0 e1
 simp [execOp, go_sem, e0, e1]
end
set_option maxRecDepth 100000 in
set_option maxHeartbeats 4000000 in
theorem zMl {wb w : World} {v : Value} {b : Nat} {bo1 mo1 bo2 mo2 bo3 mo3 : Nat} {Fo1 Fo2 Fo3 : Fq} {fa fb fc x1 x2 x3 x4 y1 y2 y3 y4 : Int} (E : Fr wb [(b, 14, Fq.st [.n fa, .n fb, .n fc, .n x1, .n x2, .n x3, .n x4]), (bo1, mo1, Fo1), (bo2, mo2, Fo2), (bo3, mo3, Fo3)] w) (h : (Fq.st [.n y1, .n y2, .n y3, .n y4]).P v w) (hS : ab fa < pw 60 ∧ ab fb < pw 60 ∧ ab fc < pw 60 ∧ ab x1 < pw 60 ∧ ab x2 < pw 60 ∧ ab x3 < pw 60 ∧ ab x4 < pw 60) (hY : ab y1 < pw 60 ∧ ab y2 < pw 60 ∧ ab y3 < pw 60 ∧ ab y4 < pw 60) :
  Calls Try.prog 89 #[.pointer (some ⟨b, 0, none⟩), v] w fun e w' => ∃ v', e = .returned v' ∧ Fr wb [(b, 14, Fq.st [.n (qv fa fb fc y1 y3), .n (qm fa fb fc y1 y2 y3 y4), .n (qv fa fb fc y2 y4), .n ((x1 * y1) + (x2 * y3)), .n ((x1 * y2) + (x2 * y4)), .n ((x3 * y1) + (x4 * y3)), .n ((x3 * y2) + (x4 * y4))]), (bo1, mo1, Fo1), (bo2, mo2, Fo2), (bo3, mo3, Fo3)] w' := by
 replace hS := hidd hS
 replace hY := hidd hY
 obtain ⟨k0, hs0⟩ : ∃ k, w.heap.size = k := ⟨_, rfl⟩
 obtain ⟨_, rfl, hf1⟩ := h
 have hF1 := hf1
 obtain ⟨y1_p0, y1_q0, _, rfl, _y1_n0, y1_p1, y1_q1, _, rfl, _y1_n1, y1_p2, y1_q2, _, rfl, _y1_n2, y1_p3, y1_q3, _, rfl, _y1_n3, rfl⟩ := hf1
 obtain ⟨w1, b1, hw1, hb1, hs1, E⟩ := zDa E hs0 (F := Fq.st [.n y1, .n y2, .n y3, .n y4]) (us := [y1_p0, y1_q0, y1_p1, y1_q1, y1_p2, y1_q2, y1_p3, y1_q3]) 36 rfl (by simp) hF1.tame (show (Fq.st [.n y1, .n y2, .n y3, .n y4]).P _ w from ⟨_, rfl, hF1⟩)
 go_enter Try.func89, Try.ntmps89
 go_upto_region 1 with (fail)
 rw [← hw1]
 rw [← hb1]
 clear hw1 hb1 hs1 hs0
 refine rg [ip b 0, ip b 0, ip b 0, ip b 0, Fq.st [.n fa, .n fb, .n fc], Fq.st [.n y1, .n y2, .n y3, .n y4], Fq.st [.n (qv fa fb fc y1 y3), .n (qm fa fb fc y1 y2 y3 y4), .n (qv fa fb fc y2 y4)], ip b 0, ip b 0, Fq.any] [none, some (9, Fq.st [.n (qv fa fb fc y1 y3), .n (qm fa fb fc y1 y2 y3 y4), .n (qv fa fb fc y2 y4), .n x1, .n x2, .n x3, .n x4]), none, none, none] [] E (fun hp => ⟨?_, ?_, ?_, ?_, ?_, ?_, ?_, ?_, ?_, ?_, tv⟩) ?_
 ·exact zAa hp fo tv (sqo 0)
 ·exact zAa hp fo tv (sqo 0)
 ·exact zAd (F := fun v _ => v = .pointer (some ⟨b, 0, none⟩)) hp fo tv (sqi 1) (fun ρ w hc h => ⟨.pointer (some ⟨b, 0, none⟩), by simp [execOp, go_sem, h], rfl⟩)
 ·exact qa b 0 0 hp (sqi 2)
 ·exact zD4 (off := 0) (l := 6) hp fo tv (mq 1 rfl) (.inr rfl) rfl zAo rfl (sqi 3) (fun v w h => h)
 ·exact lS 0 8 hp (mq 0 rfl) zDh (sqo 3)
 ·exact wXb (Fq.st [.n fa, .n fb, .n fc]) (Fq.st [.n y1, .n y2, .n y3, .n y4]) hp zJm (sqi 4) (sqi 5) fun v v' w h h' => zJu h h' (Int.lt_of_lt_of_le hS.out.1 (zAb (by omega))) (Int.lt_of_lt_of_le hS.out.2.1 (zAb (by omega))) (Int.lt_of_lt_of_le hS.out.2.2.1 (zAb (by omega))) (Int.lt_of_lt_of_le hY.out.1 (zAb (by omega))) (Int.lt_of_lt_of_le hY.out.2.1 (zAb (by omega))) (Int.lt_of_lt_of_le hY.out.2.2.1 (zAb (by omega))) (Int.lt_of_lt_of_le hY.out.2.2.2 (zAb (by omega)))
 ·exact zAd (F := fun v _ => v = .pointer (some ⟨b, 0, none⟩)) hp fo tv (sqi 0) (fun ρ w hc h => ⟨.pointer (some ⟨b, 0, none⟩), by simp [execOp, go_sem, h], rfl⟩)
 ·exact qa b 0 0 hp (sqi 7)
 ·exact zDo (off := 0) (fs := [.n fa, .n fb, .n fc, .n x1, .n x2, .n x3, .n x4]) (gs := [.n (qv fa fb fc y1 y3), .n (qm fa fb fc y1 y2 y3 y4), .n (qv fa fb fc y2 y4)]) (fs' := [.n (qv fa fb fc y1 y3), .n (qm fa fb fc y1 y2 y3 y4), .n (qv fa fb fc y2 y4), .n x1, .n x2, .n x3, .n x4]) hp (mq 1 rfl) rfl rfl rfl zBd rfl (sqi 8) (zBz 6 rfl rfl (by simp) rfl (fun v w h => zE2 h)) (fun _ _ => trivial) (zB4 rfl)
 intro L vs w2 nb hL hC hn E2
 have e0 := wXi hC 0
 have e1 := wXi hC 1
 have e2 := wXi hC 2
 have e3 := wXi hC 3
 have e7 := wXi hC 7
 have e8 := wXi hC 8
 have E := E2; try simp only [LM, zAc] at E
 rw [zAe hL]
 simp only [SP, Nat.zero_add, Nat.reduceAdd]
 rw [e0, e1, e2, e3, e7, e8]
 generalize vs 4 = u2_4
 generalize vs 5 = u2_5
 generalize vs 6 = u2_6
 clear e0 e1 e2 e3 e7 e8 hC hn E2 hL vs L nb
 go_upto_region 2 with (fail)
 refine rg [ip b 0, ip b 0, ip b 0, ip b 6, Fq.st [.n x1, .n x2, .n x3, .n x4], Fq.st [.n y1, .n y2, .n y3, .n y4], Fq.st [.n ((x1 * y1) + (x2 * y3)), .n ((x1 * y2) + (x2 * y4)), .n ((x3 * y1) + (x4 * y3)), .n ((x3 * y2) + (x4 * y4))], ip b 0, ip b 6, Fq.any] [none, some (9, Fq.st [.n (qv fa fb fc y1 y3), .n (qm fa fb fc y1 y2 y3 y4), .n (qv fa fb fc y2 y4), .n ((x1 * y1) + (x2 * y3)), .n ((x1 * y2) + (x2 * y4)), .n ((x3 * y1) + (x4 * y3)), .n ((x3 * y2) + (x4 * y4))]), none, none, none] [] E (fun hp => ⟨?_, ?_, ?_, ?_, ?_, ?_, ?_, ?_, ?_, ?_, tv⟩) ?_
 ·exact zAa hp fo tv (sqo 0)
 ·exact zAa hp fo tv (sqo 0)
 ·exact zAd (F := fun v _ => v = .pointer (some ⟨b, 0, none⟩)) hp fo tv (sqi 1) (fun ρ w hc h => ⟨.pointer (some ⟨b, 0, none⟩), by simp [execOp, go_sem, h], rfl⟩)
 ·exact qa b 0 6 hp (sqi 2)
 ·exact zD4 (off := 6) (l := 8) hp fo tv (mq 1 rfl) (.inr rfl) rfl zDh rfl (sqi 3) (fun v w h => h)
 ·exact lS 0 8 hp (mq 0 rfl) zDh (sqo 3)
 ·exact wXb (Fq.st [.n x1, .n x2, .n x3, .n x4]) (Fq.st [.n y1, .n y2, .n y3, .n y4]) hp zJo (sqi 4) (sqi 5) fun v v' w h h' => zJy h h' (Int.lt_of_lt_of_le hS.out.2.2.2.1 (zAb (by omega))) (Int.lt_of_lt_of_le hS.out.2.2.2.2.1 (zAb (by omega))) (Int.lt_of_lt_of_le hS.out.2.2.2.2.2.1 (zAb (by omega))) (Int.lt_of_lt_of_le hS.out.2.2.2.2.2.2 (zAb (by omega))) (Int.lt_of_lt_of_le hY.out.1 (zAb (by omega))) (Int.lt_of_lt_of_le hY.out.2.1 (zAb (by omega))) (Int.lt_of_lt_of_le hY.out.2.2.1 (zAb (by omega))) (Int.lt_of_lt_of_le hY.out.2.2.2 (zAb (by omega)))
 ·exact zAd (F := fun v _ => v = .pointer (some ⟨b, 0, none⟩)) hp fo tv (sqi 0) (fun ρ w hc h => ⟨.pointer (some ⟨b, 0, none⟩), by simp [execOp, go_sem, h], rfl⟩)
 ·exact qa b 0 6 hp (sqi 7)
 ·exact zDo (off := 6) (fs := [.n (qv fa fb fc y1 y3), .n (qm fa fb fc y1 y2 y3 y4), .n (qv fa fb fc y2 y4), .n x1, .n x2, .n x3, .n x4]) (gs := [.n ((x1 * y1) + (x2 * y3)), .n ((x1 * y2) + (x2 * y4)), .n ((x3 * y1) + (x4 * y3)), .n ((x3 * y2) + (x4 * y4))]) (fs' := [.n (qv fa fb fc y1 y3), .n (qm fa fb fc y1 y2 y3 y4), .n (qv fa fb fc y2 y4), .n ((x1 * y1) + (x2 * y3)), .n ((x1 * y2) + (x2 * y4)), .n ((x3 * y1) + (x4 * y3)), .n ((x3 * y2) + (x4 * y4))]) hp (mq 1 rfl) rfl rfl rfl zCs rfl (sqi 8) (zBz 6 rfl rfl (by simp) rfl (fun v w h => zE2 h)) (fun _ _ => trivial) (zB4 rfl)
 intro L vs w3 nb hL hC hn E3
 have e0 := wXi hC 0
 have e1 := wXi hC 1
 have e2 := wXi hC 2
 have e3 := wXi hC 3
 have e7 := wXi hC 7
 have e8 := wXi hC 8
 have E := E3; try simp only [LM, zAc] at E
 rw [zAe hL]
 simp only [SP, Nat.zero_add, Nat.reduceAdd]
 rw [e0, e1, e2, e3, e7, e8]
 generalize vs 4 = u3_4
 generalize vs 5 = u3_5
 generalize vs 6 = u3_6
 clear e0 e1 e2 e3 e7 e8 hC hn E3 hL vs L nb
 clear hS hY
 exact bodyPost_end (results_none rfl _ _ _) rfl ⟨_, rfl, E.drop⟩

set_option maxRecDepth 100000 in
set_option maxHeartbeats 4000000 in
theorem zMm {wb w : World} {v : Value} {b : Nat} {p1 q1 : Nat} {P1 : Fq} {p2 q2 : Nat} {P2 : Fq} {bo1 mo1 bo2 mo2 bo3 mo3 : Nat} {Fo1 Fo2 Fo3 : Fq} {fa fb fc x1 x2 x3 x4 y1 y2 y3 y4 : Int} (E : Fr wb [(p1, q1, P1), (p2, q2, P2), (b, 14, Fq.st [.n fa, .n fb, .n fc, .n x1, .n x2, .n x3, .n x4]), (bo1, mo1, Fo1), (bo2, mo2, Fo2), (bo3, mo3, Fo3)] w) (h : (Fq.st [.n y1, .n y2, .n y3, .n y4]).P v w) (hS : ab fa < pw 60 ∧ ab fb < pw 60 ∧ ab fc < pw 60 ∧ ab x1 < pw 60 ∧ ab x2 < pw 60 ∧ ab x3 < pw 60 ∧ ab x4 < pw 60) (hY : ab y1 < pw 60 ∧ ab y2 < pw 60 ∧ ab y3 < pw 60 ∧ ab y4 < pw 60) :
  Calls Try.prog 89 #[.pointer (some ⟨b, 0, none⟩), v] w fun e w' => ∃ v', e = .returned v' ∧ Fr wb [(p1, q1, P1), (p2, q2, P2), (b, 14, Fq.st [.n (qv fa fb fc y1 y3), .n (qm fa fb fc y1 y2 y3 y4), .n (qv fa fb fc y2 y4), .n ((x1 * y1) + (x2 * y3)), .n ((x1 * y2) + (x2 * y4)), .n ((x3 * y1) + (x4 * y3)), .n ((x3 * y2) + (x4 * y4))]), (bo1, mo1, Fo1), (bo2, mo2, Fo2), (bo3, mo3, Fo3)] w' := by
 replace hS := hidd hS
 replace hY := hidd hY
 obtain ⟨k0, hs0⟩ : ∃ k, w.heap.size = k := ⟨_, rfl⟩
 obtain ⟨_, rfl, hf1⟩ := h
 have hF1 := hf1
 obtain ⟨y1_p0, y1_q0, _, rfl, _y1_n0, y1_p1, y1_q1, _, rfl, _y1_n1, y1_p2, y1_q2, _, rfl, _y1_n2, y1_p3, y1_q3, _, rfl, _y1_n3, rfl⟩ := hf1
 obtain ⟨w1, b1, hw1, hb1, hs1, E⟩ := zDa E hs0 (F := Fq.st [.n y1, .n y2, .n y3, .n y4]) (us := [y1_p0, y1_q0, y1_p1, y1_q1, y1_p2, y1_q2, y1_p3, y1_q3]) 36 rfl (by simp) hF1.tame (show (Fq.st [.n y1, .n y2, .n y3, .n y4]).P _ w from ⟨_, rfl, hF1⟩)
 go_enter Try.func89, Try.ntmps89
 go_upto_region 1 with (fail)
 rw [← hw1]
 rw [← hb1]
 clear hw1 hb1 hs1 hs0
 refine rg [ip b 0, ip b 0, ip b 0, ip b 0, Fq.st [.n fa, .n fb, .n fc], Fq.st [.n y1, .n y2, .n y3, .n y4], Fq.st [.n (qv fa fb fc y1 y3), .n (qm fa fb fc y1 y2 y3 y4), .n (qv fa fb fc y2 y4)], ip b 0, ip b 0, Fq.any] [none, none, none, some (9, Fq.st [.n (qv fa fb fc y1 y3), .n (qm fa fb fc y1 y2 y3 y4), .n (qv fa fb fc y2 y4), .n x1, .n x2, .n x3, .n x4]), none, none, none] [] E (fun hp => ⟨?_, ?_, ?_, ?_, ?_, ?_, ?_, ?_, ?_, ?_, tv⟩) ?_
 ·exact zAa hp fo tv (sqo 0)
 ·exact zAa hp fo tv (sqo 0)
 ·exact zAd (F := fun v _ => v = .pointer (some ⟨b, 0, none⟩)) hp fo tv (sqi 1) (fun ρ w hc h => ⟨.pointer (some ⟨b, 0, none⟩), by simp [execOp, go_sem, h], rfl⟩)
 ·exact qa b 0 0 hp (sqi 2)
 ·exact zD4 (off := 0) (l := 6) hp fo tv (mq 3 rfl) (.inr rfl) rfl zAo rfl (sqi 3) (fun v w h => h)
 ·exact lS 0 8 hp (mq 0 rfl) zDh (sqo 3)
 ·exact wXb (Fq.st [.n fa, .n fb, .n fc]) (Fq.st [.n y1, .n y2, .n y3, .n y4]) hp zJm (sqi 4) (sqi 5) fun v v' w h h' => zJu h h' (Int.lt_of_lt_of_le hS.out.1 (zAb (by omega))) (Int.lt_of_lt_of_le hS.out.2.1 (zAb (by omega))) (Int.lt_of_lt_of_le hS.out.2.2.1 (zAb (by omega))) (Int.lt_of_lt_of_le hY.out.1 (zAb (by omega))) (Int.lt_of_lt_of_le hY.out.2.1 (zAb (by omega))) (Int.lt_of_lt_of_le hY.out.2.2.1 (zAb (by omega))) (Int.lt_of_lt_of_le hY.out.2.2.2 (zAb (by omega)))
 ·exact zAd (F := fun v _ => v = .pointer (some ⟨b, 0, none⟩)) hp fo tv (sqi 0) (fun ρ w hc h => ⟨.pointer (some ⟨b, 0, none⟩), by simp [execOp, go_sem, h], rfl⟩)
 ·exact qa b 0 0 hp (sqi 7)
 ·exact zDo (off := 0) (fs := [.n fa, .n fb, .n fc, .n x1, .n x2, .n x3, .n x4]) (gs := [.n (qv fa fb fc y1 y3), .n (qm fa fb fc y1 y2 y3 y4), .n (qv fa fb fc y2 y4)]) (fs' := [.n (qv fa fb fc y1 y3), .n (qm fa fb fc y1 y2 y3 y4), .n (qv fa fb fc y2 y4), .n x1, .n x2, .n x3, .n x4]) hp (mq 3 rfl) rfl rfl rfl zBd rfl (sqi 8) (zBz 6 rfl rfl (by simp) rfl (fun v w h => zE2 h)) (fun _ _ => trivial) (zB4 rfl)
 intro L vs w2 nb hL hC hn E2
 have e0 := wXi hC 0
 have e1 := wXi hC 1
 have e2 := wXi hC 2
 have e3 := wXi hC 3
 have e7 := wXi hC 7
 have e8 := wXi hC 8
 have E := E2; try simp only [LM, zAc] at E
 rw [zAe hL]
 simp only [SP, Nat.zero_add, Nat.reduceAdd]
 rw [e0, e1, e2, e3, e7, e8]
 generalize vs 4 = u2_4
 generalize vs 5 = u2_5
 generalize vs 6 = u2_6
 clear e0 e1 e2 e3 e7 e8 hC hn E2 hL vs L nb
 go_upto_region 2 with (fail)
 refine rg [ip b 0, ip b 0, ip b 0, ip b 6, Fq.st [.n x1, .n x2, .n x3, .n x4], Fq.st [.n y1, .n y2, .n y3, .n y4], Fq.st [.n ((x1 * y1) + (x2 * y3)), .n ((x1 * y2) + (x2 * y4)), .n ((x3 * y1) + (x4 * y3)), .n ((x3 * y2) + (x4 * y4))], ip b 0, ip b 6, Fq.any] [none, none, none, some (9, Fq.st [.n (qv fa fb fc y1 y3), .n (qm fa fb fc y1 y2 y3 y4), .n (qv fa fb fc y2 y4), .n ((x1 * y1) + (x2 * y3)), .n ((x1 * y2) + (x2 * y4)), .n ((x3 * y1) + (x4 * y3)), .n ((x3 * y2) + (x4 * y4))]), none, none, none] [] E (fun hp => ⟨?_, ?_, ?_, ?_, ?_, ?_, ?_, ?_, ?_, ?_, tv⟩) ?_
 ·exact zAa hp fo tv (sqo 0)
 ·exact zAa hp fo tv (sqo 0)
 ·exact zAd (F := fun v _ => v = .pointer (some ⟨b, 0, none⟩)) hp fo tv (sqi 1) (fun ρ w hc h => ⟨.pointer (some ⟨b, 0, none⟩), by simp [execOp, go_sem, h], rfl⟩)
 ·exact qa b 0 6 hp (sqi 2)
 ·exact zD4 (off := 6) (l := 8) hp fo tv (mq 3 rfl) (.inr rfl) rfl zDh rfl (sqi 3) (fun v w h => h)
 ·exact lS 0 8 hp (mq 0 rfl) zDh (sqo 3)
 ·exact wXb (Fq.st [.n x1, .n x2, .n x3, .n x4]) (Fq.st [.n y1, .n y2, .n y3, .n y4]) hp zJo (sqi 4) (sqi 5) fun v v' w h h' => zJy h h' (Int.lt_of_lt_of_le hS.out.2.2.2.1 (zAb (by omega))) (Int.lt_of_lt_of_le hS.out.2.2.2.2.1 (zAb (by omega))) (Int.lt_of_lt_of_le hS.out.2.2.2.2.2.1 (zAb (by omega))) (Int.lt_of_lt_of_le hS.out.2.2.2.2.2.2 (zAb (by omega))) (Int.lt_of_lt_of_le hY.out.1 (zAb (by omega))) (Int.lt_of_lt_of_le hY.out.2.1 (zAb (by omega))) (Int.lt_of_lt_of_le hY.out.2.2.1 (zAb (by omega))) (Int.lt_of_lt_of_le hY.out.2.2.2 (zAb (by omega)))
 ·exact zAd (F := fun v _ => v = .pointer (some ⟨b, 0, none⟩)) hp fo tv (sqi 0) (fun ρ w hc h => ⟨.pointer (some ⟨b, 0, none⟩), by simp [execOp, go_sem, h], rfl⟩)
 ·exact qa b 0 6 hp (sqi 7)
 ·exact zDo (off := 6) (fs := [.n (qv fa fb fc y1 y3), .n (qm fa fb fc y1 y2 y3 y4), .n (qv fa fb fc y2 y4), .n x1, .n x2, .n x3, .n x4]) (gs := [.n ((x1 * y1) + (x2 * y3)), .n ((x1 * y2) + (x2 * y4)), .n ((x3 * y1) + (x4 * y3)), .n ((x3 * y2) + (x4 * y4))]) (fs' := [.n (qv fa fb fc y1 y3), .n (qm fa fb fc y1 y2 y3 y4), .n (qv fa fb fc y2 y4), .n ((x1 * y1) + (x2 * y3)), .n ((x1 * y2) + (x2 * y4)), .n ((x3 * y1) + (x4 * y3)), .n ((x3 * y2) + (x4 * y4))]) hp (mq 3 rfl) rfl rfl rfl zCs rfl (sqi 8) (zBz 6 rfl rfl (by simp) rfl (fun v w h => zE2 h)) (fun _ _ => trivial) (zB4 rfl)
 intro L vs w3 nb hL hC hn E3
 have e0 := wXi hC 0
 have e1 := wXi hC 1
 have e2 := wXi hC 2
 have e3 := wXi hC 3
 have e7 := wXi hC 7
 have e8 := wXi hC 8
 have E := E3; try simp only [LM, zAc] at E
 rw [zAe hL]
 simp only [SP, Nat.zero_add, Nat.reduceAdd]
 rw [e0, e1, e2, e3, e7, e8]
 generalize vs 4 = u3_4
 generalize vs 5 = u3_5
 generalize vs 6 = u3_6
 clear e0 e1 e2 e3 e7 e8 hC hn E3 hL vs L nb
 clear hS hY
 exact bodyPost_end (results_none rfl _ _ _) rfl ⟨_, rfl, E.drop⟩

set_option maxRecDepth 100000 in
set_option maxHeartbeats 4000000 in
theorem exPSwap {wb w : World} {b : Nat} {bo1 mo1 bo2 mo2 bo3 mo3 : Nat} {Fo1 Fo2 Fo3 : Fq} {S : RS} (E : Fr wb [(b, 14, Fq.st [.n S.fa, .n S.fb, .n S.fc, .n S.x1, .n S.x2, .n S.x3, .n S.x4]), (bo1, mo1, Fo1), (bo2, mo2, Fo2), (bo3, mo3, Fo3)] w) (hB : RB S) :
  Calls Try.prog 59 #[.pointer (some ⟨b, 0, none⟩)] w fun e w' => ∃ v', e = .returned v' ∧ Fr wb [(b, 14, Fq.st [.n ((rsw S).fa), .n ((rsw S).fb), .n ((rsw S).fc), .n ((rsw S).x1), .n ((rsw S).x2), .n ((rsw S).x3), .n ((rsw S).x4)]), (bo1, mo1, Fo1), (bo2, mo2, Fo2), (bo3, mo3, Fo3)] w' := by
 replace hB := hidd hB
 go_enter Try.func59, Try.ntmps59
 go_upto_region 0 with (fail)
 have B1 : Hid (ab ((-1)) < pw 3) := zA9 (by decide)
 have B2 : Hid (ab ((1)) < pw 3) := zA9 (by decide)
 refine zFu (C := [Fq.is (.pointer (some ⟨b, 0, none⟩)), Fq.num (-1), Fq.num (1), Fq.st [.n 0, .n (-1), .n (1), .n 0], Fq.any]) (ks := [none, none, none, none]) (bs' := [(b, 14, Fq.st [.n ((rsw S).fa), .n ((rsw S).fb), .n ((rsw S).fc), .n ((rsw S).x1), .n ((rsw S).x2), .n ((rsw S).x3), .n ((rsw S).x4)]), (bo1, mo1, Fo1), (bo2, mo2, Fo2), (bo3, mo3, Fo3)]) 4 rfl rfl E rfl rfl (by kernel_rfl) rfl rfl rfl (fun hp => ⟨?_, ?_, ?_, ?_, tv⟩) ?_ ?_
 ·exact zAa hp fo tv (sqo 0)
 ·exact zAm (F := (Fq.is (.int .i64 (-1))).P) hp fo tv (zCv) (zAj (fun _ => rfl)) (fun v w h => (by subst h; exact OfK w (-1) (by omega) (by omega)))
 ·exact zAm (F := (Fq.is (.int .i64 1)).P) hp fo tv (zCv) (zAj (fun _ => rfl)) (fun v w h => (by subst h; exact OfK w (1) (by omega) (by omega)))
 ·exact zOh (z1 := (-1)) (z2 := (1)) hp fo tv (sqi 1) (sqi 2) (fun v w h => h)
 ·intro hp; exact zK5 (G := (Fq.st [.n 0, .n (-1), .n (1), .n 0]).P) (zJq) (sqi 0) (sqi 3) trivial (fun v w E h => (by have hh := zMl E h ⟨(Int.lt_of_lt_of_le hB.out.1.1 (zAb (by omega))), (Int.lt_of_lt_of_le hB.out.1.2.1 (zAb (by omega))), (Int.lt_of_lt_of_le hB.out.1.2.2 (zAb (by omega))), (Int.lt_of_lt_of_le hB.out.2.1 (zAb (by omega))), (Int.lt_of_lt_of_le hB.out.2.2.1 (zAb (by omega))), (Int.lt_of_lt_of_le hB.out.2.2.2.1 (zAb (by omega))), (Int.lt_of_lt_of_le hB.out.2.2.2.2 (zAb (by omega)))⟩ ⟨(Int.lt_of_lt_of_le (zA9 (by decide)) (zAb (by omega))), (Int.lt_of_lt_of_le (zA9 (by decide)) (zAb (by omega))), (Int.lt_of_lt_of_le (zA9 (by decide)) (zAb (by omega))), (Int.lt_of_lt_of_le (zA9 (by decide)) (zAb (by omega)))⟩; rw [rsw_a, rsw_b, rsw_c] at hh; exact hh))
 intro L vs w3 hL E3
 have E := E3; try simp only [LM, zAc] at E
 rw [zAe hL]
 simp only [SP, Nat.zero_add, Nat.reduceAdd]
 generalize vs 0 = u3_0
 generalize vs 1 = u3_1
 generalize vs 2 = u3_2
 generalize vs 3 = u3_3
 generalize vs 4 = u3_4
 clear E3 hL vs L
 clear B1 B2 hB
 exact bodyPost_end (results_none rfl _ _ _) rfl ⟨_, rfl, E⟩

set_option maxRecDepth 100000 in
set_option maxHeartbeats 4000000 in
theorem zJv {wb w : World} {b : Nat} {bo1 mo1 bo2 mo2 bo3 mo3 : Nat} {Fo1 Fo2 Fo3 : Fq} {S : RS} (E : Fr wb [(b, 14, Fq.st [.n S.fa, .n S.fb, .n S.fc, .n S.x1, .n S.x2, .n S.x3, .n S.x4]), (bo1, mo1, Fo1), (bo2, mo2, Fo2), (bo3, mo3, Fo3)] w) (hB : RB S) (h0 : 0 < S.fa) :
  Calls Try.prog 57 #[.pointer (some ⟨b, 0, none⟩)] w fun e w' => ∃ v', e = .returned v' ∧ Fr wb [(b, 14, Fq.st [.n ((rsh S).fa), .n ((rsh S).fb), .n ((rsh S).fc), .n ((rsh S).x1), .n ((rsh S).x2), .n ((rsh S).x3), .n ((rsh S).x4)]), (bo1, mo1, Fo1), (bo2, mo2, Fo2), (bo3, mo3, Fo3)] w' := by
 replace hB := hidd hB
 have HNE : Hid (2 * S.fa ≠ 0) := by show _ ≠ _; omega
 have BQ : Hid (ab ((S.fa - S.fb) / (2 * S.fa)) < pw 15) := ediv_ab (zDj hB.out.1.1 hB.out.1.2.1 (by omega) (by omega))
 clear h0
 go_enter Try.func57, Try.ntmps57
 go_upto_region 0 with (fail)
 have B1 : Hid (ab ((S.fa - S.fb)) < pw 6) := zDj hB.out.1.1 hB.out.1.2.1 (by omega) (by omega)
 have B2 : Hid (ab ((2 * S.fa)) < pw 8) := Int.lt_of_lt_of_le (zBk (zAs (x := 2) (by decide) (by decide)) hB.out.1.1) (zAb (by omega))
 have B3 : Hid (ab (((S.fa - S.fb) % (2 * S.fa))) < pw 8) := zEq HNE.out B2.out
 refine rg [ip b 0, ip b 0, ip b 0, ip b 0, Fq.num S.fa, ip b 0, ip b 0, ip b 0, ip b 2, Fq.num S.fb, Fq.num (S.fa - S.fb), ip b 0, ip b 0, ip b 0, ip b 0, Fq.num S.fa, Fq.num (2 * S.fa), Fq.tup3 (Fq.num ((S.fa - S.fb) / (2 * S.fa))) (Fq.num ((S.fa - S.fb) % (2 * S.fa))) (Fq.is (.int .i64 0)), Fq.tup3 (Fq.num ((S.fa - S.fb) / (2 * S.fa))) (Fq.num ((S.fa - S.fb) % (2 * S.fa))) (Fq.is (.int .i64 0)), Fq.num ((S.fa - S.fb) / (2 * S.fa)), Fq.num ((S.fa - S.fb) % (2 * S.fa)), Fq.is (.int .i64 0), Fq.any, Fq.any, Fq.any, Fq.any, Fq.is (.int .i64 0)] N4 [⟨22, 24, 2, Fq.num 0, Fq.num ((S.fa - S.fb) / (2 * S.fa)), none⟩, ⟨23, 25, 2, Fq.num 0, Fq.num ((S.fa - S.fb) % (2 * S.fa)), none⟩] E (fun hp => ⟨?_, ?_, ?_, ?_, ?_, ?_, ?_, ?_, ?_, ?_, ?_, ?_, ?_, ?_, ?_, ?_, ?_, ?_, ?_, ?_, ?_, ?_, ?_, ?_, ?_, ?_, ?_, tv⟩) ?_
 ·exact zAa hp fo tv (sqo 0)
 ·exact zAd (F := fun v _ => v = .pointer (some ⟨b, 0, none⟩)) hp fo tv (sqi 0) (fun ρ w hc h => ⟨.pointer (some ⟨b, 0, none⟩), by simp [execOp, go_sem, h], rfl⟩)
 ·exact qa b 0 0 hp (sqi 1)
 ·exact qa b 0 0 hp (sqi 2)
 ·exact lN 0 2 hp (mq 0 rfl) zAf (sqi 3)
 ·exact zAa hp fo tv (sqo 0)
 ·exact zAd (F := fun v _ => v = .pointer (some ⟨b, 0, none⟩)) hp fo tv (sqi 5) (fun ρ w hc h => ⟨.pointer (some ⟨b, 0, none⟩), by simp [execOp, go_sem, h], rfl⟩)
 ·exact qa b 0 0 hp (sqi 6)
 ·exact qa b 0 2 hp (sqi 7)
 ·exact lN 2 2 hp (mq 0 rfl) zAf (sqi 8)
 ·exact wXb (Fq.num S.fa) (Fq.num S.fb) hp enq_Sub (sqi 4) (sqi 9) fun v v' w h h' => exK (SubV h h') B1.out (by omega)
 ·exact zAa hp fo tv (sqo 0)
 ·exact zAd (F := fun v _ => v = .pointer (some ⟨b, 0, none⟩)) hp fo tv (sqi 11) (fun ρ w hc h => ⟨.pointer (some ⟨b, 0, none⟩), by simp [execOp, go_sem, h], rfl⟩)
 ·exact qa b 0 0 hp (sqi 12)
 ·exact qa b 0 0 hp (sqi 13)
 ·exact lN 0 2 hp (mq 0 rfl) zAf (sqi 14)
 ·exact wXa (Fq.num S.fa) hp zHs (sqi 15) fun v w h => zHv h (Int.lt_of_lt_of_le hB.out.1.1 (zAb (by omega)))
 ·exact wXb (Fq.num (S.fa - S.fb)) (Fq.num (2 * S.fa)) hp zHn (sqi 10) (sqi 16) fun v v' w h h' => exDMq h h' HNE.out (Int.lt_of_lt_of_le BQ.out (zAb (by omega : 15 ≤ 15))) B3.out (by omega) (by omega)
 ·exact zAa hp fo tv (sqi 17)
 ·exact zA4 hp fo tv (sqi 18) (fun v1 v2 v3 w h1 h2 h3 => ⟨_, rfl, h1⟩)
 ·exact zA4 hp fo tv (sqi 18) (fun v1 v2 v3 w h1 h2 h3 => ⟨_, rfl, h2⟩)
 ·exact zA4 hp fo tv (sqi 18) (fun v1 v2 v3 w h1 h2 h3 => ⟨_, rfl, h3⟩)
 ·exact aN hp (mq 0 rfl)
 ·exact aN hp (mq 1 rfl)
 ·exact sN 19 hp (mq 0 rfl)
 ·exact sN 20 hp (mq 1 rfl)
 ·exact zAh hp fo tv (sqi 21)
 intro L vs w4 nb hL hC hn E4
 have e0 := wXi hC 0
 have e1 := wXi hC 1
 have e2 := wXi hC 2
 have e3 := wXi hC 3
 have e5 := wXi hC 5
 have e6 := wXi hC 6
 have e7 := wXi hC 7
 have e8 := wXi hC 8
 have e11 := wXi hC 11
 have e12 := wXi hC 12
 have e13 := wXi hC 13
 have e14 := wXi hC 14
 have e21 := wXi hC 21
 have e26 := wXi hC 26
 have e22 : vs 22 = .pointer (some ⟨nb 22, 0, none⟩) := hn _ (mq 0 rfl)
 have e23 : vs 23 = .pointer (some ⟨nb 23, 0, none⟩) := hn _ (mq 1 rfl)
 have E := E4; try simp only [LM, zAc] at E
 rw [zAe hL]
 simp only [SP, Nat.zero_add, Nat.reduceAdd]
 rw [e0, e1, e2, e3, e5, e6, e7, e8, e11, e12, e13, e14, e21, e26, e22, e23]
 generalize nb 22 = b4_22 at E ⊢
 generalize nb 23 = b4_23 at E ⊢
 generalize vs 4 = u4_4
 generalize vs 9 = u4_9
 generalize vs 10 = u4_10
 generalize vs 15 = u4_15
 generalize vs 16 = u4_16
 generalize vs 17 = u4_17
 generalize vs 18 = u4_18
 generalize vs 19 = u4_19
 generalize vs 20 = u4_20
 clear e0 e1 e2 e3 e5 e6 e7 e8 e11 e12 e13 e14 e21 e26 e22 e23 hC hn E4 hL vs L nb
 go_upto_region 1 with (fail)
 have B5 : Hid (ab ((1)) < pw 3) := zA9 (by decide)
 refine zFu (C := [Fq.is (.pointer (some ⟨b, 0, none⟩)), Fq.num (1), Fq.num ((S.fa - S.fb) / (2 * S.fa)), Fq.num (1), Fq.st [.n (1), .n ((S.fa - S.fb) / (2 * S.fa)), .n 0, .n (1)], Fq.any]) (ks := [none, none, none, none, none, none]) (bs' := [(b4_22, 2, Fq.num ((S.fa - S.fb) / (2 * S.fa))), (b4_23, 2, Fq.num ((S.fa - S.fb) % (2 * S.fa))), (b, 14, Fq.st [.n ((rsh S).fa), .n ((rsh S).fb), .n ((rsh S).fc), .n ((rsh S).x1), .n ((rsh S).x2), .n ((rsh S).x3), .n ((rsh S).x4)]), (bo1, mo1, Fo1), (bo2, mo2, Fo2), (bo3, mo3, Fo3)]) 5 rfl rfl E rfl rfl (by kernel_rfl) rfl rfl rfl (fun hp => ⟨?_, ?_, ?_, ?_, ?_, tv⟩) ?_ ?_
 ·exact zAa hp fo tv (sqo 0)
 ·exact zAm (F := (Fq.is (.int .i64 1)).P) hp fo tv (zCv) (zAj (fun _ => rfl)) (fun v w h => (by subst h; exact OfK w (1) (by omega) (by omega)))
 ·exact lI 0 hp (mq 0 rfl) (sqo 2) fun us w hl h => zAn hl h
 ·exact zAm (F := (Fq.is (.int .i64 1)).P) hp fo tv (zCv) (zAj (fun _ => rfl)) (fun v w h => (by subst h; exact OfK w (1) (by omega) (by omega)))
 ·exact zOf (z0 := (1)) (z1 := ((S.fa - S.fb) / (2 * S.fa))) (z3 := (1)) hp fo tv (sqi 1) (sqi 2) (sqi 3) (fun v w h => h)
 ·intro hp; exact zK5 (G := (Fq.st [.n (1), .n ((S.fa - S.fb) / (2 * S.fa)), .n 0, .n (1)]).P) (zJq) (sqi 0) (sqi 4) trivial (fun v w E h => (by have hh := zMm E h ⟨(Int.lt_of_lt_of_le hB.out.1.1 (zAb (by omega))), (Int.lt_of_lt_of_le hB.out.1.2.1 (zAb (by omega))), (Int.lt_of_lt_of_le hB.out.1.2.2 (zAb (by omega))), (Int.lt_of_lt_of_le hB.out.2.1 (zAb (by omega))), (Int.lt_of_lt_of_le hB.out.2.2.1 (zAb (by omega))), (Int.lt_of_lt_of_le hB.out.2.2.2.1 (zAb (by omega))), (Int.lt_of_lt_of_le hB.out.2.2.2.2 (zAb (by omega)))⟩ ⟨(Int.lt_of_lt_of_le (zA9 (by decide)) (zAb (by omega))), (Int.lt_of_lt_of_le BQ.out (zAb (by omega))), (Int.lt_of_lt_of_le (zA9 (by decide)) (zAb (by omega))), (Int.lt_of_lt_of_le (zA9 (by decide)) (zAb (by omega)))⟩; rw [rsh_a, rsh_b, rsh_c] at hh; exact hh))
 intro L vs w6 hL E6
 have E := E6; try simp only [LM, zAc] at E
 rw [zAe hL]
 simp only [SP, Nat.zero_add, Nat.reduceAdd]
 generalize vs 0 = u6_0
 generalize vs 1 = u6_1
 generalize vs 2 = u6_2
 generalize vs 3 = u6_3
 generalize vs 4 = u6_4
 generalize vs 5 = u6_5
 clear E6 hL vs L
 clear HNE
 clear B1 B2 B3 B5 hB BQ
 exact bodyPost_end (results_none rfl _ _ _) rfl ⟨_, rfl, E.drop.drop⟩

set_option maxRecDepth 100000 in
set_option maxHeartbeats 4000000 in
theorem zM9 {w : World} {v : Value} {a b c : Int} (h : (Fq.st [.n a, .n b, .n c]).P v w) (ha : ab a < pw 5) (hb : ab b < pw 5) (hc : ab c < pw 5) (hd : (b * b - 4 * (a * c)) < 0) (h0 : 0 < a) :
  Calls Try.prog 21 #[v] w fun e w' => ∃ v', e = .returned v' ∧ Below w.heap.size w w' ∧ (Fq.red (zB7 a b c)).P v' w' := by
 replace ha := hidd ha
 replace hb := hidd hb
 replace hc := hidd hc
 have HD := hidd hd
 have HP := hidd h0
 have HC : Hid (redE a b c = 0) := zE8 hd h0
 have HS0 := hidd ((RIn.one h0 hb.out hc.out).bds ha.out hc.out hd : RB ⟨1, 0, 0, 1, a, b, c⟩)
 clear hd h0
 obtain ⟨_, rfl, hf0⟩ := h
 have hF0 := hf0
 obtain ⟨y0_p0, y0_q0, _, rfl, _y0_n0, y0_p1, y0_q1, _, rfl, _y0_n1, y0_p2, y0_q2, _, rfl, _y0_n2, rfl⟩ := hf0
 obtain ⟨w1, b1, hw1, hb1, hs1, E⟩ := gS w 33 hF0
 obtain ⟨w2, b2, hw2, hb2, hs2, E⟩ := fO E hs1 33 zBf
 obtain ⟨w3, b3, hw3, hb3, hs3, E⟩ := fO E hs2 36 zC0
 go_enter Try.func21, Try.ntmps21
 go_upto_region 1 with (fail)
 rw [← hw1]
 rw [← hw2]
 rw [← hw3]
 rw [← hb3]
 rw [← hb2]
 rw [← hb1]
 clear hw1 hw2 hw3 hb1 hb2 hb3 hs3 hs1 hs2
 refine rg [Fq.st [.n a, .n b, .n c], Fq.is (.int .i64 0), Fq.is (.int .i64 0)] N3 [] E (fun hp => ⟨?_, ?_, ?_, tv⟩) ?_
 ·exact lS 0 6 hp (mq 2 rfl) zAo (sqo 1)
 ·exact wXa (Fq.st [.n a, .n b, .n c]) hp zEv (sqi 0) fun v w h => zEy h (Int.lt_of_lt_of_le ha.out (zAb (by omega))) (Int.lt_of_lt_of_le hb.out (zAb (by omega))) (Int.lt_of_lt_of_le hc.out (zAb (by omega))) HC.out
 ·exact zAh hp fo tv (sqi 1)
 intro L vs w4 nb hL hC hn E4
 have e1 := wXi hC 1
 have e2 := wXi hC 2
 have E := E4; try simp only [LM, zAc] at E
 rw [zAe hL]
 simp only [SP, Nat.zero_add, Nat.reduceAdd]
 rw [e1, e2]
 generalize vs 0 = u4_0
 clear e1 e2 hC hn E4 hL vs L nb
 go_upto_region 2 with (fail)
 refine rg [Fq.is (.int .i64 0), yF] N3 [] E (fun hp => ⟨?_, ?_, tv⟩) ?_
 ·exact zAa hp fo tv (sqo 5)
 ·exact zAd (F := fun v _ => v = .int .i64 0) hp fo tv (sqi 0) (fun ρ w hc h => ⟨.bool false, by simp [execOp, go_sem, h, hc], rfl⟩)
 intro L vs w5 nb hL hC hn E5
 have e0 := wXi hC 0
 have e1 := wXi hC 1
 have E := E5; try simp only [LM, zAc] at E
 rw [zAe hL]
 simp only [SP, Nat.zero_add, Nat.reduceAdd]
 rw [e0, e1]
 clear e0 e1 hC hn E5 hL vs L nb
 clear HC
 go_upto_region 4 with (fail)
 have B6 : Hid (ab ((1)) < pw 3) := zA9 (by decide)
 refine rg [Fq.st [.n a, .n b, .n c], Fq.num (1), Fq.num (1), Fq.st [.n (1), .n 0, .n 0, .n (1)], Fq.st [.n a, .n b, .n c, .n (1), .n 0, .n 0, .n (1)], Fq.any, Fq.any] N3 [⟨5, 6, 14, Fq.st [.n 0, .n 0, .n 0, .n 0, .n 0, .n 0, .n 0], Fq.st [.n a, .n b, .n c, .n (1), .n 0, .n 0, .n (1)], none⟩] E (fun hp => ⟨?_, ?_, ?_, ?_, ?_, ?_, ?_, tv⟩) ?_
 ·exact lS 0 6 hp (mq 2 rfl) zAo (sqo 1)
 ·exact zAm (F := (Fq.is (.int .i64 1)).P) hp fo tv (zCv) (zAj (fun _ => rfl)) (fun v w h => (by subst h; exact OfK w (1) (by omega) (by omega)))
 ·exact zAm (F := (Fq.is (.int .i64 1)).P) hp fo tv (zCv) (zAj (fun _ => rfl)) (fun v w h => (by subst h; exact OfK w (1) (by omega) (by omega)))
 ·exact zOg (z0 := (1)) (z3 := (1)) hp fo tv (sqi 1) (sqi 2) (fun v w h => h)
 ·exact zOi (z0_0 := a) (z0_1 := b) (z0_2 := c) (z1_0 := (1)) (z1_1 := 0) (z1_2 := 0) (z1_3 := (1)) hp fo tv (sqi 0) (sqi 3) (fun v w h => h)
 ·exact aS hp (mq 0 rfl) zNy zOo
 ·exact sS 4 hp (mq 0 rfl) zO2
 intro L vs w7 nb hL hC hn E7
 have e5 : vs 5 = .pointer (some ⟨nb 5, 0, none⟩) := hn _ (mq 0 rfl)
 have E := E7; try simp only [LM, zAc] at E
 rw [zAe hL]
 simp only [SP, Nat.zero_add, Nat.reduceAdd]
 rw [e5]
 generalize nb 5 = b7_5 at E ⊢
 generalize vs 0 = u7_0
 generalize vs 1 = u7_1
 generalize vs 2 = u7_2
 generalize vs 3 = u7_3
 generalize vs 4 = u7_4
 clear e5 hC hn E7 hL vs L nb
 go_upto_region 5 with (fail)
 refine zFu (C := [Fq.any]) (ks := [none, none, none, none]) (bs' := [(b7_5, 14, Fq.st [.n ((rsh ⟨1, 0, 0, 1, a, b, c⟩).fa), .n ((rsh ⟨1, 0, 0, 1, a, b, c⟩).fb), .n ((rsh ⟨1, 0, 0, 1, a, b, c⟩).fc), .n ((rsh ⟨1, 0, 0, 1, a, b, c⟩).x1), .n ((rsh ⟨1, 0, 0, 1, a, b, c⟩).x2), .n ((rsh ⟨1, 0, 0, 1, a, b, c⟩).x3), .n ((rsh ⟨1, 0, 0, 1, a, b, c⟩).x4)]), (b3, 8, Fq.st [.n 0, .n 0, .n 0, .n 0]), (b2, 6, Fq.st [.n 0, .n 0, .n 0]), (b1, 6, Fq.st [.n a, .n b, .n c])]) 0 rfl rfl E rfl rfl (by kernel_rfl) rfl rfl rfl (fun hp => trivial) ?_ ?_
 ·intro hp; exact zIk  (zJr) (sqo 6) trivial (fun w E => zJv (S := ⟨1, 0, 0, 1, a, b, c⟩) E HS0.out HP.out)
 intro L vs w8 hL E8
 have E := E8; try simp only [LM, zAc] at E
 rw [zAe hL]
 simp only [SP, Nat.zero_add, Nat.reduceAdd]
 generalize vs 0 = u8_0
 clear E8 hL vs L
 clear HS0
 have HE := hidd E
 clear E
 obtain ⟨W0, rfl⟩ : ∃ W0, W0 = w8 := ⟨_, rfl⟩
 go_wp2_with (fail)
 go_loopw [20] (fun _ W => ∃ P : RS, PIn a b c P ∧ Fr w [(b7_5, 14, Fq.st [.n P.fa, .n P.fb, .n P.fc, .n P.x1, .n P.x2, .n P.x3, .n P.x4]), (b3, 8, Fq.st [.n 0, .n 0, .n 0, .n 0]), (b2, 6, Fq.st [.n 0, .n 0, .n 0]), (b1, 6, Fq.st [.n a, .n b, .n c])] W) (fun _ W => frmMes W b7_5)
 case atStart => exact ⟨_, PIn.start HP.out hb.out hc.out, HE.out⟩
 case round =>
  clear HE
  obtain ⟨V2, rfl⟩ : ∃ V2, V2 = wr := ⟨_, rfl⟩
  obtain ⟨P, hI, E⟩ := hrel
  have HI := hidd hI
  have HBS := hidd (hI.at ha.out hb.out hc.out HD.out).1
  have HME := hidd (zJ4 (bq_pre (E.box 0 rfl)))
  clear hI
  go_upto_region 6 with (fail)
  by_cases hr : redB P.fa P.fb P.fc = true
  ·have HR := hidd hr
   clear hr
   refine rg [ip b7_5 0, Fq.st [.n P.fa, .n P.fb, .n P.fc], yT, yF] N4 [] E (fun hp => ⟨?_, ?_, ?_, ?_, tv⟩) ?_
   ·exact qa b7_5 0 0 hp (sqo 6)
   ·exact lS 0 6 hp (mq 0 rfl) zAo (sqi 0)
   ·exact wXa (Fq.st [.n P.fa, .n P.fb, .n P.fc]) hp zHr (sqi 1) fun v w h => zHu h (Int.lt_of_lt_of_le HBS.out.1.1 (zAb (by omega))) (Int.lt_of_lt_of_le HBS.out.1.2.1 (zAb (by omega))) (Int.lt_of_lt_of_le HBS.out.1.2.2 (zAb (by omega))) HR.out
   ·exact zAd (F := fun v _ => v = .bool true) hp fo tv (sqi 2) (fun ρ w _ h => ⟨.bool false, by simp [execOp, go_sem, h], rfl⟩)
   intro L vs w9 nb hL hC hn E9
   have e0 := wXi hC 0
   have e2 := wXi hC 2
   have e3 := wXi hC 3
   have E := E9; try simp only [LM, zAc] at E
   rw [zAe hL]
   simp only [SP, Nat.zero_add, Nat.reduceAdd]
   rw [e0, e2, e3]
   generalize vs 1 = u9_1
   clear e0 e2 e3 hC hn E9 hL vs L nb
   go_upto_region 9 with (fail)
   refine rg [ip b7_5 0, Fq.st [.n P.fa, .n P.fb, .n P.fc], ip b7_5 6, Fq.st [.n P.x1, .n P.x2, .n P.x3, .n P.x4], Fq.any, Fq.any, Fq.is (.int .i64 0)] [none, some (5, Fq.st [.n P.x1, .n P.x2, .n P.x3, .n P.x4]), some (4, Fq.st [.n P.fa, .n P.fb, .n P.fc]), none] [] E (fun hp => ⟨?_, ?_, ?_, ?_, ?_, ?_, ?_, tv⟩) ?_
   ·exact qa b7_5 0 0 hp (sqo 6)
   ·exact lS 0 6 hp (mq 0 rfl) zAo (sqi 0)
   ·exact qa b7_5 0 6 hp (sqo 6)
   ·exact lS 6 8 hp (mq 0 rfl) zDh (sqi 2)
   ·exact sO 0 1 hp (mq 2 rfl) zBd (sqo 2)
   ·exact sO 0 3 hp (mq 1 rfl) zCs (sqo 3)
   ·exact zAh hp fo tv (zAj (fun _ => rfl))
   intro L vs w10 nb hL hC hn E10
   have e0 := wXi hC 0
   have e2 := wXi hC 2
   have e6 := wXi hC 6
   have E := E10; try simp only [LM, zAc] at E
   rw [zAe hL]
   simp only [SP, Nat.zero_add, Nat.reduceAdd]
   rw [e0, e2, e6]
   generalize vs 1 = u10_1
   generalize vs 3 = u10_3
   clear e0 e2 e6 hC hn E10 hL vs L nb
   obtain ⟨_, _, hccr, hffr⟩ := zBt (E.box 2 rfl)
   have hPr := hffr
   obtain ⟨r_p0, r_q0, _, rfl, _r_n0, r_p1, r_q1, _, rfl, _r_n1, r_p2, r_q2, _, rfl, _r_n2, rfl⟩ := hffr
   have cr0 := hccr 0 (by simp)
   have cr1 := hccr 1 (by simp)
   have cr2 := hccr 2 (by simp)
   have cr3 := hccr 3 (by simp)
   have cr4 := hccr 4 (by simp)
   have cr5 := hccr 5 (by simp)
   simp only [List.getD_cons_zero, List.getD_cons_succ] at cr0 cr1 cr2 cr3 cr4 cr5
   clear hccr
   obtain ⟨_, _, hccq, hffq⟩ := zBt (E.box 1 rfl)
   have hPq := hffq
   obtain ⟨q_p0, q_q0, _, rfl, _q_n0, q_p1, q_q1, _, rfl, _q_n1, q_p2, q_q2, _, rfl, _q_n2, q_p3, q_q3, _, rfl, _q_n3, rfl⟩ := hffq
   have cq0 := hccq 0 (by simp)
   have cq1 := hccq 1 (by simp)
   have cq2 := hccq 2 (by simp)
   have cq3 := hccq 3 (by simp)
   have cq4 := hccq 4 (by simp)
   have cq5 := hccq 5 (by simp)
   have cq6 := hccq 6 (by simp)
   have cq7 := hccq 7 (by simp)
   simp only [List.getD_cons_zero, List.getD_cons_succ] at cq0 cq1 cq2 cq3 cq4 cq5 cq6 cq7
   clear hccq
   have hEnd := HI.out.red HR.out
   clear HI HME HR HD HP
   clear B6 ha hb hc HBS
   go_wp2
   refine bodyPost_ret (v := .tuple #[.agg #[r_p0, r_q0, r_p1, r_q1, r_p2, r_q2], .agg #[q_p0, q_q0, q_p1, q_q1, q_p2, q_q2, q_p3, q_q3], .int .i64 0]) ?_ rfl ⟨_, rfl, E.below, by rw [hEnd]; exact ⟨_, _, _, rfl, ⟨_, rfl, hPr⟩, ⟨_, rfl, hPq⟩, rfl⟩⟩
   simp [results, Try.results21, go_sem, cr0, cr1, cr2, cr3, cr4, cr5, cq0, cq1, cq2, cq3, cq4, cq5, cq6, cq7]
  ·have hr2 : P.red = false := Bool.eq_false_iff.2 hr
   obtain ⟨hN, hB2, hp2, hmm⟩ := HI.out.next ha.out hb.out hc.out HD.out hr2
   have HR := hidd (show redB P.fa P.fb P.fc = false from hr2)
   have HN := hidd hN
   have HBT := hidd hB2
   have HP2 := hidd hp2
   have HMM := hidd hmm
   clear hr hr2 hN hB2 hp2 hmm
   refine rg [ip b7_5 0, Fq.st [.n P.fa, .n P.fb, .n P.fc], yF, yT] N4 [] E (fun hp => ⟨?_, ?_, ?_, ?_, tv⟩) ?_
   ·exact qa b7_5 0 0 hp (sqo 6)
   ·exact lS 0 6 hp (mq 0 rfl) zAo (sqi 0)
   ·exact wXa (Fq.st [.n P.fa, .n P.fb, .n P.fc]) hp zHr (sqi 1) fun v w h => zHu h (Int.lt_of_lt_of_le HBS.out.1.1 (zAb (by omega))) (Int.lt_of_lt_of_le HBS.out.1.2.1 (zAb (by omega))) (Int.lt_of_lt_of_le HBS.out.1.2.2 (zAb (by omega))) HR.out
   ·exact zAd (F := fun v _ => v = .bool false) hp fo tv (sqi 2) (fun ρ w _ h => ⟨.bool true, by simp [execOp, go_sem, h], rfl⟩)
   intro L vs w11 nb hL hC hn E11
   have e0 := wXi hC 0
   have e2 := wXi hC 2
   have e3 := wXi hC 3
   have E := E11; try simp only [LM, zAc] at E
   rw [zAe hL]
   simp only [SP, Nat.zero_add, Nat.reduceAdd]
   rw [e0, e2, e3]
   generalize vs 1 = u11_1
   clear e0 e2 e3 hC hn E11 hL vs L nb
   go_upto_region 7 with (fail)
   refine zFu (C := [Fq.any]) (ks := [none, none, none, none]) (bs' := [(b7_5, 14, Fq.st [.n ((rsw P).fa), .n ((rsw P).fb), .n ((rsw P).fc), .n ((rsw P).x1), .n ((rsw P).x2), .n ((rsw P).x3), .n ((rsw P).x4)]), (b3, 8, Fq.st [.n 0, .n 0, .n 0, .n 0]), (b2, 6, Fq.st [.n 0, .n 0, .n 0]), (b1, 6, Fq.st [.n a, .n b, .n c])]) 0 rfl rfl E rfl rfl (by kernel_rfl) rfl rfl rfl (fun hp => trivial) ?_ ?_
   ·intro hp; exact zIk  (zMg) (sqo 6) trivial (fun w E => exPSwap (S := P) E HBS.out)
   intro L vs w12 hL E12
   have E := E12; try simp only [LM, zAc] at E
   rw [zAe hL]
   simp only [SP, Nat.zero_add, Nat.reduceAdd]
   generalize vs 0 = u12_0
   clear E12 hL vs L
   go_upto_region 8 with (fail)
   refine zFu (C := [Fq.any]) (ks := [none, none, none, none]) (bs' := [(b7_5, 14, Fq.st [.n ((rsh (rsw P)).fa), .n ((rsh (rsw P)).fb), .n ((rsh (rsw P)).fc), .n ((rsh (rsw P)).x1), .n ((rsh (rsw P)).x2), .n ((rsh (rsw P)).x3), .n ((rsh (rsw P)).x4)]), (b3, 8, Fq.st [.n 0, .n 0, .n 0, .n 0]), (b2, 6, Fq.st [.n 0, .n 0, .n 0]), (b1, 6, Fq.st [.n a, .n b, .n c])]) 0 rfl rfl E rfl rfl (by kernel_rfl) rfl rfl rfl (fun hp => trivial) ?_ ?_
   ·intro hp; exact zIk  (zJr) (sqo 6) trivial (fun w E => zJv (S := rsw P) E HBT.out HP2.out)
   intro L vs w13 hL E13
   have E := E13; try simp only [LM, zAc] at E
   rw [zAe hL]
   simp only [SP, Nat.zero_add, Nat.reduceAdd]
   generalize vs 0 = u13_0
   clear E13 hL vs L
   have hN := HN.out
   have hME := HME.out
   have hMM := HMM.out
   have hRo := HR.out
   have hM2 := zJ4 (bq_pre (E.box 0 rfl))
   rw [hRo] at hME
   clear HME HI HR HN HP2 HMM HD HP
   clear B6 ha hb hc HBS HBT
   go_wp2
   go_roundw
   case rel => exact ⟨_, hN, E⟩
   case measure =>
    rw [hM2, hME]
    simpa using hMM

set_option maxRecDepth 100000 in
set_option maxHeartbeats 4000000 in
theorem zNa {w : World} {v : Value} {a b c : Int} (h : (Fq.st [.n a, .n b, .n c]).P v w) (ha : ab a < pw 5) (hb : ab b < pw 5) (hc : ab c < pw 5) {er : Int} (he : redE a b c = er) (hn : ¬ er = 0) :
  Calls Try.prog 21 #[v] w fun e w' => ∃ v', e = .returned v' ∧ Below w.heap.size w w' ∧ (Fq.tup3 (Fq.st [.n 0, .n 0, .n 0]) (Fq.st [.n 0, .n 0, .n 0, .n 0]) (Fq.is (.int .i64 er))).P v' w' := by
 replace ha := hidd ha
 replace hb := hidd hb
 replace hc := hidd hc
 have HC := hidd he
 have HN := hidd hn
 clear he hn
 obtain ⟨_, rfl, hf0⟩ := h
 have hF0 := hf0
 obtain ⟨y0_p0, y0_q0, _, rfl, _y0_n0, y0_p1, y0_q1, _, rfl, _y0_n1, y0_p2, y0_q2, _, rfl, _y0_n2, rfl⟩ := hf0
 obtain ⟨w1, b1, hw1, hb1, hs1, E⟩ := gS w 33 hF0
 obtain ⟨w2, b2, hw2, hb2, hs2, E⟩ := fO E hs1 33 zBf
 obtain ⟨w3, b3, hw3, hb3, hs3, E⟩ := fO E hs2 36 zC0
 go_enter Try.func21, Try.ntmps21
 go_upto_region 1 with (fail)
 rw [← hw1]
 rw [← hw2]
 rw [← hw3]
 rw [← hb3]
 rw [← hb2]
 rw [← hb1]
 clear hw1 hw2 hw3 hb1 hb2 hb3 hs3 hs1 hs2
 refine rg [Fq.st [.n a, .n b, .n c], Fq.is (.int .i64 er), Fq.is (.int .i64 er)] N3 [] E (fun hp => ⟨?_, ?_, ?_, tv⟩) ?_
 ·exact lS 0 6 hp (mq 2 rfl) zAo (sqo 1)
 ·exact wXa (Fq.st [.n a, .n b, .n c]) hp zEv (sqi 0) fun v w h => zEy h (Int.lt_of_lt_of_le ha.out (zAb (by omega))) (Int.lt_of_lt_of_le hb.out (zAb (by omega))) (Int.lt_of_lt_of_le hc.out (zAb (by omega))) HC.out
 ·exact zAh hp fo tv (sqi 1)
 intro L vs w4 nb hL hC hn E4
 have e1 := wXi hC 1
 have e2 := wXi hC 2
 have E := E4; try simp only [LM, zAc] at E
 rw [zAe hL]
 simp only [SP, Nat.zero_add, Nat.reduceAdd]
 rw [e1, e2]
 generalize vs 0 = u4_0
 clear e1 e2 hC hn E4 hL vs L nb
 go_upto_region 2 with (fail)
 refine rg [Fq.is (.int .i64 er), yT] N3 [] E (fun hp => ⟨?_, ?_, tv⟩) ?_
 ·exact zAa hp fo tv (sqo 5)
 ·exact zAd (F := fun v _ => v = .int .i64 er) hp fo tv (sqi 0) (fun ρ w hc h => ⟨.bool true, by simp [execOp, go_sem, h, hc, HN.out], rfl⟩)
 intro L vs w5 nb hL hC hn E5
 have e0 := wXi hC 0
 have e1 := wXi hC 1
 have E := E5; try simp only [LM, zAc] at E
 rw [zAe hL]
 simp only [SP, Nat.zero_add, Nat.reduceAdd]
 rw [e0, e1]
 clear e0 e1 hC hn E5 hL vs L nb
 go_upto_region 3 with (fail)
 refine rg [Fq.st [.n 0, .n 0, .n 0], Fq.st [.n 0, .n 0, .n 0, .n 0], Fq.is (.int .i64 er), Fq.any, Fq.any, Fq.is (.int .i64 er)] [some (4, Fq.st [.n 0, .n 0, .n 0, .n 0]), some (3, Fq.st [.n 0, .n 0, .n 0]), none] [] E (fun hp => ⟨?_, ?_, ?_, ?_, ?_, ?_, tv⟩) ?_
 ·exact zIi hp fo tv (fun v w h => h)
 ·exact zOe hp fo tv (fun v w h => h)
 ·exact zAa hp fo tv (sqo 5)
 ·exact sO 0 0 hp (mq 1 rfl) zBd (sqo 2)
 ·exact sO 0 1 hp (mq 0 rfl) zCs (sqo 3)
 ·exact zAh hp fo tv (sqi 2)
 intro L vs w6 nb hL hC hn E6
 have e2 := wXi hC 2
 have e5 := wXi hC 5
 have E := E6; try simp only [LM, zAc] at E
 rw [zAe hL]
 simp only [SP, Nat.zero_add, Nat.reduceAdd]
 rw [e2, e5]
 generalize vs 0 = u6_0
 generalize vs 1 = u6_1
 clear e2 e5 hC hn E6 hL vs L nb
 clear HC HN
 obtain ⟨_, _, hccr, hffr⟩ := zBt (E.box 1 rfl)
 have hPr := hffr
 obtain ⟨r_p0, r_q0, _, rfl, _r_n0, r_p1, r_q1, _, rfl, _r_n1, r_p2, r_q2, _, rfl, _r_n2, rfl⟩ := hffr
 have cr0 := hccr 0 (by simp)
 have cr1 := hccr 1 (by simp)
 have cr2 := hccr 2 (by simp)
 have cr3 := hccr 3 (by simp)
 have cr4 := hccr 4 (by simp)
 have cr5 := hccr 5 (by simp)
 simp only [List.getD_cons_zero, List.getD_cons_succ] at cr0 cr1 cr2 cr3 cr4 cr5
 clear hccr
 obtain ⟨_, _, hccq, hffq⟩ := zBt (E.box 0 rfl)
 have hPq := hffq
 obtain ⟨q_p0, q_q0, _, rfl, _q_n0, q_p1, q_q1, _, rfl, _q_n1, q_p2, q_q2, _, rfl, _q_n2, q_p3, q_q3, _, rfl, _q_n3, rfl⟩ := hffq
 have cq0 := hccq 0 (by simp)
 have cq1 := hccq 1 (by simp)
 have cq2 := hccq 2 (by simp)
 have cq3 := hccq 3 (by simp)
 have cq4 := hccq 4 (by simp)
 have cq5 := hccq 5 (by simp)
 have cq6 := hccq 6 (by simp)
 have cq7 := hccq 7 (by simp)
 simp only [List.getD_cons_zero, List.getD_cons_succ] at cq0 cq1 cq2 cq3 cq4 cq5 cq6 cq7
 clear hccq
 clear ha hb hc
 go_wp2
 refine bodyPost_ret (v := .tuple #[.agg #[r_p0, r_q0, r_p1, r_q1, r_p2, r_q2], .agg #[q_p0, q_q0, q_p1, q_q1, q_p2, q_q2, q_p3, q_q3], .int .i64 er]) ?_ rfl ⟨_, rfl, E.below, _, _, _, rfl, ⟨_, rfl, hPr⟩, ⟨_, rfl, hPq⟩, rfl⟩
 simp [results, Try.results21, go_sem, cr0, cr1, cr2, cr3, cr4, cr5, cq0, cq1, cq2, cq3, cq4, cq5, cq6, cq7]

open Classical in
noncomputable def redT (a b c : Int) : RS := if redE a b c = 0 then zB7 a b c else ⟨0, 0, 0, 0, 0, 0, 0⟩
theorem zIt {a b c : Int} (h : redE a b c = 0) : redT a b c = zB7 a b c := by unfold redT; rw [if_pos h]
theorem zIs {a b c : Int} (h : ¬ redE a b c = 0) : redT a b c = ⟨0, 0, 0, 0, 0, 0, 0⟩ := by unfold redT; rw [if_neg h]
theorem zIq {a b c : Int} (ha : ab a < pw 5) (hb : ab b < pw 5) (hc : ab c < pw 5) : RB (redT a b c) := by
 by_cases h : redE a b c = 0
 ·rw [zIt h]
  obtain ⟨hd, h0⟩ := zG4 h
  exact (zK9 ha hb hc hd h0).1.bds ha hc hd
 ·rw [zIs h]
  have z : ∀ k, 1 ≤ k → ab (0 : Int) < pw k := fun k hk => Int.lt_of_lt_of_le (show ab (0 : Int) < pw 1 by decide) (zAb hk)
  exact ⟨⟨z _ (by omega), z _ (by omega), z _ (by omega)⟩, z _ (by omega), z _ (by omega), z _ (by omega), z _ (by omega)⟩
theorem zIr {a b c : Int} (ha : ab a < pw 5) (hb : ab b < pw 5) (hc : ab c < pw 5) (h : redE a b c = 0) : Und a b c (redT a b c).x1 (redT a b c).x2 (redT a b c).x3 (redT a b c).x4 (redT a b c).fa (redT a b c).fb (redT a b c).fc ∧ Rdf (redT a b c).fa (redT a b c).fb (redT a b c).fc := by
 rw [zIt h]
 obtain ⟨hd, h0⟩ := zG4 h
 have h1 := zK9 ha hb hc hd h0
 exact ⟨h1.1.u, h1.2⟩
theorem disc_opp (a b c : Int) : -b * -b - 4 * (a * c) = b * b - 4 * (a * c) := by rw [Int.neg_mul_neg]
theorem zK8 {a b c : Int} (h : redE a b c = 0) : redE a (-b) c = 0 := by
 obtain ⟨hd, h0⟩ := zG4 h
 exact zE8 (by rw [disc_opp]; exact hd) h0
noncomputable def invT (a b c : Int) : RS := if redE a b c = 0 then redT a (-b) c else ⟨0, 0, 0, 0, 0, 0, 0⟩
theorem zGl {w : World} {v : Value} {a b c : Int} (h : (Fq.st [.n a, .n b, .n c]).P v w) (ha : ab a < pw 5) (hb : ab b < pw 5) (hc : ab c < pw 5) :
  Calls Try.prog 21 #[v] w fun e w' => ∃ v', e = .returned v' ∧ Below w.heap.size w w' ∧ (Fq.tup3 (Fq.st [.n (redT a b c).fa, .n (redT a b c).fb, .n (redT a b c).fc]) (Fq.st [.n (redT a b c).x1, .n (redT a b c).x2, .n (redT a b c).x3, .n (redT a b c).x4]) (Fq.is (.int .i64 (redE a b c)))).P v' w' := by
 by_cases he : redE a b c = 0
 ·rw [zIt he, he]
  obtain ⟨hd, h0⟩ := zG4 he
  exact zM9 h ha hb hc hd h0
 ·rw [zIs he]
  exact zNa h ha hb hc rfl he

set_option maxRecDepth 100000 in
set_option maxHeartbeats 4000000 in
theorem zMu {w : World} {v : Value} {a b c : Int} (h : (Fq.st [.n a, .n b, .n c]).P v w) (ha : ab a < pw 5) (hb : ab b < pw 5) (hc : ab c < pw 5) (hn : ¬ redE a b c = 0) :
  Calls Try.prog 41 #[v] w fun e w' => ∃ v', e = .returned v' ∧ Below w.heap.size w w' ∧ (Fq.tup2 (Fq.st [.n 0, .n 0, .n 0]) (Fq.is (.int .i64 (redE a b c)))).P v' w' := by
 replace ha := hidd ha
 replace hb := hidd hb
 replace hc := hidd hc
 have HC := hidd (rfl : redE a b c = redE a b c)
 have HN := hidd hn
 clear hn
 obtain ⟨_, rfl, hf0⟩ := h
 have hF0 := hf0
 obtain ⟨y0_p0, y0_q0, _, rfl, _y0_n0, y0_p1, y0_q1, _, rfl, _y0_n1, y0_p2, y0_q2, _, rfl, _y0_n2, rfl⟩ := hf0
 obtain ⟨w1, b1, hw1, hb1, hs1, E⟩ := gS w 33 hF0
 obtain ⟨w2, b2, hw2, hb2, hs2, E⟩ := fO E hs1 33 zBf
 go_enter Try.func41, Try.ntmps41
 go_upto_region 1 with (fail)
 rw [← hw1]
 rw [← hw2]
 rw [← hb2]
 rw [← hb1]
 clear hw1 hw2 hb1 hb2 hs2 hs1
 refine rg [Fq.st [.n a, .n b, .n c], Fq.is (.int .i64 (redE a b c)), Fq.is (.int .i64 (redE a b c))] N2 [] E (fun hp => ⟨?_, ?_, ?_, tv⟩) ?_
 ·exact lS 0 6 hp (mq 1 rfl) zAo (sqo 1)
 ·exact wXa (Fq.st [.n a, .n b, .n c]) hp zEv (sqi 0) fun v w h => zEy h (Int.lt_of_lt_of_le ha.out (zAb (by omega))) (Int.lt_of_lt_of_le hb.out (zAb (by omega))) (Int.lt_of_lt_of_le hc.out (zAb (by omega))) HC.out
 ·exact zAh hp fo tv (sqi 1)
 intro L vs w3 nb hL hC hn E3
 have e1 := wXi hC 1
 have e2 := wXi hC 2
 have E := E3; try simp only [LM, zAc] at E
 rw [zAe hL]
 simp only [SP, Nat.zero_add, Nat.reduceAdd]
 rw [e1, e2]
 generalize vs 0 = u3_0
 clear e1 e2 hC hn E3 hL vs L nb
 go_upto_region 2 with (fail)
 refine rg [Fq.is (.int .i64 (redE a b c)), yT] N2 [] E (fun hp => ⟨?_, ?_, tv⟩) ?_
 ·exact zAa hp fo tv (sqo 4)
 ·exact zAd (F := fun v _ => v = .int .i64 (redE a b c)) hp fo tv (sqi 0) (fun ρ w hc h => ⟨.bool true, by simp [execOp, go_sem, h, hc, HN.out], rfl⟩)
 intro L vs w4 nb hL hC hn E4
 have e0 := wXi hC 0
 have e1 := wXi hC 1
 have E := E4; try simp only [LM, zAc] at E
 rw [zAe hL]
 simp only [SP, Nat.zero_add, Nat.reduceAdd]
 rw [e0, e1]
 clear e0 e1 hC hn E4 hL vs L nb
 go_upto_region 3 with (fail)
 refine rg [Fq.st [.n 0, .n 0, .n 0], Fq.is (.int .i64 (redE a b c)), Fq.any, Fq.is (.int .i64 (redE a b c))] [some (2, Fq.st [.n 0, .n 0, .n 0]), none] [] E (fun hp => ⟨?_, ?_, ?_, ?_, tv⟩) ?_
 ·exact zIi hp fo tv (fun v w h => h)
 ·exact zAa hp fo tv (sqo 4)
 ·exact sO 0 0 hp (mq 0 rfl) zBd (sqo 2)
 ·exact zAh hp fo tv (sqi 1)
 intro L vs w5 nb hL hC hn E5
 have e1 := wXi hC 1
 have e3 := wXi hC 3
 have E := E5; try simp only [LM, zAc] at E
 rw [zAe hL]
 simp only [SP, Nat.zero_add, Nat.reduceAdd]
 rw [e1, e3]
 generalize vs 0 = u5_0
 clear e1 e3 hC hn E5 hL vs L nb
 clear HC HN
 obtain ⟨_, _, hccr, hffr⟩ := zBt (E.box 0 rfl)
 have hPr := hffr
 obtain ⟨r_p0, r_q0, _, rfl, _r_n0, r_p1, r_q1, _, rfl, _r_n1, r_p2, r_q2, _, rfl, _r_n2, rfl⟩ := hffr
 have cr0 := hccr 0 (by simp)
 have cr1 := hccr 1 (by simp)
 have cr2 := hccr 2 (by simp)
 have cr3 := hccr 3 (by simp)
 have cr4 := hccr 4 (by simp)
 have cr5 := hccr 5 (by simp)
 simp only [List.getD_cons_zero, List.getD_cons_succ] at cr0 cr1 cr2 cr3 cr4 cr5
 clear hccr
 clear ha hb hc
 go_wp2
 refine bodyPost_ret (v := .tuple #[.agg #[r_p0, r_q0, r_p1, r_q1, r_p2, r_q2], .int .i64 (redE a b c)]) ?_ rfl ⟨_, rfl, E.below, _, _, rfl, ⟨_, rfl, hPr⟩, rfl⟩
 simp [results, Try.results41, go_sem, cr0, cr1, cr2, cr3, cr4, cr5]

set_option maxRecDepth 100000 in
set_option maxHeartbeats 4000000 in
theorem zMw {w : World} {v : Value} {a b c : Int} (h : (Fq.st [.n a, .n b, .n c]).P v w) (ha : ab a < pw 5) (hb : ab b < pw 5) (hc : ab c < pw 5) (he : redE a b c = 0) :
  Calls Try.prog 41 #[v] w fun e w' => ∃ v', e = .returned v' ∧ Below w.heap.size w w' ∧ (Fq.tup2 (Fq.st [.n (redT a (-b) c).fa, .n (redT a (-b) c).fb, .n (redT a (-b) c).fc]) (Fq.is (.int .i64 0))).P v' w' := by
 replace ha := hidd ha
 replace hb := hidd hb
 replace hc := hidd hc
 have HC := hidd he
 clear he
 obtain ⟨ng, hng⟩ : ∃ ng, ng = -b := ⟨_, rfl⟩
 have hngb : ab ng < pw 5 := by rw [hng]; unfold ab; rw [Int.natAbs_neg]; exact hb.out
 have BN := hidd hngb
 have HN := hidd hng
 have HRE : Hid (redE a ng c = 0) := by show _ = _; rw [HN.out]; exact zK8 HC.out
 obtain ⟨S, hS⟩ : ∃ S, S = redT a ng c := ⟨_, rfl⟩
 have BS := hidd (zIq ha.out hngb hc.out)
 rw [← hS] at BS
 have HS := hidd hS
 clear hng hngb hS
 obtain ⟨_, rfl, hf0⟩ := h
 have hF0 := hf0
 obtain ⟨y0_p0, y0_q0, _, rfl, _y0_n0, y0_p1, y0_q1, _, rfl, _y0_n1, y0_p2, y0_q2, _, rfl, _y0_n2, rfl⟩ := hf0
 obtain ⟨w1, b1, hw1, hb1, hs1, E⟩ := gS w 33 hF0
 obtain ⟨w2, b2, hw2, hb2, hs2, E⟩ := fO E hs1 33 zBf
 go_enter Try.func41, Try.ntmps41
 go_upto_region 1 with (fail)
 rw [← hw1]
 rw [← hw2]
 rw [← hb2]
 rw [← hb1]
 clear hw1 hw2 hb1 hb2 hs2 hs1
 refine rg [Fq.st [.n a, .n b, .n c], Fq.is (.int .i64 0), Fq.is (.int .i64 0)] N2 [] E (fun hp => ⟨?_, ?_, ?_, tv⟩) ?_
 ·exact lS 0 6 hp (mq 1 rfl) zAo (sqo 1)
 ·exact wXa (Fq.st [.n a, .n b, .n c]) hp zEv (sqi 0) fun v w h => zEy h (Int.lt_of_lt_of_le ha.out (zAb (by omega))) (Int.lt_of_lt_of_le hb.out (zAb (by omega))) (Int.lt_of_lt_of_le hc.out (zAb (by omega))) HC.out
 ·exact zAh hp fo tv (sqi 1)
 intro L vs w3 nb hL hC hn E3
 have e1 := wXi hC 1
 have e2 := wXi hC 2
 have E := E3; try simp only [LM, zAc] at E
 rw [zAe hL]
 simp only [SP, Nat.zero_add, Nat.reduceAdd]
 rw [e1, e2]
 generalize vs 0 = u3_0
 clear e1 e2 hC hn E3 hL vs L nb
 go_upto_region 2 with (fail)
 refine rg [Fq.is (.int .i64 0), yF] N2 [] E (fun hp => ⟨?_, ?_, tv⟩) ?_
 ·exact zAa hp fo tv (sqo 4)
 ·exact zAd (F := fun v _ => v = .int .i64 0) hp fo tv (sqi 0) (fun ρ w hc h => ⟨.bool false, by simp [execOp, go_sem, h, hc], rfl⟩)
 intro L vs w4 nb hL hC hn E4
 have e0 := wXi hC 0
 have e1 := wXi hC 1
 have E := E4; try simp only [LM, zAc] at E
 rw [zAe hL]
 simp only [SP, Nat.zero_add, Nat.reduceAdd]
 rw [e0, e1]
 clear e0 e1 hC hn E4 hL vs L nb
 go_upto_region 4 with (fail)
 refine rg [ip b1 2, Fq.num b, Fq.num ng, ip b1 2, Fq.any] [none, some (4, Fq.st [.n a, .n ng, .n c])] [] E (fun hp => ⟨?_, ?_, ?_, ?_, ?_, tv⟩) ?_
 ·exact qa b1 0 2 hp (sqo 1)
 ·exact zD4 (off := 2) (l := 2) hp fo tv (mq 1 rfl) (.inr rfl) rfl zAf rfl (sqi 0) (fun v w h => zAk h)
 ·exact wXa (Fq.num b) hp enq_Neg (sqi 1) fun v w h => (by rw [HN.out]; exact exK (NegV h) (by rw [← HN.out]; exact BN.out) (by omega))
 ·exact qa b1 0 2 hp (sqo 1)
 ·exact zDo (off := 2) (fs := [.n a, .n b, .n c]) (gs := [.n ng]) (fs' := [.n a, .n ng, .n c]) hp (mq 1 rfl) rfl rfl rfl zFv rfl (sqi 3) (zBz 2 rfl rfl (by simp) rfl (fun v w h => zFi h)) (fun _ _ => trivial) (zB4 rfl)
 intro L vs w5 nb hL hC hn E5
 have e0 := wXi hC 0
 have e3 := wXi hC 3
 have E := E5; try simp only [LM, zAc] at E
 rw [zAe hL]
 simp only [SP, Nat.zero_add, Nat.reduceAdd]
 rw [e0, e3]
 generalize vs 1 = u5_1
 generalize vs 2 = u5_2
 clear e0 e3 hC hn E5 hL vs L nb
 go_upto_region 5 with (fail)
 refine rg [Fq.st [.n a, .n ng, .n c], Fq.tup3 (Fq.st [.n S.fa, .n S.fb, .n S.fc]) (Fq.st [.n S.x1, .n S.x2, .n S.x3, .n S.x4]) (Fq.is (.int .i64 0)), Fq.tup3 (Fq.st [.n S.fa, .n S.fb, .n S.fc]) (Fq.st [.n S.x1, .n S.x2, .n S.x3, .n S.x4]) (Fq.is (.int .i64 0)), Fq.st [.n S.fa, .n S.fb, .n S.fc], Fq.st [.n S.x1, .n S.x2, .n S.x3, .n S.x4], Fq.is (.int .i64 0), Fq.any, Fq.any, Fq.any, Fq.any, Fq.is (.int .i64 0)] N2 [⟨6, 8, 6, Fq.st [.n 0, .n 0, .n 0], Fq.st [.n S.fa, .n S.fb, .n S.fc], none⟩, ⟨7, 9, 8, Fq.st [.n 0, .n 0, .n 0, .n 0], Fq.st [.n S.x1, .n S.x2, .n S.x3, .n S.x4], none⟩] E (fun hp => ⟨?_, ?_, ?_, ?_, ?_, ?_, ?_, ?_, ?_, ?_, ?_, tv⟩) ?_
 ·exact lS 0 6 hp (mq 1 rfl) zAo (sqo 1)
 ·exact wXa (Fq.st [.n a, .n ng, .n c]) hp zGj (sqi 0) fun v w h => (by have hh := zGl h ha.out BN.out hc.out; rw [← HS.out, HRE.out] at hh; exact hh)
 ·exact zAa hp fo tv (sqi 1)
 ·exact zA4 hp fo tv (sqi 2) (fun v1 v2 v3 w h1 h2 h3 => ⟨_, rfl, h1⟩)
 ·exact zA4 hp fo tv (sqi 2) (fun v1 v2 v3 w h1 h2 h3 => ⟨_, rfl, h2⟩)
 ·exact zA4 hp fo tv (sqi 2) (fun v1 v2 v3 w h1 h2 h3 => ⟨_, rfl, h3⟩)
 ·exact aS hp (mq 0 rfl) zBf zDg
 ·exact aS hp (mq 1 rfl) zC0 zFt
 ·exact sS 3 hp (mq 0 rfl) zBd
 ·exact sS 4 hp (mq 1 rfl) zCs
 ·exact zAh hp fo tv (sqi 5)
 intro L vs w6 nb hL hC hn E6
 have e5 := wXi hC 5
 have e10 := wXi hC 10
 have e6 : vs 6 = .pointer (some ⟨nb 6, 0, none⟩) := hn _ (mq 0 rfl)
 have e7 : vs 7 = .pointer (some ⟨nb 7, 0, none⟩) := hn _ (mq 1 rfl)
 have E := E6; try simp only [LM, zAc] at E
 rw [zAe hL]
 simp only [SP, Nat.zero_add, Nat.reduceAdd]
 rw [e5, e10, e6, e7]
 generalize nb 6 = b6_6 at E ⊢
 generalize nb 7 = b6_7 at E ⊢
 generalize vs 0 = u6_0
 generalize vs 1 = u6_1
 generalize vs 2 = u6_2
 generalize vs 3 = u6_3
 generalize vs 4 = u6_4
 clear e5 e10 e6 e7 hC hn E6 hL vs L nb
 go_upto_region 6 with (fail)
 refine rg [Fq.st [.n S.fa, .n S.fb, .n S.fc], Fq.is (.int .i64 0), Fq.any, Fq.is (.int .i64 0)] [none, none, some (2, Fq.st [.n S.fa, .n S.fb, .n S.fc]), none] [] E (fun hp => ⟨?_, ?_, ?_, ?_, tv⟩) ?_
 ·exact lS 0 6 hp (mq 0 rfl) zAo (sqo 5)
 ·exact zAa hp fo tv (sqo 7)
 ·exact sO 0 0 hp (mq 2 rfl) zBd (sqo 2)
 ·exact zAh hp fo tv (sqi 1)
 intro L vs w7 nb hL hC hn E7
 have e1 := wXi hC 1
 have e3 := wXi hC 3
 have E := E7; try simp only [LM, zAc] at E
 rw [zAe hL]
 simp only [SP, Nat.zero_add, Nat.reduceAdd]
 rw [e1, e3]
 generalize vs 0 = u7_0
 clear e1 e3 hC hn E7 hL vs L nb
 have hE := HS.out
 have hN2 := HN.out
 clear HC HN HRE HS
 rw [hN2] at hE
 obtain ⟨_, _, hccr, hffr⟩ := zBt (E.box 2 rfl)
 have hPr := hffr
 obtain ⟨r_p0, r_q0, _, rfl, _r_n0, r_p1, r_q1, _, rfl, _r_n1, r_p2, r_q2, _, rfl, _r_n2, rfl⟩ := hffr
 have cr0 := hccr 0 (by simp)
 have cr1 := hccr 1 (by simp)
 have cr2 := hccr 2 (by simp)
 have cr3 := hccr 3 (by simp)
 have cr4 := hccr 4 (by simp)
 have cr5 := hccr 5 (by simp)
 simp only [List.getD_cons_zero, List.getD_cons_succ] at cr0 cr1 cr2 cr3 cr4 cr5
 clear hccr
 clear ha hb hc BN BS
 rw [hE] at hPr
 go_wp2
 refine bodyPost_ret (v := .tuple #[.agg #[r_p0, r_q0, r_p1, r_q1, r_p2, r_q2], .int .i64 0]) ?_ rfl ⟨_, rfl, E.below, _, _, rfl, ⟨_, rfl, hPr⟩, rfl⟩
 simp [results, Try.results41, go_sem, cr0, cr1, cr2, cr3, cr4, cr5]

theorem zMv {w : World} {v : Value} {a b c : Int} (h : (Fq.st [.n a, .n b, .n c]).P v w) (ha : ab a < pw 5) (hb : ab b < pw 5) (hc : ab c < pw 5) :
  Calls Try.prog 41 #[v] w fun e w' => ∃ v', e = .returned v' ∧ Below w.heap.size w w' ∧ (Fq.tup2 (Fq.st [.n (invT a b c).fa, .n (invT a b c).fb, .n (invT a b c).fc]) (Fq.is (.int .i64 (redE a b c)))).P v' w' := by
 unfold invT
 by_cases he : redE a b c = 0
 ·rw [if_pos he, he]; exact zMw h ha hb hc he
 ·rw [if_neg he]; exact zMu h ha hb hc he

def zBp (D : Int) : Int := if (3 + D % 2000) % 4 = 1 then 3 + D % 2000 + 2 else if (3 + D % 2000) % 4 = 2 then 3 + D % 2000 + 1 else 3 + D % 2000
theorem zIx (D : Int) : 3 ≤ zBp D ∧ zBp D ≤ 2004 ∧ (zBp D % 4 = 0 ∨ zBp D % 4 = 3) := by unfold zBp; split <;> (try split) <;> omega
theorem sizeF_at {D n : Int} (h0 : 3 + D % 2000 ≤ n) (h1 : n ≤ zBp D) : (n = zBp D ∧ (n % 4 = 0 ∨ n % 4 = 3)) ∨ (n < zBp D ∧ n % 4 ≠ 0 ∧ n % 4 ≠ 3) := by
 unfold zBp at *
 split at h1
 ·rename_i h; rw [if_pos h]; omega
 ·rename_i h
  rw [if_neg h]
  split at h1
  ·rename_i g; rw [if_pos g]; omega
  ·rename_i g; rw [if_neg g]; omega
theorem zLd : rowB 58 9 = true := by kernel_rfl
set_option maxRecDepth 100000 in
set_option maxHeartbeats 4000000 in
theorem exQTurn {w : World} {z s t : Int} (hz : 0 ≤ z ∧ z ≤ 255) (es : s = z % 8 - 3) (et : t = z / 8 % 8 - 4) :
  Calls Try.prog 33 #[.int .u8 z] w fun e w' => ∃ v', e = .returned v' ∧ Below w.heap.size w w' ∧ (Fq.st [.n s, .n (s * t - 1), .n 1, .n t]).P v' w' := by
 obtain ⟨r, hr⟩ : ∃ r, r = z % 8 := ⟨_, rfl⟩
 obtain ⟨d, hd⟩ : ∃ d, d = z / 8 := ⟨_, rfl⟩
 obtain ⟨q, hq⟩ : ∃ q, q = d % 8 := ⟨_, rfl⟩
 have hr0 : 0 ≤ r ∧ r < 8 := by omega
 have hd0 : 0 ≤ d ∧ d < 32 := by omega
 have hq0 : 0 ≤ q ∧ q < 8 := by omega
 have es2 : s = r - 3 := by rw [es, hr]
 have et2 : t = q - 4 := by rw [et, hq, hd]
 have C0 : Hid (Int.tmod z 8 = r) := by show _ = _; rw [Int.tmod_eq_emod_of_nonneg (by omega), hr]
 have C1 : Hid (Int.tdiv z 8 = d) := by show _ = _; rw [Int.tdiv_eq_ediv_of_nonneg (by omega), hd]
 have C2 : Hid (Int.tmod d 8 = q) := by show _ = _; rw [Int.tmod_eq_emod_of_nonneg (by omega), hq]
 have D0 : Hid (IntKind.u8.wrap r = r) := by show _ = _; simp [IntKind.wrap, IntKind.bits, IntKind.signed]; omega
 have D1 : Hid (IntKind.u8.wrap d = d) := by show _ = _; simp [IntKind.wrap, IntKind.bits, IntKind.signed]; omega
 have D2 : Hid (IntKind.u8.wrap q = q) := by show _ = _; simp [IntKind.wrap, IntKind.bits, IntKind.signed]; omega
 have I0 : Hid (IntKind.i64.wrap r = r) := IntWalk.i64_in _ (by omega)
 have I1 : Hid (IntKind.i64.wrap q = q) := IntWalk.i64_in _ (by omega)
 have E0 : Hid (IntKind.i64.wrap (r - 3) = s) := by show _ = _; rw [es2]; exact IntWalk.i64_in _ (by omega)
 have E1 : Hid (IntKind.i64.wrap (q - 4) = t) := by show _ = _; rw [et2]; exact IntWalk.i64_in _ (by omega)
 have RS1 : Hid (-9223372036854775808 ≤ s ∧ s ≤ 9223372036854775807) := by show _ ∧ _; omega
 have RT1 : Hid (-9223372036854775808 ≤ t ∧ t ≤ 9223372036854775807) := by show _ ∧ _; omega
 have BS : Hid (ab s < pw 3) := zAs RS1.out.1 RS1.out.2
 have BT : Hid (ab t < pw 3) := zAs RT1.out.1 RT1.out.2
 have BV : Hid (ab (s * t - 1) < pw 8) := zDj (zBk BS.out BT.out) (zAs (x := 1) (by decide) (by decide)) (by omega) (by omega)
 clear hr hd hq hr0 hd0 hq0 es2 et2 es et hz
 obtain ⟨w1, b1, hw1, hb1, hs1, E⟩ := zCp w (F := Fq.st [.n 0, .n 0, .n 0, .n 0]) (us := [.bool false, .slice none 0 0, .bool false, .slice none 0 0, .bool false, .slice none 0 0, .bool false, .slice none 0 0]) 36 rfl (by simp) ((Fits.tame (zC0 w))) (zJ3 _)
 go_enter Try.func33, Try.ntmps33
 go_upto_region 1 with (fail)
 rw [← hw1]
 rw [← hb1]
 clear hw1 hb1 hs1
 refine rg [Fq.is (.int .u8 z), Fq.is (.int .u8 r), Fq.is (.int .i64 r), Fq.is (.int .i64 s), Fq.st [.n 1, .n s, .n 0, .n 1], Fq.any, Fq.any] [none] [⟨5, 6, 8, Fq.st [.n 0, .n 0, .n 0, .n 0], Fq.st [.n 1, .n s, .n 0, .n 1], none⟩] E (fun hp => ⟨?_, ?_, ?_, ?_, ?_, ?_, ?_, tv⟩) ?_
 ·exact zAa hp fo tv (sqo 0)
 ·exact zAd (F := fun v _ => v = .int .u8 z) hp fo tv (sqi 0) (fun ρ w hc h => ⟨.int .u8 r, by simp [execOp, go_sem, h, hc, C0.out, D0.out], rfl⟩)
 ·exact zAd (F := fun v _ => v = .int .u8 r) hp fo tv (sqi 1) (fun ρ w hc h => ⟨.int .i64 r, by simp [execOp, go_sem, h, I0.out], rfl⟩)
 ·exact zAd (F := fun v _ => v = .int .i64 r) hp fo tv (sqi 2) (fun ρ w hc h => ⟨.int .i64 s, by simp [execOp, go_sem, h, hc, E0.out], rfl⟩)
 ·exact zDf (F := (Fq.is (.int .i64 1)).P) (G := (Fq.is (.int .i64 s)).P) (F3 := (Fq.is (.int .i64 0)).P) (F4 := (Fq.is (.int .i64 1)).P) hp fo tv (zHo) (zAj (fun _ => rfl)) (sqi 3) (zAj (fun _ => rfl)) (zAj (fun _ => rfl)) (fun v v' u u' w h h' g g' => (by subst h h' g g'; exact zHw (by decide) RS1.out (by decide) (by decide)))
 ·exact aS hp (mq 0 rfl) zC0 zFt
 ·exact sS 4 hp (mq 0 rfl) zCs
 intro L vs w2 nb hL hC hn E2
 have e0 := wXi hC 0
 have e1 := wXi hC 1
 have e2 := wXi hC 2
 have e3 := wXi hC 3
 have e5 : vs 5 = .pointer (some ⟨nb 5, 0, none⟩) := hn _ (mq 0 rfl)
 have E := E2; try simp only [LM, zAc] at E
 rw [zAe hL]
 simp only [SP, Nat.zero_add, Nat.reduceAdd]
 rw [e0, e1, e2, e3, e5]
 generalize nb 5 = b2_5 at E ⊢
 generalize vs 4 = u2_4
 clear e0 e1 e2 e3 e5 hC hn E2 hL vs L nb
 clear C0 I0 E0
 go_upto_region 2 with (fail)
 refine rg [Fq.st [.n 1, .n s, .n 0, .n 1], Fq.st [.n 0, .n (-1), .n 1, .n 0], Fq.st [.n s, .n (-1), .n 1, .n 0], Fq.is (.int .u8 z), Fq.is (.int .u8 d), Fq.is (.int .u8 q), Fq.is (.int .i64 q), Fq.is (.int .i64 t), Fq.st [.n 1, .n t, .n 0, .n 1], Fq.st [.n s, .n (s * t - 1), .n 1, .n t], Fq.any] [none, some (10, Fq.st [.n s, .n (s * t - 1), .n 1, .n t])] [] E (fun hp => ⟨?_, ?_, ?_, ?_, ?_, ?_, ?_, ?_, ?_, ?_, ?_, tv⟩) ?_
 ·exact lS 0 8 hp (mq 0 rfl) zDh (sqo 3)
 ·exact zDf (F := (Fq.is (.int .i64 0)).P) (G := (Fq.is (.int .i64 (-1))).P) (F3 := (Fq.is (.int .i64 1)).P) (F4 := (Fq.is (.int .i64 0)).P) hp fo tv (zHo) (zAj (fun _ => rfl)) (zAj (fun _ => rfl)) (zAj (fun _ => rfl)) (zAj (fun _ => rfl)) (fun v v' u u' w h h' g g' => (by subst h h' g g'; exact zHw (by decide) (by decide) (by decide) (by decide)))
 ·exact wXb (Fq.st [.n 1, .n s, .n 0, .n 1]) (Fq.st [.n 0, .n (-1), .n 1, .n 0]) hp zJk (sqi 0) (sqi 1) fun v v' w h h' => (by have hh := zJ0 h h' (Int.lt_of_lt_of_le (zAs (by decide) (by decide)) (zAb (by omega))) (Int.lt_of_lt_of_le BS.out (zAb (by omega))) (Int.lt_of_lt_of_le (zAs (by decide) (by decide)) (zAb (by omega))) (Int.lt_of_lt_of_le (zAs (by decide) (by decide)) (zAb (by omega))) (Int.lt_of_lt_of_le (zAs (by decide) (by decide)) (zAb (by omega))) (Int.lt_of_lt_of_le (zAs (by decide) (by decide)) (zAb (by omega))) (Int.lt_of_lt_of_le (zAs (by decide) (by decide)) (zAb (by omega))) (Int.lt_of_lt_of_le (zAs (by decide) (by decide)) (zAb (by omega))); rw [show (((1 * 0) + (s * 1)) : Int) = s by omega, show (((1 * (-1)) + (s * 0)) : Int) = (-1) by omega, show (((0 * 0) + (1 * 1)) : Int) = 1 by omega, show (((0 * (-1)) + (1 * 0)) : Int) = 0 by omega] at hh; exact hh)
 ·exact zAa hp fo tv (sqo 0)
 ·exact zAd (F := fun v _ => v = .int .u8 z) hp fo tv (sqi 3) (fun ρ w hc h => ⟨.int .u8 d, by simp [execOp, go_sem, h, hc, C1.out, D1.out], rfl⟩)
 ·exact zAd (F := fun v _ => v = .int .u8 d) hp fo tv (sqi 4) (fun ρ w hc h => ⟨.int .u8 q, by simp [execOp, go_sem, h, hc, C2.out, D2.out], rfl⟩)
 ·exact zAd (F := fun v _ => v = .int .u8 q) hp fo tv (sqi 5) (fun ρ w hc h => ⟨.int .i64 q, by simp [execOp, go_sem, h, I1.out], rfl⟩)
 ·exact zAd (F := fun v _ => v = .int .i64 q) hp fo tv (sqi 6) (fun ρ w hc h => ⟨.int .i64 t, by simp [execOp, go_sem, h, hc, E1.out], rfl⟩)
 ·exact zDf (F := (Fq.is (.int .i64 1)).P) (G := (Fq.is (.int .i64 t)).P) (F3 := (Fq.is (.int .i64 0)).P) (F4 := (Fq.is (.int .i64 1)).P) hp fo tv (zHo) (zAj (fun _ => rfl)) (sqi 7) (zAj (fun _ => rfl)) (zAj (fun _ => rfl)) (fun v v' u u' w h h' g g' => (by subst h h' g g'; exact zHw (by decide) RT1.out (by decide) (by decide)))
 ·exact wXb (Fq.st [.n s, .n (-1), .n 1, .n 0]) (Fq.st [.n 1, .n t, .n 0, .n 1]) hp zJk (sqi 2) (sqi 8) fun v v' w h h' => (by have hh := zJ0 h h' (Int.lt_of_lt_of_le BS.out (zAb (by omega))) (Int.lt_of_lt_of_le (zAs (by decide) (by decide)) (zAb (by omega))) (Int.lt_of_lt_of_le (zAs (by decide) (by decide)) (zAb (by omega))) (Int.lt_of_lt_of_le (zAs (by decide) (by decide)) (zAb (by omega))) (Int.lt_of_lt_of_le (zAs (by decide) (by decide)) (zAb (by omega))) (Int.lt_of_lt_of_le BT.out (zAb (by omega))) (Int.lt_of_lt_of_le (zAs (by decide) (by decide)) (zAb (by omega))) (Int.lt_of_lt_of_le (zAs (by decide) (by decide)) (zAb (by omega))); rw [show (((s * 1) + ((-1) * 0)) : Int) = s by omega, show (((s * t) + ((-1) * 1)) : Int) = (s * t - 1) by omega, show (((1 * 1) + (0 * 0)) : Int) = 1 by omega, show (((1 * t) + (0 * 1)) : Int) = t by omega] at hh; exact hh)
 ·exact sO 0 9 hp (mq 1 rfl) zCs (sqo 2)
 intro L vs w3 nb hL hC hn E3
 have e3 := wXi hC 3
 have e4 := wXi hC 4
 have e5 := wXi hC 5
 have e6 := wXi hC 6
 have e7 := wXi hC 7
 have E := E3; try simp only [LM, zAc] at E
 rw [zAe hL]
 simp only [SP, Nat.zero_add, Nat.reduceAdd]
 rw [e3, e4, e5, e6, e7]
 generalize vs 0 = u3_0
 generalize vs 1 = u3_1
 generalize vs 2 = u3_2
 generalize vs 8 = u3_8
 generalize vs 9 = u3_9
 clear e3 e4 e5 e6 e7 hC hn E3 hL vs L nb
 clear C1 D1 C2 D2 I1 E1 RS1 RT1
 obtain ⟨_, _, hc0, hf0⟩ := zBt (E.box 1 rfl)
 have hP0 := hf0
 obtain ⟨r0_p0, r0_q0, _, rfl, _r0_n0, r0_p1, r0_q1, _, rfl, _r0_n1, r0_p2, r0_q2, _, rfl, _r0_n2, r0_p3, r0_q3, _, rfl, _r0_n3, rfl⟩ := hf0
 have c0_0 := hc0 0 (by simp)
 have c0_1 := hc0 1 (by simp)
 have c0_2 := hc0 2 (by simp)
 have c0_3 := hc0 3 (by simp)
 have c0_4 := hc0 4 (by simp)
 have c0_5 := hc0 5 (by simp)
 have c0_6 := hc0 6 (by simp)
 have c0_7 := hc0 7 (by simp)
 simp only [List.getD_cons_zero, List.getD_cons_succ] at c0_0 c0_1 c0_2 c0_3 c0_4 c0_5 c0_6 c0_7
 clear hc0
 clear BS BT BV
 go_wp2
 refine bodyPost_ret (v := .agg #[r0_p0, r0_q0, r0_p1, r0_q1, r0_p2, r0_q2, r0_p3, r0_q3]) ?_ rfl ⟨_, rfl, E.below, ⟨_, rfl, hP0⟩⟩
 simp [results, Try.results33, go_sem, c0_0, c0_1, c0_2, c0_3, c0_4, c0_5, c0_6, c0_7]

set_option maxRecDepth 100000 in
set_option maxHeartbeats 4000000 in
theorem exQSize {w : World} {v : Value} {D i0 i1 i2 i3 m0 m1 m2 m3 : Int} (h : (Fq.st [.v (.int .u16 D), .v (.int .u16 i0), .v (.int .u16 i1), .v (.int .u16 i2), .v (.int .u16 i3), .v (.int .u8 m0), .v (.int .u8 m1), .v (.int .u8 m2), .v (.int .u8 m3)]).P v w) (hD : 0 ≤ D ∧ D ≤ 65535) :
  Calls Try.prog 68 #[v] w fun e w' => ∃ v', e = .returned v' ∧ Below w.heap.size w w' ∧ v' = .int .i64 (zBp D) := by
 obtain ⟨r, hr⟩ : ∃ r, r = D % 2000 := ⟨_, rfl⟩
 have hr0 : 0 ≤ r ∧ r < 2000 := by omega
 obtain ⟨k, hk⟩ : ∃ k, k = 3 + r := ⟨_, rfl⟩
 have hk1 : 3 + D % 2000 ≤ k := by omega
 have hk2 : k ≤ zBp D := by unfold zBp; rw [← hr]; split <;> (try split) <;> omega
 have C0 : Hid (Int.tmod D 2000 = r) := by show _ = _; rw [Int.tmod_eq_emod_of_nonneg (by omega), hr]
 have I0 : Hid (IntKind.i64.wrap r = r) := IntWalk.i64_in _ (by omega)
 have E0 : Hid (IntKind.i64.wrap (3 + r) = k) := by show _ = _; rw [hk]; exact IntWalk.i64_in _ (by omega)
 have HK := hidd (And.intro hk1 hk2)
 clear hr hr0 hk hk1 hk2 hD
 obtain ⟨_, rfl, hf0⟩ := h
 have hF0 := hf0
 obtain ⟨_, rfl, _, _, rfl, _, _, rfl, _, _, rfl, _, _, rfl, _, _, rfl, _, _, rfl, _, _, rfl, _, _, rfl, _, rfl⟩ := hf0
 obtain ⟨w1, b1, hw1, hb1, hs1, E⟩ := gS w 58 hF0
 go_enter Try.func68, Try.ntmps68
 go_upto_region 1 with (fail)
 rw [← hw1]
 rw [← hb1]
 clear hw1 hb1 hs1
 refine rg [ip b1 0, Fq.is (.int .u16 D), Fq.is (.int .u16 r), Fq.is (.int .i64 r), Fq.is (.int .i64 k), Fq.is (.int .i64 k)] [none] [] E (fun hp => ⟨?_, ?_, ?_, ?_, ?_, ?_, tv⟩) ?_
 ·exact qa b1 0 0 hp (sqo 1)
 ·exact wXc 0 hp (mq 0 rfl) (sqi 0)
 ·exact zAd (F := fun v _ => v = .int .u16 D) hp fo tv (sqi 1) (fun ρ w hc h => ⟨.int .u16 r, by simp [execOp, go_sem, h, hc, C0.out], rfl⟩)
 ·exact zAd (F := fun v _ => v = .int .u16 r) hp fo tv (sqi 2) (fun ρ w hc h => ⟨.int .i64 r, by simp [execOp, go_sem, h, I0.out], rfl⟩)
 ·exact zAd (F := fun v _ => v = .int .i64 r) hp fo tv (sqi 3) (fun ρ w hc h => ⟨.int .i64 k, by simp [execOp, go_sem, h, hc, E0.out], rfl⟩)
 ·exact zAh hp fo tv (sqi 4)
 intro L vs w2 nb hL hC hn E2
 have e0 := wXi hC 0
 have e1 := wXi hC 1
 have e2 := wXi hC 2
 have e3 := wXi hC 3
 have e4 := wXi hC 4
 have e5 := wXi hC 5
 have E := E2; try simp only [LM, zAc] at E
 rw [zAe hL]
 simp only [SP, Nat.zero_add, Nat.reduceAdd]
 rw [e0, e1, e2, e3, e4, e5]
 clear e0 e1 e2 e3 e4 e5 hC hn E2 hL vs L nb
 clear C0 I0 E0
 have HE := hidd E
 clear E
 obtain ⟨W0, rfl⟩ : ∃ W0, W0 = w2 := ⟨_, rfl⟩
 go_wp2_with (fail)
 go_loopw [3] (fun vn W => ∃ n : Int, vn = .int .i64 n ∧ 3 + D % 2000 ≤ n ∧ n ≤ zBp D ∧ Fr w [(b1, 9, Fq.st [.v (.int .u16 D), .v (.int .u16 i0), .v (.int .u16 i1), .v (.int .u16 i2), .v (.int .u16 i3), .v (.int .u8 m0), .v (.int .u8 m1), .v (.int .u8 m2), .v (.int .u8 m3)])] W) (fun vn _ => (zBp D - intOf vn).toNat)
 case atStart => exact ⟨k, rfl, HK.out.1, HK.out.2, HE.out⟩
 case round =>
  clear HE HK
  obtain ⟨V2, rfl⟩ : ∃ V2, V2 = wr := ⟨_, rfl⟩
  obtain ⟨n, rfl, hn1, hn2, E⟩ := hrel
  have hc := sizeF_at hn1 hn2
  have hsz := zIx D
  obtain ⟨rm, hrm⟩ : ∃ rm, rm = n % 4 := ⟨_, rfl⟩
  rw [← hrm] at hc
  have hn0 : 0 ≤ n ∧ n ≤ 2004 := by omega
  have TM : Hid (Int.tmod n 4 = rm) := by show _ = _; rw [Int.tmod_eq_emod_of_nonneg (by omega), hrm]
  clear hrm hsz
  go_upto_region 2 with (fail)
  by_cases hr0 : rm = 0
  ·have T1 : Hid (rm = 0) := by show _ = _; omega
   have hEq : n = zBp D := by omega
   have HEQ := hidd hEq
   clear hc hn1 hn2 hn0 hEq hr0
   refine rg [Fq.is (.int .i64 n), Fq.is (.int .i64 rm), yF, yF, Fq.is (undef), Fq.is (undef), Fq.is (undef), yF] [none] [] E (fun hp => ⟨?_, ?_, ?_, ?_, ?_, ?_, ?_, ?_, tv⟩) ?_
   ·exact zAa hp fo tv (sqo 3)
   ·exact zAd (F := fun v _ => v = .int .i64 n) hp fo tv (sqi 0) (fun ρ w hc h => ⟨.int .i64 rm, by simp [execOp, go_sem, h, hc, TM.out], rfl⟩)
   ·exact zAd (F := fun v _ => v = .int .i64 rm) hp fo tv (sqi 1) (fun ρ w hc h => ⟨.bool false, by simp [execOp, go_sem, h, hc, T1.out], rfl⟩)
   ·exact zAa hp fo tv (sqi 2)
   ·exact zAi hp fo rfl gqi (fun _ => rfl)
   ·exact zAi hp fo rfl gqi (fun _ => rfl)
   ·exact zAi hp fo rfl gqi (fun _ => rfl)
   ·exact zAg (F := fun v _ => v = .bool false) (G := fun v _ => v = .bool false) hp fo tv (sqi 3) (zAj (fun _ => rfl)) (fun ρ w hc h h' => ⟨_, by simp [execOp, go_sem, h, h'], rfl⟩)
   intro L vs w3 nb hL hC hn E3
   have e0 := wXi hC 0
   have e1 := wXi hC 1
   have e2 := wXi hC 2
   have e3 := wXi hC 3
   have e4 := wXi hC 4
   have e5 := wXi hC 5
   have e6 := wXi hC 6
   have e7 := wXi hC 7
   have E := E3; try simp only [LM, zAc] at E
   rw [zAe hL]
   simp only [SP, Nat.zero_add, Nat.reduceAdd]
   rw [e0, e1, e2, e3, e4, e5, e6, e7]
   clear e0 e1 e2 e3 e4 e5 e6 e7 hC hn E3 hL vs L nb
   go_upto_region 4 with (fail)
   refine rg [Fq.is (.int .i64 n), Fq.is (.int .i64 n)] [none] [] E (fun hp => ⟨?_, ?_, tv⟩) ?_
   ·exact zAa hp fo tv (sqo 3)
   ·exact zAh hp fo tv (sqi 0)
   intro L vs w4 nb hL hC hn E4
   have e0 := wXi hC 0
   have e1 := wXi hC 1
   have E := E4; try simp only [LM, zAc] at E
   rw [zAe hL]
   simp only [SP, Nat.zero_add, Nat.reduceAdd]
   rw [e0, e1]
   clear e0 e1 hC hn E4 hL vs L nb
   have hEq := HEQ.out
   clear T1 TM HEQ
   go_wp2
   refine bodyPost_ret (v := .int .i64 n) ?_ rfl ⟨_, rfl, E.below, by rw [hEq]⟩
   simp [results, Try.results68, go_sem]
  ·by_cases hr3 : rm = 3
   ·have T1 : Hid (¬ rm = 0) := by show ¬ _; omega
    have T2 : Hid (rm = 3) := by show _ = _; omega
    have hEq : n = zBp D := by omega
    have HEQ := hidd hEq
    clear hc hn1 hn2 hn0 hEq hr3
    refine rg [Fq.is (.int .i64 n), Fq.is (.int .i64 rm), yT, yT, Fq.is (.int .i64 n), Fq.is (.int .i64 rm), yF, yF] [none] [] E (fun hp => ⟨?_, ?_, ?_, ?_, ?_, ?_, ?_, ?_, tv⟩) ?_
    ·exact zAa hp fo tv (sqo 3)
    ·exact zAd (F := fun v _ => v = .int .i64 n) hp fo tv (sqi 0) (fun ρ w hc h => ⟨.int .i64 rm, by simp [execOp, go_sem, h, hc, TM.out], rfl⟩)
    ·exact zAd (F := fun v _ => v = .int .i64 rm) hp fo tv (sqi 1) (fun ρ w hc h => ⟨.bool true, by simp [execOp, go_sem, h, hc, T1.out], rfl⟩)
    ·exact zAa hp fo tv (sqi 2)
    ·exact zAa hp fo gqi (sqo 3)
    ·exact zAd (F := fun v _ => v = .int .i64 n) hp fo gqi (sqi 4) (fun ρ w hc h => ⟨.int .i64 rm, by simp [execOp, go_sem, h, hc, TM.out], rfl⟩)
    ·exact zAd (F := fun v _ => v = .int .i64 rm) hp fo gqi (sqi 5) (fun ρ w hc h => ⟨.bool false, by simp [execOp, go_sem, h, hc, T2.out], rfl⟩)
    ·exact zAg (F := fun v _ => v = .bool true) (G := fun v _ => v = .bool false) hp fo tv (sqi 3) (sqi 6) (fun ρ w hc h h' => ⟨_, by simp [execOp, go_sem, h, h'], rfl⟩)
    intro L vs w5 nb hL hC hn E5
    have e0 := wXi hC 0
    have e1 := wXi hC 1
    have e2 := wXi hC 2
    have e3 := wXi hC 3
    have e4 := wXi hC 4
    have e5 := wXi hC 5
    have e6 := wXi hC 6
    have e7 := wXi hC 7
    have E := E5; try simp only [LM, zAc] at E
    rw [zAe hL]
    simp only [SP, Nat.zero_add, Nat.reduceAdd]
    rw [e0, e1, e2, e3, e4, e5, e6, e7]
    clear e0 e1 e2 e3 e4 e5 e6 e7 hC hn E5 hL vs L nb
    go_upto_region 4 with (fail)
    refine rg [Fq.is (.int .i64 n), Fq.is (.int .i64 n)] [none] [] E (fun hp => ⟨?_, ?_, tv⟩) ?_
    ·exact zAa hp fo tv (sqo 3)
    ·exact zAh hp fo tv (sqi 0)
    intro L vs w6 nb hL hC hn E6
    have e0 := wXi hC 0
    have e1 := wXi hC 1
    have E := E6; try simp only [LM, zAc] at E
    rw [zAe hL]
    simp only [SP, Nat.zero_add, Nat.reduceAdd]
    rw [e0, e1]
    clear e0 e1 hC hn E6 hL vs L nb
    have hEq := HEQ.out
    clear T1 TM HEQ T2
    go_wp2
    refine bodyPost_ret (v := .int .i64 n) ?_ rfl ⟨_, rfl, E.below, by rw [hEq]⟩
    simp [results, Try.results68, go_sem]
   ·have T1 : Hid (¬ rm = 0) := by show ¬ _; omega
    have T2 : Hid (¬ rm = 3) := by show ¬ _ = _; omega
    have HN := hidd (show n < zBp D ∧ 3 + D % 2000 ≤ n ∧ n ≤ 2004 by omega)
    have W1 : Hid (IntKind.i64.wrap (n + 1) = n + 1) := IntWalk.i64_in _ (by omega)
    clear hc hn1 hn2 hn0 hr0 hr3
    refine rg [Fq.is (.int .i64 n), Fq.is (.int .i64 rm), yT, yT, Fq.is (.int .i64 n), Fq.is (.int .i64 rm), yT, yT] [none] [] E (fun hp => ⟨?_, ?_, ?_, ?_, ?_, ?_, ?_, ?_, tv⟩) ?_
    ·exact zAa hp fo tv (sqo 3)
    ·exact zAd (F := fun v _ => v = .int .i64 n) hp fo tv (sqi 0) (fun ρ w hc h => ⟨.int .i64 rm, by simp [execOp, go_sem, h, hc, TM.out], rfl⟩)
    ·exact zAd (F := fun v _ => v = .int .i64 rm) hp fo tv (sqi 1) (fun ρ w hc h => ⟨.bool true, by simp [execOp, go_sem, h, hc, T1.out], rfl⟩)
    ·exact zAa hp fo tv (sqi 2)
    ·exact zAa hp fo gqi (sqo 3)
    ·exact zAd (F := fun v _ => v = .int .i64 n) hp fo gqi (sqi 4) (fun ρ w hc h => ⟨.int .i64 rm, by simp [execOp, go_sem, h, hc, TM.out], rfl⟩)
    ·exact zAd (F := fun v _ => v = .int .i64 rm) hp fo gqi (sqi 5) (fun ρ w hc h => ⟨.bool true, by simp [execOp, go_sem, h, hc, T2.out], rfl⟩)
    ·exact zAg (F := fun v _ => v = .bool true) (G := fun v _ => v = .bool true) hp fo tv (sqi 3) (sqi 6) (fun ρ w hc h h' => ⟨_, by simp [execOp, go_sem, h, h'], rfl⟩)
    intro L vs w7 nb hL hC hn E7
    have e0 := wXi hC 0
    have e1 := wXi hC 1
    have e2 := wXi hC 2
    have e3 := wXi hC 3
    have e4 := wXi hC 4
    have e5 := wXi hC 5
    have e6 := wXi hC 6
    have e7 := wXi hC 7
    have E := E7; try simp only [LM, zAc] at E
    rw [zAe hL]
    simp only [SP, Nat.zero_add, Nat.reduceAdd]
    rw [e0, e1, e2, e3, e4, e5, e6, e7]
    clear e0 e1 e2 e3 e4 e5 e6 e7 hC hn E7 hL vs L nb
    go_upto_region 3 with (fail)
    refine rg [Fq.is (.int .i64 n), Fq.is (.int .i64 (n + 1)), Fq.is (.int .i64 (n + 1))] [none] [] E (fun hp => ⟨?_, ?_, ?_, tv⟩) ?_
    ·exact q_moveB 2 3 hp fo tv rfl rfl rfl rfl (fun _ => rfl)
    ·exact zAd (F := fun v _ => v = .int .i64 n) hp fo tv (sqi 0) (fun ρ w hc h => ⟨.int .i64 (n + 1), by simp [execOp, go_sem, h, hc, W1.out], rfl⟩)
    ·exact zAh hp fo tv (sqi 1)
    intro L vs w8 nb hL hC hn E8
    have e0 := wXi hC 0
    have e1 := wXi hC 1
    have e2 := wXi hC 2
    have E := E8; try simp only [LM, zAc] at E
    rw [zAe hL]
    simp only [SP, Nat.zero_add, Nat.reduceAdd]
    rw [e0, e1, e2]
    clear e0 e1 e2 hC hn E8 hL vs L nb
    have hN := HN.out
    clear T1 T2 TM HN W1
    go_wp2
    go_roundw
    case rel => exact ⟨n + 1, rfl, by omega, by omega, E⟩
    case measure => first | (simp [intOf]; omega) | simp [intOf]

section
variable {n1 n2 n3 n4 n5 n6 n7 : Bool} {a1 a2 a3 a4 a5 a6 a7 : Option Addr} {k1 c1 k2 c2 k3 c3 k4 c4 k5 c5 k6 c6 k7 c7 : Nat} {xs1 xs2 xs3 xs4 xs5 xs6 xs7 : List Int}
end
section
variable {os : List Oper} {Q : Exit → Act → World → Prop} {a : Act} {p : Pq} {B B0 : Nat} {w0 : World}
variable {i s : Nat} {d : Option Tmp} {ty : TypeId} {ps : String} {af : Array Edge} {gd : Option (Nat × Bool)}
end
theorem zL9 (args : Array Value) (w : World) : (callFunc 9 args).run Try.prog w = .ok (.enter 9 args) w := zAq Try.func9 (by kernel_rfl) rfl args w
theorem redT_eq {a b c p q r s a' b' c' : Int} (ha : ab a < pw 5) (hb : ab b < pw 5) (hc : ab c < pw 5) (h : redE a b c = 0) (hu : Und a b c p q r s a' b' c') (hr : Rdf a' b' c') : (redT a b c).fa = a' ∧ (redT a b c).fb = b' ∧ (redT a b c).fc = c' := by
 obtain ⟨h1, h2⟩ := zIr ha hb hc h
 exact Und.same hu h1 hr h2
theorem lit5 {z : Int} (h : -9223372036854775808 ≤ z) (h' : z ≤ 9223372036854775807) : ab z < pw 5 := Int.lt_of_lt_of_le (zAs h h') (zAb (by omega))
theorem red_ex : redE 10 34 29 = 0 ∧ ((redT 10 34 29).fa = 1 ∧ (redT 10 34 29).fb = 0 ∧ (redT 10 34 29).fc = 1) ∧ (redT 10 34 29).x1 * (redT 10 34 29).x4 - (redT 10 34 29).x2 * (redT 10 34 29).x3 = 1 := by
 have h : redE 10 34 29 = 0 := zE8 (by decide) (by decide)
 have ha : ab (10 : Int) < pw 5 := lit5 (by decide) (by decide)
 have hb : ab (34 : Int) < pw 5 := lit5 (by decide) (by decide)
 have hc : ab (29 : Int) < pw 5 := lit5 (by decide) (by decide)
 exact ⟨h, redT_eq (p := -2) (q := 5) (r := 1) (s := -3) ha hb hc h ⟨by decide, by decide, by decide, by decide⟩ ⟨by decide, by decide, by decide, by decide, by decide⟩, (zIr ha hb hc h).1.d⟩
theorem inv_ex : redE 2 1 3 = 0 ∧ ((invT 2 1 3).fa = 2 ∧ (invT 2 1 3).fb = -1 ∧ (invT 2 1 3).fc = 3) := by
 have h : redE 2 1 3 = 0 := zE8 (by decide) (by decide)
 refine ⟨h, ?_⟩
 unfold invT
 rw [if_pos h]
 exact redT_eq (lit5 (by decide) (by decide)) (lit5 (by decide) (by decide)) (lit5 (by decide) (by decide)) (zK8 h) (Und.one 2 (-1) 3) ⟨by decide, by decide, by decide, by decide, by decide⟩
theorem ind_ex : redE 1 0 (-2) = 5 ∧ redT 1 0 (-2) = ⟨0, 0, 0, 0, 0, 0, 0⟩ := by
 have h : redE 1 0 (-2) = 5 := by decide
 exact ⟨h, zIs (by rw [h]; decide)⟩
set_option maxRecDepth 100000 in
set_option maxHeartbeats 4000000 in
theorem zMk (w : World) :
  Calls Try.prog 9 #[] w fun e w' => ∃ v', e = .returned v' ∧ Below w.heap.size w w' ∧ v' = .bool true := by
 obtain ⟨S, hS⟩ : ∃ S, S = redT 10 34 29 := ⟨_, rfl⟩
 have hre := red_ex
 rw [← hS] at hre
 have HS := hidd hS
 have HR0 := hidd hre.1
 have HRA := hidd hre.2.1.1
 have HRB := hidd hre.2.1.2.1
 have HRC := hidd hre.2.1.2.2
 have HRD := hidd hre.2.2
 have BS := hidd (zIq (a := 10) (b := 34) (c := 29) (lit5 (by decide) (by decide)) (lit5 (by decide) (by decide)) (lit5 (by decide) (by decide)))
 rw [← hS] at BS
 clear hS hre
 go_enter Try.func9, Try.ntmps9
 go_upto_region 1 with (fail)
 have E := Fr.start w
 refine rg [Fq.st [.n 2, .n 1, .n 3], Fq.any, Fq.any] [] [⟨1, 2, 6, Fq.st [.n 0, .n 0, .n 0], Fq.st [.n 2, .n 1, .n 3], none⟩] E (fun hp => ⟨?_, ?_, ?_, tv⟩) ?_
 ·exact zB1 (F := (Fq.is (.int .i64 2)).P) (G := (Fq.is (.int .i64 1)).P) (F3 := (Fq.is (.int .i64 3)).P) hp fo tv (zDl) (zAj (fun _ => rfl)) (zAj (fun _ => rfl)) (zAj (fun _ => rfl)) (fun v v' u w h h' g => (by subst h h' g; exact zDm (by decide) (by decide) (by decide)))
 ·exact aS hp (mq 0 rfl) zBf zDg
 ·exact sS 0 hp (mq 0 rfl) zBd
 intro L vs w1 nb hL hC hn E1
 have e1 : vs 1 = .pointer (some ⟨nb 1, 0, none⟩) := hn _ (mq 0 rfl)
 have E := E1; try simp only [LM, zAc] at E
 rw [zAe hL]
 simp only [SP, Nat.zero_add, Nat.reduceAdd]
 rw [e1]
 generalize nb 1 = b1_1 at E ⊢
 generalize vs 0 = u1_0
 clear e1 hC hn E1 hL vs L nb
 go_upto_region 2 with (fail)
 refine rg [Fq.st [.n 10, .n 34, .n 29], Fq.tup3 (Fq.st [.n 1, .n 0, .n 1]) (Fq.st [.n S.x1, .n S.x2, .n S.x3, .n S.x4]) (Fq.is (.int .i64 0)), Fq.tup3 (Fq.st [.n 1, .n 0, .n 1]) (Fq.st [.n S.x1, .n S.x2, .n S.x3, .n S.x4]) (Fq.is (.int .i64 0)), Fq.st [.n 1, .n 0, .n 1], Fq.st [.n S.x1, .n S.x2, .n S.x3, .n S.x4], Fq.is (.int .i64 0), Fq.any, Fq.any, Fq.any, Fq.any, Fq.is (.int .i64 0)] [none] [⟨6, 8, 6, Fq.st [.n 0, .n 0, .n 0], Fq.st [.n 1, .n 0, .n 1], none⟩, ⟨7, 9, 8, Fq.st [.n 0, .n 0, .n 0, .n 0], Fq.st [.n S.x1, .n S.x2, .n S.x3, .n S.x4], none⟩] E (fun hp => ⟨?_, ?_, ?_, ?_, ?_, ?_, ?_, ?_, ?_, ?_, ?_, tv⟩) ?_
 ·exact zB1 (F := (Fq.is (.int .i64 10)).P) (G := (Fq.is (.int .i64 34)).P) (F3 := (Fq.is (.int .i64 29)).P) hp fo tv (zDl) (zAj (fun _ => rfl)) (zAj (fun _ => rfl)) (zAj (fun _ => rfl)) (fun v v' u w h h' g => (by subst h h' g; exact zDm (by decide) (by decide) (by decide)))
 ·exact wXa (Fq.st [.n 10, .n 34, .n 29]) hp zGj (sqi 0) fun v w h => (by have hh := zGl h (lit5 (by decide) (by decide)) (lit5 (by decide) (by decide)) (lit5 (by decide) (by decide)); rw [← HS.out, HR0.out, HRA.out, HRB.out, HRC.out] at hh; exact hh)
 ·exact zAa hp fo tv (sqi 1)
 ·exact zA4 hp fo tv (sqi 2) (fun v1 v2 v3 w h1 h2 h3 => ⟨_, rfl, h1⟩)
 ·exact zA4 hp fo tv (sqi 2) (fun v1 v2 v3 w h1 h2 h3 => ⟨_, rfl, h2⟩)
 ·exact zA4 hp fo tv (sqi 2) (fun v1 v2 v3 w h1 h2 h3 => ⟨_, rfl, h3⟩)
 ·exact aS hp (mq 0 rfl) zBf zDg
 ·exact aS hp (mq 1 rfl) zC0 zFt
 ·exact sS 3 hp (mq 0 rfl) zBd
 ·exact sS 4 hp (mq 1 rfl) zCs
 ·exact zAh hp fo tv (sqi 5)
 intro L vs w2 nb hL hC hn E2
 have e5 := wXi hC 5
 have e10 := wXi hC 10
 have e6 : vs 6 = .pointer (some ⟨nb 6, 0, none⟩) := hn _ (mq 0 rfl)
 have e7 : vs 7 = .pointer (some ⟨nb 7, 0, none⟩) := hn _ (mq 1 rfl)
 have E := E2; try simp only [LM, zAc] at E
 rw [zAe hL]
 simp only [SP, Nat.zero_add, Nat.reduceAdd]
 rw [e5, e10, e6, e7]
 generalize nb 6 = b2_6 at E ⊢
 generalize nb 7 = b2_7 at E ⊢
 generalize vs 0 = u2_0
 generalize vs 1 = u2_1
 generalize vs 2 = u2_2
 generalize vs 3 = u2_3
 generalize vs 4 = u2_4
 clear e5 e10 e6 e7 hC hn E2 hL vs L nb
 go_upto_region 3 with (fail)
 refine rg [Fq.st [.n 2, .n 1, .n 3], Fq.tup2 (Fq.st [.n 2, .n (-1), .n 3]) (Fq.is (.int .i64 0)), Fq.tup2 (Fq.st [.n 2, .n (-1), .n 3]) (Fq.is (.int .i64 0)), Fq.st [.n 2, .n (-1), .n 3], Fq.is (.int .i64 0), Fq.any, Fq.any, Fq.is (.int .i64 0)] N3 [⟨5, 6, 6, Fq.st [.n 0, .n 0, .n 0], Fq.st [.n 2, .n (-1), .n 3], none⟩] E (fun hp => ⟨?_, ?_, ?_, ?_, ?_, ?_, ?_, ?_, tv⟩) ?_
 ·exact lS 0 6 hp (mq 2 rfl) zAo (sqo 1)
 ·exact wXa (Fq.st [.n 2, .n 1, .n 3]) hp zMf (sqi 0) fun v w h => (by have hh := zMv h (lit5 (by decide) (by decide)) (lit5 (by decide) (by decide)) (lit5 (by decide) (by decide)); rw [inv_ex.1, inv_ex.2.1, inv_ex.2.2.1, inv_ex.2.2.2] at hh; exact hh)
 ·exact zAa hp fo tv (sqi 1)
 ·exact zEb hp fo tv (sqi 2) (fun v1 v2 w h1 h2 => ⟨_, rfl, h1⟩)
 ·exact zEb hp fo tv (sqi 2) (fun v1 v2 w h1 h2 => ⟨_, rfl, h2⟩)
 ·exact aS hp (mq 0 rfl) zBf zDg
 ·exact sS 3 hp (mq 0 rfl) zBd
 ·exact zAh hp fo tv (sqi 4)
 intro L vs w3 nb hL hC hn E3
 have e4 := wXi hC 4
 have e7 := wXi hC 7
 have e5 : vs 5 = .pointer (some ⟨nb 5, 0, none⟩) := hn _ (mq 0 rfl)
 have E := E3; try simp only [LM, zAc] at E
 rw [zAe hL]
 simp only [SP, Nat.zero_add, Nat.reduceAdd]
 rw [e4, e7, e5]
 generalize nb 5 = b3_5 at E ⊢
 generalize vs 0 = u3_0
 generalize vs 1 = u3_1
 generalize vs 2 = u3_2
 generalize vs 3 = u3_3
 clear e4 e7 e5 hC hn E3 hL vs L nb
 go_upto_region 4 with (fail)
 have B4 : Hid (ab ((-23)) < pw 3) := zA9 (by decide)
 refine rg [Fq.num (-23), Fq.tup2 (Fq.st [.n 1, .n 1, .n 6]) (Fq.is (.int .i64 0)), Fq.tup2 (Fq.st [.n 1, .n 1, .n 6]) (Fq.is (.int .i64 0)), Fq.st [.n 1, .n 1, .n 6], Fq.is (.int .i64 0), Fq.any, Fq.any, Fq.is (.int .i64 0)] N4 [⟨5, 6, 6, Fq.st [.n 0, .n 0, .n 0], Fq.st [.n 1, .n 1, .n 6], none⟩] E (fun hp => ⟨?_, ?_, ?_, ?_, ?_, ?_, ?_, ?_, tv⟩) ?_
 ·exact zAm (F := (Fq.is (.int .i64 (-23))).P) hp fo tv (zBv) (zAj (fun _ => rfl)) (fun v w h => (by subst h; exact rOfK w (-23) (by omega) (by omega)))
 ·exact wXa (Fq.num (-23)) hp zHq (sqi 0) fun v w h => (by have hh := zJw h (Int.lt_of_lt_of_le B4.out (zAb (by omega))) (by decide) (by decide); rw [show ((-23 : Int) % 4) = 1 by decide, show (-((-23 : Int) / 4)) = 6 by decide] at hh; exact hh)
 ·exact zAa hp fo tv (sqi 1)
 ·exact zEb hp fo tv (sqi 2) (fun v1 v2 w h1 h2 => ⟨_, rfl, h1⟩)
 ·exact zEb hp fo tv (sqi 2) (fun v1 v2 w h1 h2 => ⟨_, rfl, h2⟩)
 ·exact aS hp (mq 0 rfl) zBf zDg
 ·exact sS 3 hp (mq 0 rfl) zBd
 ·exact zAh hp fo tv (sqi 4)
 intro L vs w5 nb hL hC hn E5
 have e4 := wXi hC 4
 have e7 := wXi hC 7
 have e5 : vs 5 = .pointer (some ⟨nb 5, 0, none⟩) := hn _ (mq 0 rfl)
 have E := E5; try simp only [LM, zAc] at E
 rw [zAe hL]
 simp only [SP, Nat.zero_add, Nat.reduceAdd]
 rw [e4, e7, e5]
 generalize nb 5 = b5_5 at E ⊢
 generalize vs 0 = u5_0
 generalize vs 1 = u5_1
 generalize vs 2 = u5_2
 generalize vs 3 = u5_3
 clear e4 e7 e5 hC hn E5 hL vs L nb
 go_upto_region 5 with (fail)
 have B6 : Hid (ab ((-20)) < pw 3) := zA9 (by decide)
 refine rg [Fq.num (-20), Fq.tup2 (Fq.st [.n 1, .n 0, .n 5]) (Fq.is (.int .i64 0)), Fq.tup2 (Fq.st [.n 1, .n 0, .n 5]) (Fq.is (.int .i64 0)), Fq.st [.n 1, .n 0, .n 5], Fq.is (.int .i64 0), Fq.any, Fq.any, Fq.is (.int .i64 0)] N5 [⟨5, 6, 6, Fq.st [.n 0, .n 0, .n 0], Fq.st [.n 1, .n 0, .n 5], none⟩] E (fun hp => ⟨?_, ?_, ?_, ?_, ?_, ?_, ?_, ?_, tv⟩) ?_
 ·exact zAm (F := (Fq.is (.int .i64 (-20))).P) hp fo tv (zBv) (zAj (fun _ => rfl)) (fun v w h => (by subst h; exact rOfK w (-20) (by omega) (by omega)))
 ·exact wXa (Fq.num (-20)) hp zHq (sqi 0) fun v w h => (by have hh := zJw h (Int.lt_of_lt_of_le B6.out (zAb (by omega))) (by decide) (by decide); rw [show ((-20 : Int) % 4) = 0 by decide, show (-((-20 : Int) / 4)) = 5 by decide] at hh; exact hh)
 ·exact zAa hp fo tv (sqi 1)
 ·exact zEb hp fo tv (sqi 2) (fun v1 v2 w h1 h2 => ⟨_, rfl, h1⟩)
 ·exact zEb hp fo tv (sqi 2) (fun v1 v2 w h1 h2 => ⟨_, rfl, h2⟩)
 ·exact aS hp (mq 0 rfl) zBf zDg
 ·exact sS 3 hp (mq 0 rfl) zBd
 ·exact zAh hp fo tv (sqi 4)
 intro L vs w7 nb hL hC hn E7
 have e4 := wXi hC 4
 have e7 := wXi hC 7
 have e5 : vs 5 = .pointer (some ⟨nb 5, 0, none⟩) := hn _ (mq 0 rfl)
 have E := E7; try simp only [LM, zAc] at E
 rw [zAe hL]
 simp only [SP, Nat.zero_add, Nat.reduceAdd]
 rw [e4, e7, e5]
 generalize nb 5 = b7_5 at E ⊢
 generalize vs 0 = u7_0
 generalize vs 1 = u7_1
 generalize vs 2 = u7_2
 generalize vs 3 = u7_3
 clear e4 e7 e5 hC hn E7 hL vs L nb
 go_upto_region 6 with (fail)
 have B8 : Hid (ab ((9)) < pw 3) := zA9 (by decide)
 refine rg [Fq.num (9), Fq.tup2 (Fq.st [.n 0, .n 0, .n 0]) (Fq.is (.int .i64 5)), Fq.tup2 (Fq.st [.n 0, .n 0, .n 0]) (Fq.is (.int .i64 5)), Fq.st [.n 0, .n 0, .n 0], Fq.is (.int .i64 5), Fq.any, Fq.any, Fq.is (.int .i64 5)] N6 [⟨5, 6, 6, Fq.st [.n 0, .n 0, .n 0], Fq.st [.n 0, .n 0, .n 0], none⟩] E (fun hp => ⟨?_, ?_, ?_, ?_, ?_, ?_, ?_, ?_, tv⟩) ?_
 ·exact zAm (F := (Fq.is (.int .i64 9)).P) hp fo tv (zBv) (zAj (fun _ => rfl)) (fun v w h => (by subst h; exact rOfK w (9) (by omega) (by omega)))
 ·exact wXa (Fq.num (9)) hp zHq (sqi 0) fun v w h => zM8 h (Int.lt_of_lt_of_le B8.out (zAb (by omega))) (by decide) (by decide)
 ·exact zAa hp fo tv (sqi 1)
 ·exact zEb hp fo tv (sqi 2) (fun v1 v2 w h1 h2 => ⟨_, rfl, h1⟩)
 ·exact zEb hp fo tv (sqi 2) (fun v1 v2 w h1 h2 => ⟨_, rfl, h2⟩)
 ·exact aS hp (mq 0 rfl) zBf zDg
 ·exact sS 3 hp (mq 0 rfl) zBd
 ·exact zAh hp fo tv (sqi 4)
 intro L vs w9 nb hL hC hn E9
 have e4 := wXi hC 4
 have e7 := wXi hC 7
 have e5 : vs 5 = .pointer (some ⟨nb 5, 0, none⟩) := hn _ (mq 0 rfl)
 have E := E9; try simp only [LM, zAc] at E
 rw [zAe hL]
 simp only [SP, Nat.zero_add, Nat.reduceAdd]
 rw [e4, e7, e5]
 generalize nb 5 = b9_5 at E ⊢
 generalize vs 0 = u9_0
 generalize vs 1 = u9_1
 generalize vs 2 = u9_2
 generalize vs 3 = u9_3
 clear e4 e7 e5 hC hn E9 hL vs L nb
 go_upto_region 7 with (fail)
 refine rg [Fq.st [.n 1, .n 0, .n (-2)], Fq.tup3 (Fq.st [.n 0, .n 0, .n 0]) (Fq.st [.n 0, .n 0, .n 0, .n 0]) (Fq.is (.int .i64 5)), Fq.tup3 (Fq.st [.n 0, .n 0, .n 0]) (Fq.st [.n 0, .n 0, .n 0, .n 0]) (Fq.is (.int .i64 5)), Fq.st [.n 0, .n 0, .n 0], Fq.st [.n 0, .n 0, .n 0, .n 0], Fq.is (.int .i64 5), Fq.any, Fq.any, Fq.any, Fq.any, Fq.is (.int .i64 5)] N7 [⟨6, 8, 6, Fq.st [.n 0, .n 0, .n 0], Fq.st [.n 0, .n 0, .n 0], none⟩, ⟨7, 9, 8, Fq.st [.n 0, .n 0, .n 0, .n 0], Fq.st [.n 0, .n 0, .n 0, .n 0], none⟩] E (fun hp => ⟨?_, ?_, ?_, ?_, ?_, ?_, ?_, ?_, ?_, ?_, ?_, tv⟩) ?_
 ·exact zB1 (F := (Fq.is (.int .i64 1)).P) (G := (Fq.is (.int .i64 0)).P) (F3 := (Fq.is (.int .i64 (-2))).P) hp fo tv (zDl) (zAj (fun _ => rfl)) (zAj (fun _ => rfl)) (zAj (fun _ => rfl)) (fun v v' u w h h' g => (by subst h h' g; exact zDm (by decide) (by decide) (by decide)))
 ·exact wXa (Fq.st [.n 1, .n 0, .n (-2)]) hp zGj (sqi 0) fun v w h => (by have hh := zGl h (lit5 (by decide) (by decide)) (lit5 (by decide) (by decide)) (lit5 (by decide) (by decide)); rw [ind_ex.1, ind_ex.2] at hh; exact hh)
 ·exact zAa hp fo tv (sqi 1)
 ·exact zA4 hp fo tv (sqi 2) (fun v1 v2 v3 w h1 h2 h3 => ⟨_, rfl, h1⟩)
 ·exact zA4 hp fo tv (sqi 2) (fun v1 v2 v3 w h1 h2 h3 => ⟨_, rfl, h2⟩)
 ·exact zA4 hp fo tv (sqi 2) (fun v1 v2 v3 w h1 h2 h3 => ⟨_, rfl, h3⟩)
 ·exact aS hp (mq 0 rfl) zBf zDg
 ·exact aS hp (mq 1 rfl) zC0 zFt
 ·exact sS 3 hp (mq 0 rfl) zBd
 ·exact sS 4 hp (mq 1 rfl) zCs
 ·exact zAh hp fo tv (sqi 5)
 intro L vs w10 nb hL hC hn E10
 have e5 := wXi hC 5
 have e10 := wXi hC 10
 have e6 : vs 6 = .pointer (some ⟨nb 6, 0, none⟩) := hn _ (mq 0 rfl)
 have e7 : vs 7 = .pointer (some ⟨nb 7, 0, none⟩) := hn _ (mq 1 rfl)
 have E := E10; try simp only [LM, zAc] at E
 rw [zAe hL]
 simp only [SP, Nat.zero_add, Nat.reduceAdd]
 rw [e5, e10, e6, e7]
 generalize nb 6 = b10_6 at E ⊢
 generalize nb 7 = b10_7 at E ⊢
 generalize vs 0 = u10_0
 generalize vs 1 = u10_1
 generalize vs 2 = u10_2
 generalize vs 3 = u10_3
 generalize vs 4 = u10_4
 clear e5 e10 e6 e7 hC hn E10 hL vs L nb
 go_upto_region 8 with (fail)
 refine rg [Fq.is (.int .i64 0), yF, yF, Fq.is (.int .i64 0), yF, yF, yF, Fq.is (.int .i64 0), yF, yF, yF, Fq.is (.int .i64 0), yF, yF, yF, Fq.is (.int .i64 5), yF, yF, yF, Fq.is (.int .i64 5), yF, yF, yF, Fq.st [.n (-1), .n 0, .n (-1)], Fq.is (.int .i64 1), yF, yF, yF, Fq.st [.n 2, .n 1, .n 3], Fq.is (.int .i64 0), yF, yF] N9 [] E (fun hp => ⟨?_, ?_, ?_, ?_, ?_, ?_, ?_, ?_, ?_, ?_, ?_, ?_, ?_, ?_, ?_, ?_, ?_, ?_, ?_, ?_, ?_, ?_, ?_, ?_, ?_, ?_, ?_, ?_, ?_, ?_, ?_, ?_, tv⟩) ?_
 ·exact zAa hp fo tv (sqo 4)
 ·exact zAd (F := fun v _ => v = .int .i64 0) hp fo tv (sqi 0) (fun ρ w hc h => ⟨.bool false, by simp [execOp, go_sem, h, hc], rfl⟩)
 ·exact zAa hp fo tv (sqi 1)
 ·exact zAa hp fo gqi (sqo 6)
 ·exact zAd (F := fun v _ => v = .int .i64 0) hp fo gqi (sqi 3) (fun ρ w hc h => ⟨.bool false, by simp [execOp, go_sem, h, hc], rfl⟩)
 ·exact zAg (F := fun v _ => v = .bool false) (G := fun v _ => v = .bool false) hp fo tv (sqi 2) (sqi 4) (fun ρ w hc h h' => ⟨_, by simp [execOp, go_sem, h, h'], rfl⟩)
 ·exact zAa hp fo tv (sqi 5)
 ·exact zAa hp fo gqi (sqo 8)
 ·exact zAd (F := fun v _ => v = .int .i64 0) hp fo gqi (sqi 7) (fun ρ w hc h => ⟨.bool false, by simp [execOp, go_sem, h, hc], rfl⟩)
 ·exact zAg (F := fun v _ => v = .bool false) (G := fun v _ => v = .bool false) hp fo tv (sqi 6) (sqi 8) (fun ρ w hc h h' => ⟨_, by simp [execOp, go_sem, h, h'], rfl⟩)
 ·exact zAa hp fo tv (sqi 9)
 ·exact zAa hp fo gqi (sqo 10)
 ·exact zAd (F := fun v _ => v = .int .i64 0) hp fo gqi (sqi 11) (fun ρ w hc h => ⟨.bool false, by simp [execOp, go_sem, h, hc], rfl⟩)
 ·exact zAg (F := fun v _ => v = .bool false) (G := fun v _ => v = .bool false) hp fo tv (sqi 10) (sqi 12) (fun ρ w hc h h' => ⟨_, by simp [execOp, go_sem, h, h'], rfl⟩)
 ·exact zAa hp fo tv (sqi 13)
 ·exact zAa hp fo gqi (sqo 12)
 ·exact zAd (F := fun v _ => v = .int .i64 5) hp fo gqi (sqi 15) (fun ρ w hc h => ⟨.bool false, by simp [execOp, go_sem, h, hc], rfl⟩)
 ·exact zAg (F := fun v _ => v = .bool false) (G := fun v _ => v = .bool false) hp fo tv (sqi 14) (sqi 16) (fun ρ w hc h h' => ⟨_, by simp [execOp, go_sem, h, h'], rfl⟩)
 ·exact zAa hp fo tv (sqi 17)
 ·exact zAa hp fo gqi (sqo 15)
 ·exact zAd (F := fun v _ => v = .int .i64 5) hp fo gqi (sqi 19) (fun ρ w hc h => ⟨.bool false, by simp [execOp, go_sem, h, hc], rfl⟩)
 ·exact zAg (F := fun v _ => v = .bool false) (G := fun v _ => v = .bool false) hp fo tv (sqi 18) (sqi 20) (fun ρ w hc h h' => ⟨_, by simp [execOp, go_sem, h, h'], rfl⟩)
 ·exact zAa hp fo tv (sqi 21)
 ·exact zB1 (F := (Fq.is (.int .i64 (-1))).P) (G := (Fq.is (.int .i64 0)).P) (F3 := (Fq.is (.int .i64 (-1))).P) hp fo gqi (zDl) (zAj (fun _ => rfl)) (zAj (fun _ => rfl)) (zAj (fun _ => rfl)) (fun v v' u w h h' g => (by subst h h' g; exact zDm (by decide) (by decide) (by decide)))
 ·exact zAm (F := (Fq.st [.n (-1), .n 0, .n (-1)]).P) hp fo gqi (zFf) (sqi 23) (fun v w h => zFg h (Int.lt_of_lt_of_le (zAs (by decide) (by decide)) (zAb (by omega))) (Int.lt_of_lt_of_le (zAs (by decide) (by decide)) (zAb (by omega))) (Int.lt_of_lt_of_le (zAs (by decide) (by decide)) (zAb (by omega))) (by decide))
 ·exact zAd (F := fun v _ => v = .int .i64 1) hp fo gqi (sqi 24) (fun ρ w hc h => ⟨.bool false, by simp [execOp, go_sem, h, hc], rfl⟩)
 ·exact zAg (F := fun v _ => v = .bool false) (G := fun v _ => v = .bool false) hp fo tv (sqi 22) (sqi 25) (fun ρ w hc h h' => ⟨_, by simp [execOp, go_sem, h, h'], rfl⟩)
 ·exact zAa hp fo tv (sqi 26)
 ·exact lG 0 6 hp gqi (mq 8 rfl) zAo (sqo 1) fun v w h => h
 ·exact zAm (F := (Fq.st [.n 2, .n 1, .n 3]).P) hp fo gqi (zFf) (sqi 28) (fun v w h => zFg h (Int.lt_of_lt_of_le (zAs (by decide) (by decide)) (zAb (by omega))) (Int.lt_of_lt_of_le (zAs (by decide) (by decide)) (zAb (by omega))) (Int.lt_of_lt_of_le (zAs (by decide) (by decide)) (zAb (by omega))) (by decide))
 ·exact zAd (F := fun v _ => v = .int .i64 0) hp fo gqi (sqi 29) (fun ρ w hc h => ⟨.bool false, by simp [execOp, go_sem, h, hc], rfl⟩)
 ·exact zAg (F := fun v _ => v = .bool false) (G := fun v _ => v = .bool false) hp fo tv (sqi 27) (sqi 30) (fun ρ w hc h h' => ⟨_, by simp [execOp, go_sem, h, h'], rfl⟩)
 intro L vs w11 nb hL hC hn E11
 have e0 := wXi hC 0
 have e1 := wXi hC 1
 have e2 := wXi hC 2
 have e3 := wXi hC 3
 have e4 := wXi hC 4
 have e5 := wXi hC 5
 have e6 := wXi hC 6
 have e7 := wXi hC 7
 have e8 := wXi hC 8
 have e9 := wXi hC 9
 have e10 := wXi hC 10
 have e11 := wXi hC 11
 have e12 := wXi hC 12
 have e13 := wXi hC 13
 have e14 := wXi hC 14
 have e15 := wXi hC 15
 have e16 := wXi hC 16
 have e17 := wXi hC 17
 have e18 := wXi hC 18
 have e19 := wXi hC 19
 have e20 := wXi hC 20
 have e21 := wXi hC 21
 have e22 := wXi hC 22
 have e24 := wXi hC 24
 have e25 := wXi hC 25
 have e26 := wXi hC 26
 have e27 := wXi hC 27
 have e29 := wXi hC 29
 have e30 := wXi hC 30
 have e31 := wXi hC 31
 have E := E11; try simp only [LM, zAc] at E
 rw [zAe hL]
 simp only [SP, Nat.zero_add, Nat.reduceAdd]
 rw [e0, e1, e2, e3, e4, e5, e6, e7, e8, e9, e10, e11, e12, e13, e14, e15, e16, e17, e18, e19, e20, e21, e22, e24, e25, e26, e27, e29, e30, e31]
 generalize vs 23 = u11_23
 generalize vs 28 = u11_28
 clear e0 e1 e2 e3 e4 e5 e6 e7 e8 e9 e10 e11 e12 e13 e14 e15 e16 e17 e18 e19 e20 e21 e22 e24 e25 e26 e27 e29 e30 e31 hC hn E11 hL vs L nb
 go_upto_region 10 with (fail)
 have B12 : Hid (ab ((1)) < pw 3) := zA9 (by decide)
 refine rg [Fq.st [.n 2, .n 1, .n 3], Fq.num (-23), Fq.num (-23), yT, yT, Fq.st [.n 2, .n 1, .n 3], yT, yT, yT, Fq.st [.n 2, .n (-2), .n 3], yF, yT, yT, yT, Fq.st [.n 1, .n 0, .n 1], Fq.st [.n 1, .n 0, .n 1], yT, yT, yT, Fq.st [.n S.x1, .n S.x2, .n S.x3, .n S.x4], Fq.num 1, Fq.num (1), yT, yT, yT, Fq.st [.n 2, .n (-1), .n 3], Fq.st [.n 2, .n (-1), .n 3], yT, yT, yT, Fq.st [.n 1, .n 1, .n 6], Fq.st [.n 1, .n 1, .n 6], yT, yT, yT, Fq.st [.n 1, .n 0, .n 5], Fq.st [.n 1, .n 0, .n 5], yT, yT, yT] N9 [] E (fun hp => ⟨?_, ?_, ?_, ?_, ?_, ?_, ?_, ?_, ?_, ?_, ?_, ?_, ?_, ?_, ?_, ?_, ?_, ?_, ?_, ?_, ?_, ?_, ?_, ?_, ?_, ?_, ?_, ?_, ?_, ?_, ?_, ?_, ?_, ?_, ?_, ?_, ?_, ?_, ?_, ?_, tv⟩) ?_
 ·exact lS 0 6 hp (mq 8 rfl) zAo (sqo 1)
 ·exact wXa (Fq.st [.n 2, .n 1, .n 3]) hp zEi (sqi 0) fun v w h => (by have hh := zEj h (Int.lt_of_lt_of_le (zAs (by decide) (by decide)) (zAb (by omega))) (Int.lt_of_lt_of_le (zAs (by decide) (by decide)) (zAb (by omega))) (Int.lt_of_lt_of_le (zAs (by decide) (by decide)) (zAb (by omega))); rw [show ((1 : Int) * 1 - 4 * (2 * 3)) = -23 by decide] at hh; exact hh)
 ·exact zAm (F := (Fq.is (.int .i64 (-23))).P) hp fo tv (zBv) (zAj (fun _ => rfl)) (fun v w h => (by subst h; exact rOfK w (-23) (by omega) (by omega)))
 ·exact wXb (Fq.num (-23)) (Fq.num (-23)) hp zCk (sqi 1) (sqi 2) fun v v' w h h' => zCl h h' (by decide)
 ·exact zAa hp fo tv (sqi 3)
 ·exact lG 0 6 hp gqi (mq 8 rfl) zAo (sqo 1) fun v w h => h
 ·exact zAm (F := (Fq.st [.n 2, .n 1, .n 3]).P) hp fo gqi (zJn) (sqi 5) (fun v w h => zJx h (Int.lt_of_lt_of_le (zAs (by decide) (by decide)) (zAb (by omega))) (Int.lt_of_lt_of_le (zAs (by decide) (by decide)) (zAb (by omega))) (Int.lt_of_lt_of_le (zAs (by decide) (by decide)) (zAb (by omega))) (by decide))
 ·exact zAg (F := fun v _ => v = .bool true) (G := fun v _ => v = .bool true) hp fo tv (sqi 4) (sqi 6) (fun ρ w hc h h' => ⟨_, by simp [execOp, go_sem, h, h'], rfl⟩)
 ·exact zAa hp fo tv (sqi 7)
 ·exact zB1 (F := (Fq.is (.int .i64 2)).P) (G := (Fq.is (.int .i64 (-2))).P) (F3 := (Fq.is (.int .i64 3)).P) hp fo gqi (zDl) (zAj (fun _ => rfl)) (zAj (fun _ => rfl)) (zAj (fun _ => rfl)) (fun v v' u w h h' g => (by subst h h' g; exact zDm (by decide) (by decide) (by decide)))
 ·exact zAm (F := (Fq.st [.n 2, .n (-2), .n 3]).P) hp fo gqi (zJn) (sqi 9) (fun v w h => zJx h (Int.lt_of_lt_of_le (zAs (by decide) (by decide)) (zAb (by omega))) (Int.lt_of_lt_of_le (zAs (by decide) (by decide)) (zAb (by omega))) (Int.lt_of_lt_of_le (zAs (by decide) (by decide)) (zAb (by omega))) (by decide))
 ·exact zAd (F := fun v _ => v = .bool false) hp fo gqi (sqi 10) (fun ρ w _ h => ⟨.bool true, by simp [execOp, go_sem, h], rfl⟩)
 ·exact zAg (F := fun v _ => v = .bool true) (G := fun v _ => v = .bool true) hp fo tv (sqi 8) (sqi 11) (fun ρ w hc h h' => ⟨_, by simp [execOp, go_sem, h, h'], rfl⟩)
 ·exact zAa hp fo tv (sqi 12)
 ·exact lG 0 6 hp gqi (mq 6 rfl) zAo (sqo 2) fun v w h => h
 ·exact zB1 (F := (Fq.is (.int .i64 1)).P) (G := (Fq.is (.int .i64 0)).P) (F3 := (Fq.is (.int .i64 1)).P) hp fo gqi (zDl) (zAj (fun _ => rfl)) (zAj (fun _ => rfl)) (zAj (fun _ => rfl)) (fun v v' u w h h' g => (by subst h h' g; exact zDm (by decide) (by decide) (by decide)))
 ·exact zAx (F := (Fq.st [.n 1, .n 0, .n 1]).P) (G := (Fq.st [.n 1, .n 0, .n 1]).P) hp fo gqi (zGh) (sqi 14) (sqi 15) (fun v v' w h h' => zGn h h' (by decide))
 ·exact zAg (F := fun v _ => v = .bool true) (G := fun v _ => v = .bool true) hp fo tv (sqi 13) (sqi 16) (fun ρ w hc h h' => ⟨_, by simp [execOp, go_sem, h, h'], rfl⟩)
 ·exact zAa hp fo tv (sqi 17)
 ·exact lG 0 8 hp gqi (mq 7 rfl) zDh (sqo 3) fun v w h => h
 ·exact zAm (F := (Fq.st [.n S.x1, .n S.x2, .n S.x3, .n S.x4]).P) hp fo gqi (zMc) (sqi 19) (fun v w h => (by have hh := exQDet h (Int.lt_of_lt_of_le BS.out.2.1 (zAb (by omega))) (Int.lt_of_lt_of_le BS.out.2.2.1 (zAb (by omega))) (Int.lt_of_lt_of_le BS.out.2.2.2.1 (zAb (by omega))) (Int.lt_of_lt_of_le BS.out.2.2.2.2 (zAb (by omega))); rw [HRD.out] at hh; exact hh))
 ·exact zAm (F := (Fq.is (.int .i64 1)).P) hp fo gqi (zBv) (zAj (fun _ => rfl)) (fun v w h => (by subst h; exact rOfK w (1) (by omega) (by omega)))
 ·exact zAx (F := (Fq.num 1).P) (G := (Fq.num (1)).P) hp fo gqi (zCk) (sqi 20) (sqi 21) (fun v v' w h h' => zCl h h' (by decide))
 ·exact zAg (F := fun v _ => v = .bool true) (G := fun v _ => v = .bool true) hp fo tv (sqi 18) (sqi 22) (fun ρ w hc h h' => ⟨_, by simp [execOp, go_sem, h, h'], rfl⟩)
 ·exact zAa hp fo tv (sqi 23)
 ·exact lG 0 6 hp gqi (mq 5 rfl) zAo (sqo 5) fun v w h => h
 ·exact zB1 (F := (Fq.is (.int .i64 2)).P) (G := (Fq.is (.int .i64 (-1))).P) (F3 := (Fq.is (.int .i64 3)).P) hp fo gqi (zDl) (zAj (fun _ => rfl)) (zAj (fun _ => rfl)) (zAj (fun _ => rfl)) (fun v v' u w h h' g => (by subst h h' g; exact zDm (by decide) (by decide) (by decide)))
 ·exact zAx (F := (Fq.st [.n 2, .n (-1), .n 3]).P) (G := (Fq.st [.n 2, .n (-1), .n 3]).P) hp fo gqi (zGh) (sqi 25) (sqi 26) (fun v v' w h h' => zGn h h' (by decide))
 ·exact zAg (F := fun v _ => v = .bool true) (G := fun v _ => v = .bool true) hp fo tv (sqi 24) (sqi 27) (fun ρ w hc h h' => ⟨_, by simp [execOp, go_sem, h, h'], rfl⟩)
 ·exact zAa hp fo tv (sqi 28)
 ·exact lG 0 6 hp gqi (mq 4 rfl) zAo (sqo 7) fun v w h => h
 ·exact zB1 (F := (Fq.is (.int .i64 1)).P) (G := (Fq.is (.int .i64 1)).P) (F3 := (Fq.is (.int .i64 6)).P) hp fo gqi (zDl) (zAj (fun _ => rfl)) (zAj (fun _ => rfl)) (zAj (fun _ => rfl)) (fun v v' u w h h' g => (by subst h h' g; exact zDm (by decide) (by decide) (by decide)))
 ·exact zAx (F := (Fq.st [.n 1, .n 1, .n 6]).P) (G := (Fq.st [.n 1, .n 1, .n 6]).P) hp fo gqi (zGh) (sqi 30) (sqi 31) (fun v v' w h h' => zGn h h' (by decide))
 ·exact zAg (F := fun v _ => v = .bool true) (G := fun v _ => v = .bool true) hp fo tv (sqi 29) (sqi 32) (fun ρ w hc h h' => ⟨_, by simp [execOp, go_sem, h, h'], rfl⟩)
 ·exact zAa hp fo tv (sqi 33)
 ·exact lG 0 6 hp gqi (mq 3 rfl) zAo (sqo 9) fun v w h => h
 ·exact zB1 (F := (Fq.is (.int .i64 1)).P) (G := (Fq.is (.int .i64 0)).P) (F3 := (Fq.is (.int .i64 5)).P) hp fo gqi (zDl) (zAj (fun _ => rfl)) (zAj (fun _ => rfl)) (zAj (fun _ => rfl)) (fun v v' u w h h' g => (by subst h h' g; exact zDm (by decide) (by decide) (by decide)))
 ·exact zAx (F := (Fq.st [.n 1, .n 0, .n 5]).P) (G := (Fq.st [.n 1, .n 0, .n 5]).P) hp fo gqi (zGh) (sqi 35) (sqi 36) (fun v v' w h h' => zGn h h' (by decide))
 ·exact zAg (F := fun v _ => v = .bool true) (G := fun v _ => v = .bool true) hp fo tv (sqi 34) (sqi 37) (fun ρ w hc h h' => ⟨_, by simp [execOp, go_sem, h, h'], rfl⟩)
 ·exact zAh hp fo tv (sqi 38)
 intro L vs w13 nb hL hC hn E13
 have e3 := wXi hC 3
 have e4 := wXi hC 4
 have e6 := wXi hC 6
 have e7 := wXi hC 7
 have e8 := wXi hC 8
 have e10 := wXi hC 10
 have e11 := wXi hC 11
 have e12 := wXi hC 12
 have e13 := wXi hC 13
 have e16 := wXi hC 16
 have e17 := wXi hC 17
 have e18 := wXi hC 18
 have e22 := wXi hC 22
 have e23 := wXi hC 23
 have e24 := wXi hC 24
 have e27 := wXi hC 27
 have e28 := wXi hC 28
 have e29 := wXi hC 29
 have e32 := wXi hC 32
 have e33 := wXi hC 33
 have e34 := wXi hC 34
 have e37 := wXi hC 37
 have e38 := wXi hC 38
 have e39 := wXi hC 39
 have E := E13; try simp only [LM, zAc] at E
 rw [zAe hL]
 simp only [SP, Nat.zero_add, Nat.reduceAdd]
 rw [e3, e4, e6, e7, e8, e10, e11, e12, e13, e16, e17, e18, e22, e23, e24, e27, e28, e29, e32, e33, e34, e37, e38, e39]
 generalize vs 0 = u13_0
 generalize vs 1 = u13_1
 generalize vs 2 = u13_2
 generalize vs 5 = u13_5
 generalize vs 9 = u13_9
 generalize vs 14 = u13_14
 generalize vs 15 = u13_15
 generalize vs 19 = u13_19
 generalize vs 20 = u13_20
 generalize vs 21 = u13_21
 generalize vs 25 = u13_25
 generalize vs 26 = u13_26
 generalize vs 30 = u13_30
 generalize vs 31 = u13_31
 generalize vs 35 = u13_35
 generalize vs 36 = u13_36
 clear e3 e4 e6 e7 e8 e10 e11 e12 e13 e16 e17 e18 e22 e23 e24 e27 e28 e29 e32 e33 e34 e37 e38 e39 hC hn E13 hL vs L nb
 clear HS HR0 HRA HRB HRC HRD
 clear B4 B6 B8 B12 BS
 go_wp2
 refine bodyPost_ret (v := .bool true) ?_ rfl ⟨_, rfl, E.below, rfl⟩
 simp [results, Try.results9, go_sem]

section
variable {os : List Oper} {Q : Exit → Act → World → Prop} {a : Act} {p : Pq} {B B0 : Nat} {w0 : World}
variable {i s : Nat} {d : Option Tmp} {ty : TypeId} {ps : String} {af : Array Edge} {gd : Option (Nat × Bool)}
end
section
variable {os : List Oper} {Q : Exit → Act → World → Prop} {a : Act} {p : Pq} {B B0 : Nat} {w0 : World}
variable {i s : Nat} {d : Option Tmp} {ty : TypeId} {ps : String} {af : Array Edge} {gd : Option (Nat × Bool)}
end
section
variable {os : List Oper} {Q : Exit → Act → World → Prop} {a : Act} {p : Pq} {B B0 : Nat} {w0 : World}
variable {i s : Nat} {d : Option Tmp} {ty : TypeId} {ps : String} {af : Array Edge} {gd : Option (Nat × Bool)}
end
-- PART2
def red (a : Int) (P : Pt) : Pt := ⟨P.x % a, P.y % a, P.i⟩
def noSl : List Fd → Bool
 | [] => true
 | .v (.slice _ _ _) :: _ => false
 | _ :: r => noSl r
def FarC (own : Option Nat) (es : List Value) : Prop := ∀ a k c, Value.slice (some a) k c ∈ es → k ≠ 0 → some a.block ≠ own
theorem FarC.tail {own : Option Nat} {u : Value} {es : List Value} (h : FarC own (u :: es)) : FarC own es := fun a k c hm hk => h a k c (List.mem_cons_of_mem _ hm) hk
theorem Fits.grown {w w' : World} {row : Option Nat} (hg : w.grownBy w' row) : ∀ {fs : List Fd} {es : List Value}, Fits w fs es → FarC row es → Fits w' fs es
 | [], _, h, _ => h
 | .n z :: fs, _, ⟨a, b, r, e, h1, h2⟩, hf => by
  subst e
  refine ⟨a, b, r, rfl, ?_, Fits.grown hg h2 hf.tail.tail⟩
  obtain ⟨n, ao, k, c, e⟩ := h1.parts
  rw [e] at h1 ⊢
  injection e with e
  have e2 := congrArg Array.toList e
  simp at e2
  obtain ⟨rfl, rfl⟩ := e2
  exact h1.grown hg fun x hx hk => hf x k c (by rw [hx]; simp) hk
 | .v u :: fs, _, ⟨r, e, h1, h2⟩, hf => by
  subst e
  exact ⟨r, rfl, h1, Fits.grown hg h2 hf.tail⟩
 | .r n ao k c xs z :: fs, _, ⟨r, e, h1, h2⟩, hf => by
  subst e
  refine ⟨r, rfl, ⟨?_, h1.2.grown hg fun x hx hk => hf x k c (by rw [hx]; simp) hk⟩, Fits.grown hg h2 hf.tail.tail⟩
  have hs := h1.1
  refine ⟨hs.len, hs.cap, hs.cells.1, ?_⟩
  rcases hs.cells.2 with h0 | ⟨b, off, rfl, hlt, hc⟩
  ·exact .inl h0
  ·rcases Nat.eq_zero_or_pos k with h0 | h0
   ·exact .inl (List.eq_nil_of_length_eq_zero (hs.len.trans h0))
   ·exact .inr ⟨b, off, rfl, Nat.lt_of_lt_of_le hlt hg.size, fun j hj => hg.cell (hc j hj) (show some b ≠ row from hf ⟨b, off, none⟩ k c (by simp) (by omega))⟩
theorem Fits.blk {w : World} : ∀ {fs : List Fd} {es : List Value}, Fits w fs es → noSl fs = true → ∀ {a : Addr} {k c : Nat}, Value.slice (some a) k c ∈ es → k ≠ 0 → a.block < w.heap.size
 | [], _, h, _, _, _, _, hm, _ => by rw [show _ = [] from h] at hm; simp at hm
 | .n z :: fs, _, ⟨x, y, r, e, h1, h2⟩, hn, a, k, c, hm, hk => by
  subst e
  obtain ⟨n, ao, k', c', e⟩ := h1.parts
  have h3 := h1
  rw [e] at h3
  injection e with e
  have e2 := congrArg Array.toList e
  simp at e2
  obtain ⟨rfl, rfl⟩ := e2
  simp only [List.mem_cons, reduceCtorEq, false_or] at hm
  rcases hm with hm | hm
  ·injection hm with hm1 hm2 hm3
   subst hm1 hm2 hm3
   exact h3.blk hk
  ·exact Fits.blk h2 hn hm hk
 | .v u :: fs, _, ⟨r, e, h1, h2⟩, hn, a, k, c, hm, hk => by
  subst e
  rcases List.mem_cons.1 hm with hm | hm
  ·subst hm; simp [noSl] at hn
  ·refine Fits.blk h2 ?_ hm hk
   cases u <;> first | exact hn | simp [noSl] at hn
 | .r n ao k' c' xs z :: fs, _, ⟨r, e, h1, h2⟩, hn, a, k, c, hm, hk => by
  subst e
  simp only [List.mem_cons, reduceCtorEq, false_or] at hm
  rcases hm with hm | hm
  ·injection hm with hm1 hm2 hm3
   subst hm1 hm2 hm3
   exact h1.2.blk hk
  ·exact Fits.blk h2 hn hm hk
def StAt (w : World) (g o : Nat) (fs : List Fd) : Prop := ∃ es, Fits w fs es ∧ ∀ j, j < es.length → w.cell? ⟨g, o + j, none⟩ = some (es.getD j undef)
theorem StAt.mono {w w' : World} {g o : Nat} {fs : List Fd} (h : StAt w g o fs) (hl : g < w.heap.size) (hb : Below w.heap.size w w') : StAt w' g o fs := by
 obtain ⟨es, h1, h2⟩ := h
 exact ⟨es, h1.mono hb, fun j hj => (hb.cell (p := ⟨g, o + j, none⟩) hl).trans (h2 j hj)⟩
def Sts (m : Nat) (w : World) (v : Value) (fss : List (List Fd)) : Prop := ∃ g cap, v = .slice (some ⟨g, 0, none⟩) fss.length cap ∧ g < w.heap.size ∧ ∀ i fs, fss[i]? = some fs → StAt w g (i * m) fs
theorem Sts.mono {m : Nat} {w w' : World} {v : Value} {fss : List (List Fd)} (h : Sts m w v fss) (hb : Below w.heap.size w w') : Sts m w' v fss := by
 obtain ⟨g, cap, e, h1, h2⟩ := h
 exact ⟨g, cap, e, Nat.lt_of_lt_of_le h1 hb.size, fun i fs hi => (h2 i fs hi).mono h1 hb⟩
def StCell (m : Nat) (us : List Value) (w : World) (own : Option Nat) (i : Nat) (fs : List Fd) : Prop := ∃ es, es.length = m ∧ (∀ j, j < m → us[i * m + j]? = es[j]?) ∧ FarC own es ∧ Fits w fs es ∧ noSl fs = true
def Ls (T m : Nat) (W : World) (B : Nat) (v : Value) (fss : List (List Fd)) : Prop := ∃ us, W.ownsRow B T m v fss.length us ∧ ∀ i fs, fss[i]? = some fs → StCell m us W v.ownBlock i fs
theorem Ls.shape {T m : Nat} {W : World} {B : Nat} {v : Value} {fss : List (List Fd)} (h : Ls T m W B v fss) : ∃ ao cap, v = .slice ao fss.length cap := by
 obtain ⟨us, h, _⟩ := h
 rcases h.2 with ⟨rfl, h0⟩ | ⟨g, cap, cur, rfl, _⟩
 ·exact ⟨none, 0, by rw [h0]⟩
 ·exact ⟨_, _, rfl⟩
theorem Ls.mono {T m : Nat} {w w' : World} {B : Nat} {v : Value} {fss : List (List Fd)} (h : Ls T m w B v fss) (hb : Below w.heap.size w w') : Ls T m w' B v fss := by
 obtain ⟨us, h, hE⟩ := h
 refine ⟨us, ⟨h.1, ?_⟩, fun i z hi => ?_⟩
 ·rcases h.2 with h2 | ⟨g, cap, cur, h1, h2, h3, h4⟩
  ·exact .inl h2
  ·exact .inr ⟨g, cap, cur, h1, h2, by rw [hb.block g (Array.getElem?_eq_some_iff.1 h3).1]; exact h3, h4⟩
 ·obtain ⟨es, g1, g2, g3, g4, g5⟩ := hE i z hi
  exact ⟨es, g1, g2, g3, g4.mono hb, g5⟩
theorem Ls.one {T m : Nat} (w : World) {B : Nat} {fs : List Fd} {es : List Value} (hB : B ≤ w.heap.size) (hm : es.length = m) (hF : Fits w fs es) (hn : noSl fs = true) : Ls T m (w.alloc (.cells es.toArray T)) B (.slice (some ⟨w.heap.size, 0, none⟩) 1 1) [fs] := by
 refine ⟨es, ⟨by simp [hm], .inr ⟨w.heap.size, 1, es.toArray, rfl, hB, ?_, ?_⟩⟩, fun i z hi => ?_⟩
 ·exact heap_alloc_new w _
 ·simp [hm]
  exact ⟨by unfold maxLen; omega, by rw [← hm, List.take_length]⟩
 ·match i, hi with
  | 0, hi =>
   simp at hi
   subst hi
   refine ⟨es, hm, fun j _ => by rw [Nat.zero_mul, Nat.zero_add], fun a k c hs hk e => ?_, hF.mono (zAw _ _), hn⟩
   have h1 := hF.blk hn hs hk
   simp [Value.ownBlock] at e
   omega
  | i + 1, hi => simp at hi
theorem Ls.step {T m B : Nat} {w wr w1 w2 : World} {v : Value} {fss : List (List Fd)} {us es : List Value} {fs : List Fd} {o : Obj} {g cap H : Nat}
  (hO : wr.ownsRow B T m v fss.length us) (hE : ∀ i z, fss[i]? = some z → StCell m us wr v.ownBlock i z) (hB : B ≤ wr.heap.size) (hnx : Below B w wr) (hb : Below wr.heap.size wr w1)
  (hnew : ∀ a k c, Value.slice (some a) k c ∈ es → k ≠ 0 → wr.heap.size ≤ a.block) (hF : Fits w1 fs es) (hn : noSl fs = true) (hm : es.length = m)
  (hown' : w2.ownsRow B T m (.slice (some ⟨g, 0, none⟩) (fss.length + 1) cap) (fss.length + 1) (us ++ es)) (hgrow : (w1.alloc o).grownBy w2 v.ownBlock) (hat : v.ownBlock = some g ∨ g = H) (hH : (w1.alloc o).heap.size = H) :
  Ls T m w2 B (.slice (some ⟨g, 0, none⟩) (fss.length + 1) cap) (fss ++ [fs]) ∧ Below B w w2 := by
 have hsz := hb.size
 have hH2 : w1.heap.size + 1 = H := by rw [← hH]; simp
 have hlt := hO.lt
 have hul := hO.1
 refine ⟨⟨us ++ es, by simpa using hown', fun i y hi => ?_⟩, ?_⟩
 ·have hne : ∀ {a : Addr} {k c : Nat} {xs : List Value} {gs : List Fd}, Fits w1 gs xs → noSl gs = true → Value.slice (some a) k c ∈ xs → k ≠ 0 → some a.block ≠ v.ownBlock → a.block ≠ g := by
   intro a k c xs gs hx hnx2 hmx hk hr e
   have h1 := hx.blk hnx2 hmx hk
   rcases hat with h | h
   ·rw [h, e] at hr; exact hr rfl
   ·omega
  by_cases hil : i < fss.length
  ·rw [List.getElem?_append_left hil] at hi
   obtain ⟨xs, g1, g2, g3, g4, g5⟩ := hE i y hi
   refine ⟨xs, g1, fun j hj => ?_, fun a k c hs hk e => ?_, ((g4.mono hb).mono (zAw w1 o)).grown hgrow g3, g5⟩
   ·have hm1 : (i + 1) * m ≤ fss.length * m := Nat.mul_le_mul_right m (by omega)
    rw [Nat.add_mul, Nat.one_mul] at hm1
    rw [List.getElem?_append_left (by omega)]
    exact g2 j hj
   ·exact hne (g4.mono hb) g5 hs hk (g3 a k c hs hk) (by simpa [Value.ownBlock] using e)
  ·have hi2 : i = fss.length := by
    rcases Nat.lt_or_ge i (fss ++ [fs]).length with h | h
    ·simp at h; omega
    ·rw [List.getElem?_eq_none h] at hi; cases hi
   subst hi2
   rw [List.getElem?_append_right (Nat.le_refl _), Nat.sub_self] at hi
   simp only [List.getElem?_cons_zero, Option.some.injEq] at hi
   subst hi
   have hfar : FarC v.ownBlock es := fun a k c hs hk e => by
    have h1 := hnew a k c hs hk
    have h2 := (hlt a.block e.symm).2
    omega
   refine ⟨es, hm, fun j hj => ?_, fun a k c hs hk e => ?_, (hF.mono (zAw w1 o)).grown hgrow hfar, hn⟩
   ·rw [List.getElem?_append_right (by omega), show fss.length * m + j - us.length = j by omega]
   ·exact hne hF hn hs hk (hfar a k c hs hk) (by simpa [Value.ownBlock] using e)
 ·exact ((hnx.trans (hb.mono hB)).alloc (by omega) o).grown hgrow (by simp; omega) (fun j hj => (hO.lt j hj).1)
section
variable {os : List Oper} {Q : Exit → Act → World → Prop} {a : Act} {p : Pq} {B B0 : Nat} {w0 : World}
variable {i s : Nat} {d : Option Tmp} {ty : TypeId} {ps : String} {af : Array Edge} {gd : Option (Nat × Bool)}
end
def TameRow (w : World) (v : Value) : Prop := ∃ g n cap cur e, v = .slice (some ⟨g, 0, none⟩) n cap ∧ w.heap[g]? = some (.cells cur e (0, 0)) ∧ ∀ u ∈ cur.toList, zCg u = true
theorem TameRow.mono {w w' : World} {v : Value} (h : TameRow w v) (hb : Below w.heap.size w w') : TameRow w' v := by
 obtain ⟨g, n, cap, cur, e, h1, h2, h3⟩ := h
 exact ⟨g, n, cap, cur, e, h1, by rw [hb.block g (Array.getElem?_eq_some_iff.1 h2).1]; exact h2, h3⟩
theorem TameRow.num {w : World} {v : Value} (h : TameRow w v) {n : Bool} {ao : Option Addr} {k c : Nat} {z : Int} (hN : Num w (.agg #[.bool n, .slice ao k c]) z) : ∀ a, ao = some a → k ≠ 0 → some a.block ≠ v.ownBlock := by
 intro a ha hk e
 obtain ⟨g, n', cap, cur, et, rfl, h2, h3⟩ := h
 obtain ⟨neg, ao', k', c', xs, hv, hs, hn, hz⟩ := hN
 injection hv with hv
 have hv2 := congrArg Array.toList hv
 simp at hv2
 obtain ⟨rfl, rfl, rfl, rfl⟩ := hv2
 subst ha
 rcases hs.cells.2 with h0 | ⟨b, off, e1, hlt, hc⟩
 ·have := hs.len; rw [h0] at this; simp at this; omega
 ·injection e1 with e1
  subst e1
  simp [Value.ownBlock] at e
  subst e
  have h4 := hc 0 (by have := hs.len; omega)
  rw [cell_of_row w b _ cur et _ h2] at h4
  have h5 := List.mem_of_getElem? (l := cur.toList) (i := off + 0) (by rw [Array.getElem?_toList]; exact h4)
  have h6 := h3 _ h5
  simp [zCg] at h6
theorem TameRow.far {w : World} {v : Value} (h : TameRow w v) : ∀ {fs : List Fd} {es : List Value}, Fits w fs es → noSl fs = true → FarC v.ownBlock es
 | [], _, hf, _ => by rw [show _ = [] from hf]; intro a k c hm; simp at hm
 | .n z :: fs, _, ⟨x, y, r, e, h1, h2⟩, hn => by
  subst e
  obtain ⟨n, ao, k', c', e⟩ := h1.parts
  have h3 := h1
  rw [e] at h3
  injection e with e
  have e2 := congrArg Array.toList e
  simp at e2
  obtain ⟨rfl, rfl⟩ := e2
  intro a k c hm hk
  simp only [List.mem_cons, reduceCtorEq, false_or] at hm
  rcases hm with hm | hm
  ·injection hm with hm1 hm2 hm3
   subst hm1 hm2 hm3
   exact h.num h3 _ rfl hk
  ·exact TameRow.far h h2 hn a k c hm hk
 | .v u :: fs, _, ⟨r, e, h1, h2⟩, hn => by
  subst e
  intro a k c hm hk
  rcases List.mem_cons.1 hm with hm | hm
  ·subst hm; simp [noSl] at hn
  ·refine TameRow.far h h2 ?_ a k c hm hk
   cases u <;> first | exact hn | simp [noSl] at hn
 | .r n ao k' c' xs z :: fs, _, ⟨r, e, h1, h2⟩, hn => by
  subst e
  intro a k c hm hk
  simp only [List.mem_cons, reduceCtorEq, false_or] at hm
  rcases hm with hm | hm
  ·injection hm with hm1 hm2 hm3
   subst hm1 hm2 hm3
   exact h.num h1.2 _ rfl hk
  ·exact TameRow.far h h2 hn a k c hm hk
set_option maxRecDepth 20000 in
theorem zOw {w : World} (t ty : TypeId) (base : Nat) (e : TypeId) (i : TypeInfo) (z : Value) (size bytes : Nat) (ht : Try.prog.underlying t = some (.slice e)) (hi : Try.prog.info? e = some i) (hz : i.zero = some z)
  (hsize : i.size = size) (hby : i.bytes = bytes) (hzs : z.cells.size = size) (hsz : 0 < size)
  (v : Value) (n : Nat) (xs : List Value) (hown : w.ownsRow base e size v n xs) (htm : TameRow w v) (hzt : ∀ u ∈ z.cells.toList, zCg u = true)
  (ad : Addr) (m c : Nat) (news : List Value) (hl : news.length = m * size) (hnews : ∀ j u, news[j]? = some u → w.cell? (ad.add j) = some u) (h1 : ∀ u ∈ news, zCg u = true)
  (hm : 0 < m) (h63 : n + m ≤ maxLen) (hbytes : (n + m) * bytes ≤ 140737488355328) (hbase : base ≤ w.heap.size) (H : Nat) (hH : w.heap.size = H) :
  ∃ g cap w', (Builtin.append_ #[t, t] ty #[v, .slice (some ad) m c]).run Try.prog w = .ok (.slice (some ⟨g, 0, none⟩) (n + m) cap) w' ∧
   w'.ownsRow base e size (.slice (some ⟨g, 0, none⟩) (n + m) cap) (n + m) (xs ++ news) ∧ w.grownBy w' v.ownBlock ∧ (v.ownBlock = some g ∨ g = H) ∧ g < w'.heap.size ∧ TameRow w' (.slice (some ⟨g, 0, none⟩) (n + m) cap) := by
 have hone : ∀ u ∈ news, u.oneCell' = true := fun u hu => by
  have := h1 u hu
  simp only [zCg, Bool.and_eq_true] at this
  exact this.1
 obtain ⟨g, cap, w', hr, h2, h3, h4, h5⟩ := run_append_lies (P := Try.prog) w t ty base e i z size bytes ht hi hz hsize hby hzs hsz v n xs hown ad m c news hl hnews hone hm h63 hbytes hbase H hH
 refine ⟨g, cap, w', hr, h2, h3, h4, h5, ?_⟩
 subst hsize
 subst hby
 obtain ⟨g0, n0, cap0, cur0, e0, rfl, hg0, ht0⟩ := htm
 rcases hown.2 with ⟨h6, _⟩ | ⟨g6, cap6, cur, h7, hbg, hg, hnc, hcm, hcs, htake⟩
 ·cases h6
 ·injection h7 with h7 h8 h9
  injection h7 with h7
  injection h7 with h7
  subst h7 h8 h9
  have hcur : cur = cur0 := by rw [hg0] at hg; injection hg with hg; injection hg with hg; exact hg.symm
  subst hcur
  by_cases hroom : n0 + m ≤ cap0
  ·have hfit : n0 * i.size + news.length ≤ cur.size := by rw [hl, hcs, ← Nat.add_mul]; exact Nat.mul_le_mul_right _ hroom
   have hr2 := run_append_room (P := Try.prog) w t ty e i ht hi g0 n0 cap0 cur hg ad m c news hl hnews hone hroom hfit
   rw [hr] at hr2
   injection hr2 with e1 e2
   injection e1 with e1 _ e3
   injection e1 with e1
   injection e1 with e1
   subst e1 e2 e3
   refine ⟨g, _, _, _, e, rfl, setRow_heap w g cur _ e _ hg, fun u hu => ?_⟩
   simp only [List.mem_append] at hu
   rcases hu with (hu | hu) | hu
   ·exact ht0 u (List.mem_of_mem_take hu)
   ·exact h1 u hu
   ·exact ht0 u (List.mem_of_mem_drop hu)
  ·have holds : ∀ j u, xs[j]? = some u → w.cell? ((⟨g0, 0, none⟩ : Addr).add j) = some u := hown.cells (g := g0) rfl
   have hsmall : n0 + m ≤ 9223372036854775807 := by simp only [maxLen] at h63; omega
   have hr2 := run_append_grow (P := Try.prog) w t ty e i z ht hi hz ⟨g0, 0, none⟩ n0 cap0 xs hown.1 holds ad m c news hl hnews (by omega) (by omega) (growslice_fits (by omega) hbytes)
   rw [hr] at hr2
   injection hr2 with e1 e2
   injection e1 with e1 _ e3
   injection e1 with e1
   injection e1 with e1
   subst e1 e2 e3
   refine ⟨_, _, _, _, e, rfl, heap_alloc_new w.drew _, fun u hu => ?_⟩
   simp only [Array.toList_append, List.mem_append] at hu
   rcases hu with (hu | hu) | hu
   ·rw [← htake] at hu
    exact ht0 u (List.mem_of_mem_take hu)
   ·exact h1 u hu
   ·simp only [Builtin.zeroCells, Array.toList_map, Array.toList_range, List.mem_map, List.mem_range] at hu
    obtain ⟨j, hj, rfl⟩ := hu
    have hlt : j % z.cells.size < z.cells.size := Nat.mod_lt _ (by rw [hzs]; exact hsz)
    rw [getElem!_pos z.cells (j % z.cells.size) hlt]
    exact hzt _ (by simp)
theorem zO8 {w : World} {ops : Array Oper} {rest : List Oper} {o : Oper} {a : Act} {Q : Exit → Act → World → Prop} (hgd : o.guard = none) (s x : Operand) (t : TypeId)
  (ho : o.op = .call { callee := .builtin .append, args := #[s, x], argTypes := #[t, t] })
  (base : Nat) (e : TypeId) (i : TypeInfo) (z : Value) (size bytes : Nat) (ht : Try.prog.underlying t = some (.slice e)) (hi : Try.prog.info? e = some i) (hz : i.zero = some z)
  (hsize : i.size = size) (hby : i.bytes = bytes) (hzs : z.cells.size = size) (hsz : 0 < size)
  (v : Value) (n : Nat) (xs : List Value) (hs : a.eval s = v) (hown : w.ownsRow base e size v n xs) (htm : TameRow w v) (hzt : ∀ u ∈ z.cells.toList, zCg u = true)
  (ad : Addr) (m c : Nat) (news : List Value) (hx : a.eval x = .slice (some ad) m c) (hl : news.length = m * size) (hnews : ∀ j u, news[j]? = some u → w.cell? (ad.add j) = some u) (h1 : ∀ u ∈ news, zCg u = true)
  (hm : 0 < m) (h63 : n + m ≤ maxLen) (hbytes : (n + m) * bytes ≤ 140737488355328) (hbase : base ≤ w.heap.size) (H : Nat) (hH : w.heap.size = H)
  (h : ∀ g cap w', w'.ownsRow base e size (.slice (some ⟨g, 0, none⟩) (n + m) cap) (n + m) (xs ++ news) → w.grownBy w' v.ownBlock → (v.ownBlock = some g ∨ g = H) → g < w'.heap.size → TameRow w' (.slice (some ⟨g, 0, none⟩) (n + m) cap) → wpList Try.prog ops Q rest (a.put o.dst (.slice (some ⟨g, 0, none⟩) (n + m) cap)) w') : wpList Try.prog ops Q (o :: rest) a w := by
 refine wpList_plain hgd fun K hK => ?_
 obtain ⟨g, cap, w', hr, h2, h3, h4, h5, h6⟩ := zOw (w := w) t o.type base e i z size bytes ht hi hz hsize hby hzs hsz v n xs hown htm hzt ad m c news hl hnews h1 hm h63 hbytes hbase H hH
 unfold Oper.wp execOp
 simp only [ho, resolve, invoke, builtin, Sem.run_bind, Sem.run_pure, Result.andThen_ok, List.map_toArray, List.map_cons, List.map_nil, hs, hx, hr]
 exact hK _ _ (h g cap w' h2 h3 h4 h5 h6)
def RBox (W : World) (own : Option Nat) (br : Nat) (z : Int) : Prop := br < W.heap.size ∧ some br ≠ own ∧ ∃ n ao k c, W.cell? ⟨br, 0, none⟩ = some (.bool n) ∧ W.cell? ⟨br, 1, none⟩ = some (.slice ao k c) ∧ Num W (.agg #[.bool n, .slice ao k c]) z
theorem RBox.mono {W W' : World} {own : Option Nat} {br : Nat} {z : Int} (h : RBox W own br z) (hb : Below W.heap.size W W') : RBox W' own br z := by
 obtain ⟨h1, h2, n, ao, k, c, g1, g2, g3⟩ := h
 exact ⟨Nat.lt_of_lt_of_le h1 hb.size, h2, n, ao, k, c, (hb.cell (p := ⟨br, 0, none⟩) h1).trans g1, (hb.cell (p := ⟨br, 1, none⟩) h1).trans g2, g3.mono hb⟩
theorem RBox.st {W : World} {own : Option Nat} {br : Nat} {z : Int} (h : RBox W own br z) : StAt W br 0 [.n z] := by
 obtain ⟨h1, h2, n, ao, k, c, g1, g2, g3⟩ := h
 refine ⟨[.bool n, .slice ao k c], ⟨_, _, _, rfl, g3, rfl⟩, fun j hj => ?_⟩
 match j, hj with
 | 0, _ => exact g1
 | 1, _ => exact g2
theorem RBox.step {wr w1 w2 : World} {v : Value} {br g H n cap : Nat} {z : Int} {o : Obj} (h : RBox wr v.ownBlock br z) (hb : Below wr.heap.size wr w1) (ht : TameRow (w1.alloc o) v) (hgrow : (w1.alloc o).grownBy w2 v.ownBlock) (hat : v.ownBlock = some g ∨ g = H) (hH : (w1.alloc o).heap.size = H) : RBox w2 (Value.slice (some ⟨g, 0, none⟩) n cap).ownBlock br z := by
 obtain ⟨h1, h2, m, ao, k, c, g1, g2, g3⟩ := (h.mono hb).mono (zAw w1 o)
 have hlt : br < H := by rw [← hH]; exact h1
 refine ⟨Nat.lt_of_lt_of_le h1 hgrow.size, ?_, m, ao, k, c, hgrow.cell g1 h2, hgrow.cell g2 h2, g3.grown hgrow (ht.num g3)⟩
 intro e
 simp [Value.ownBlock] at e
 rcases hat with h3 | h3
 ·rw [h3, e] at h2; exact h2 rfl
 ·omega
theorem TameRow.made {w : World} {es : List Value} {T : Nat} (h : ∀ u ∈ es, zCg u = true) : TameRow (w.alloc (.cells es.toArray T)) (.slice (some ⟨w.heap.size, 0, none⟩) 1 1) := ⟨_, _, _, es.toArray, T, rfl, heap_alloc_new w _, fun u hu => h u (by simpa using hu)⟩
theorem zLq {w : World} {ops : Array Oper} {rest : List Oper} {o : Oper} {a : Act} {Q : Exit → Act → World → Prop} (hgd : o.guard = none) (T : TypeId) (x : Operand) (ho : o.op = .load T x) {b off l : Nat} {fs : List Fd} (hT : rowB T l = true) (hl : sz fs = l)
  (hx : a.eval x = .pointer (some ⟨b, off, none⟩)) (hS : StAt w b off fs) (h : ∀ v, (Fq.st fs).P v w → wpList Try.prog ops Q rest (a.put o.dst v) w) : wpList Try.prog ops Q (o :: rest) a w := by
 refine wpList_plain hgd fun K hK => ?_
 obtain ⟨es, hfit, hat⟩ := hS
 obtain ⟨⟨dd, hu, hd'⟩, hi⟩ := rowB_of hT
 have hr : w.rangeAt b off es := by
  intro j v hv
  have hj := (List.getElem?_eq_some_iff.1 hv).1
  rw [hat j hj, List.getD, hv]
  rfl
 have := run_loadVar_mid (P := Try.prog) w b off T _ dd hr hu hd' (by rw [hfit.length, hl]; exact hi)
 unfold Oper.wp
 have e : (execOp a.eval o).run Try.prog w = .ok (.value (.agg es.toArray)) w := by
  unfold execOp
  simp only [ho, hx, Instr.loadAt, Instr.sureAddr, Sem.run_bind, Sem.run_pure, Result.andThen_ok, this]
 rw [e]
 exact hK _ _ (h _ ⟨_, rfl, hfit⟩)
theorem Fr.addQ {w0 W0 W : World} {bs : List (Nat × Nat × Fq)} (E : Fr w0 bs W0) (hb : Below W0.heap.size W0 W) {g m : Nat} {F : Fq} (hg : W0.heap.size ≤ g) (hB : Bq W g m F) : Fr w0 ((g, m, F) :: bs) W := by
 have h2 := E.later hb
 refine ⟨h2.below, fun x hx => ?_, ?_⟩
 ·rcases List.mem_cons.1 hx with rfl | hx
  ·exact ⟨Nat.le_trans E.below.size hg, hB⟩
  ·exact h2.boxes x hx
 ·rw [List.map_cons, List.nodup_cons]
  refine ⟨fun hm => ?_, E.apart⟩
  obtain ⟨x, hx, e⟩ := List.mem_map.1 hm
  have := (E.boxes x hx).2.lt
  omega
theorem StAt.of_boxQ {w : World} {b m : Nat} {fs : List Fd} (h : Bq w b m (Fq.st fs)) : StAt w b 0 fs := by
 obtain ⟨us, _, h2, h3⟩ := zBt h
 exact ⟨us, h3, fun j hj => by rw [Nat.zero_add]; exact h2 j hj⟩
theorem sixQ {us : List Value} (h : us.length = 6) : ∃ a b c d e f, us = [a, b, c, d, e, f] := by
 match us, h with
 | [a, b, c, d, e, f], _ => exact ⟨a, b, c, d, e, f, rfl⟩
structure F3 where
 a : Int
 b : Int
 c : Int
def frF (P : F3) : List Fd := [.n P.a, .n P.b, .n P.c]
def zD9 (a b c : Int) : Bool := (dfB a b c && redB a b c) && decide (cont a b c = 1)
def zBi (n a b : Int) : List F3 := if (b * b + n) % (4 * a) = 0 then (if zD9 a b ((b * b + n) / (4 * a)) = true then [⟨a, b, (b * b + n) / (4 * a)⟩] else []) else []
def zCc (n a : Int) : Nat → List F3
 | 0 => []
 | k + 1 => zCc n a k ++ zBi n a (-a + (k : Int))
def zB3 (n : Int) : Nat → List F3
 | 0 => []
 | a + 1 => zB3 n a ++ (if a = 0 then [] else zCc n (a : Int) (2 * a + 1))
def AEnd (n : Int) (a : Nat) : Prop := 1 ≤ a ∧ ¬ 3 * ((a : Int) * a) ≤ n ∧ ∀ j : Nat, 1 ≤ j → j < a → 3 * ((j : Int) * j) ≤ n
theorem AEnd.uniq {n : Int} {a b : Nat} (h : AEnd n a) (g : AEnd n b) : a = b := by
 rcases Nat.lt_trichotomy a b with e | e | e
 ·exact absurd (g.2.2 a h.1 e) h.2.1
 ·exact e
 ·exact absurd (h.2.2 b g.1 e) g.2.1
open Classical in
noncomputable def zB6 (n : Int) : List F3 := if h : ∃ a, AEnd n a then zB3 n (Classical.choose h) else []
theorem zKe {n : Int} {a : Nat} (h : AEnd n a) : zB6 n = zB3 n a := by
 have he : ∃ a, AEnd n a := ⟨a, h⟩
 unfold zB6
 rw [dif_pos he, (Classical.choose_spec he).uniq h]
theorem AEnd.ex {n : Int} (h0 : 3 ≤ n) (h1 : n ≤ 2004) : ∃ a, AEnd n a := by
 have key : ∀ k a : Nat, 1 ≤ a → a + k = 26 → (∀ j : Nat, 1 ≤ j → j < a → 3 * ((j : Int) * j) ≤ n) → ∃ a, AEnd n a := by
  intro k
  induction k with
  | zero =>
   intro a h2 h3 h4
   obtain rfl : a = 26 := by omega
   exact ⟨26, by omega, by omega, h4⟩
  | succ k ih =>
   intro a h2 h3 h4
   by_cases h : 3 * ((a : Int) * a) ≤ n
   ·refine ih (a + 1) (by omega) (by omega) fun j hj1 hj2 => ?_
    rcases Nat.lt_or_ge j a with g | g
    ·exact h4 j hj1 g
    ·rw [show j = a by omega]; exact h
   ·exact ⟨a, h2, h, h4⟩
 exact key 25 1 (by omega) (by omega) fun j h2 h3 => by omega
def FOk (n : Int) (P : F3) : Prop := 1 ≤ P.a ∧ (dfB P.a P.b P.c && redB P.a P.b P.c) = true ∧ cont P.a P.b P.c = 1 ∧ P.b * P.b - 4 * (P.a * P.c) = -n
theorem formAt_ok {n a b : Int} (ha : 1 ≤ a) : ∀ P ∈ zBi n a b, FOk n P := by
 intro P hP
 unfold zBi at hP
 split at hP
 ·rename_i hm
  split at hP
  ·rename_i hk
   simp at hP
   subst hP
   unfold zD9 at hk
   simp only [Bool.and_eq_true, decide_eq_true_eq] at hk
   refine ⟨ha, by simp only [Bool.and_eq_true]; exact hk.1, hk.2, ?_⟩
   have h2 := Int.mul_ediv_add_emod (b * b + n) (4 * a)
   rw [hm, Int.mul_assoc] at h2
   show b * b - 4 * (a * ((b * b + n) / (4 * a))) = -n
   omega
  ·simp at hP
 ·simp at hP
theorem zKd {n a : Int} (ha : 1 ≤ a) : ∀ k, ∀ P ∈ zCc n a k, FOk n P
 | 0 => fun P hP => by simp [zCc] at hP
 | k + 1 => fun P hP => by
  rw [zCc] at hP
  rcases List.mem_append.1 hP with h | h
  ·exact zKd ha k P h
  ·exact formAt_ok ha P h
theorem zKc {n : Int} : ∀ a, ∀ P ∈ zB3 n a, FOk n P
 | 0 => fun P hP => by simp [zB3] at hP
 | a + 1 => fun P hP => by
  rw [zB3] at hP
  rcases List.mem_append.1 hP with h | h
  ·exact zKc a P h
  ·split at h
   ·simp at h
   ·exact zKd (by omega) _ P h
theorem zKf {n : Int} : ∀ P ∈ zB6 n, FOk n P := by
 unfold zB6
 split
 ·exact zKc _
 ·intro P hP; simp at hP
theorem zKb {n : Int} {a : Nat} : ∀ k, (zB3 n a).length ≤ (zB3 n (a + k)).length
 | 0 => Nat.le_refl _
 | k + 1 => by
  rw [show a + (k + 1) = (a + k) + 1 by omega, zB3, List.length_append]
  have := zKb (n := n) (a := a) k
  omega
theorem form_len {n a b : Int} : (zBi n a b).length ≤ 1 := by unfold zBi; split <;> (try split) <;> simp
theorem zH5 {n a : Int} : ∀ k, (zCc n a k).length ≤ k
 | 0 => by simp [zCc]
 | k + 1 => by rw [zCc, List.length_append]; have := zH5 (n := n) (a := a) k; have := form_len (n := n) (a := a) (b := -a + (k : Int)); omega
theorem zH4 {n : Int} : ∀ a, a ≤ 26 → (zB3 n a).length ≤ a * 60
 | 0, _ => by simp [zB3]
 | a + 1, h => by
  rw [zB3, List.length_append]
  have := zH4 (n := n) a (by omega)
  split
  ·simp; omega
  ·have := zH5 (n := n) (a := (a : Int)) (2 * a + 1); omega
theorem listF_pos {n : Int} (h0 : 3 ≤ n) (h1 : n ≤ 2004) (h4 : n % 4 = 0 ∨ n % 4 = 3) : 0 < (zB6 n).length := by
 obtain ⟨a, h⟩ := AEnd.ex h0 h1
 rw [zKe h]
 have h2 : 2 ≤ a := by
  rcases Nat.lt_or_ge a 2 with g | g
  ·have h5 : a = 1 := by have := h.1; omega
   subst h5
   exact absurd (show (3 * (((1 : Nat) : Int) * (1 : Nat)) : Int) ≤ n by omega) h.2.1
  ·exact g
 obtain ⟨k, rfl⟩ : ∃ k, a = 2 + k := ⟨a - 2, by omega⟩
 refine Nat.lt_of_lt_of_le ?_ (zKb k)
 have e : zB3 n 2 = zB3 n 1 ++ zCc n ((1 : Nat) : Int) 3 := rfl
 rw [e, List.length_append]
 have key : ∀ b c : Int, 0 ≤ b → b ≤ 1 → b * b + n = 4 * c → 1 ≤ c → 0 < (zBi n 1 b).length := by
  intro b c hb0 hb1 hc hc1
  have hm : (b * b + n) % (4 * 1) = 0 := by rw [hc]; omega
  have hq : (b * b + n) / (4 * 1) = c := by rw [hc]; omega
  unfold zBi
  rw [if_pos hm, hq, if_pos]
  ·simp
  ·unfold zD9
   have hrd : Rdf 1 b c := ⟨by decide, by omega, by omega, hc1, fun _ => hb0⟩
   rw [(zEc (by decide)).2 hrd, Bool.and_true]
   have hd : dfB 1 b c = true := by
    unfold dfB
    exact decide_eq_true ⟨by omega, by decide⟩
   rw [hd, Bool.true_and]
   refine decide_eq_true ?_
   unfold cont
   simp
 have e2 : zCc n ((1 : Nat) : Int) 3 = ((([] : List F3) ++ zBi n ((1 : Nat) : Int) (-((1 : Nat) : Int) + ((0 : Nat) : Int))) ++ zBi n ((1 : Nat) : Int) (-((1 : Nat) : Int) + ((1 : Nat) : Int))) ++ zBi n ((1 : Nat) : Int) (-((1 : Nat) : Int) + ((2 : Nat) : Int)) := rfl
 rw [e2, List.length_append, List.length_append]
 rcases h4 with h5 | h5
 ·have := key 0 (n / 4) (by decide) (by decide) (by omega) (by omega)
  have e3 : zBi n ((1 : Nat) : Int) (-((1 : Nat) : Int) + ((1 : Nat) : Int)) = zBi n 1 0 := rfl
  rw [e3]
  omega
 ·have := key 1 ((n + 1) / 4) (by decide) (by decide) (by omega) (by omega)
  have e3 : zBi n ((1 : Nat) : Int) (-((1 : Nat) : Int) + ((2 : Nat) : Int)) = zBi n 1 1 := rfl
  rw [e3]
  omega
def rowQ : List F3 → List Fd
 | [] => []
 | P :: ps => frF P ++ rowQ ps
theorem zLb : ∀ (ps qs : List F3), rowQ (ps ++ qs) = rowQ ps ++ rowQ qs
 | [], _ => rfl
 | P :: ps, qs => by
  show frF P ++ rowQ (ps ++ qs) = (frF P ++ rowQ ps) ++ rowQ qs
  rw [zLb ps qs, List.append_assoc]
theorem zLc : ∀ {ps : List F3} {i : Nat} {P : F3}, ps[i]? = some P → subF (i * 6) 6 (rowQ ps) = some (frF P)
 | [], _, _, h => by simp at h
 | Q :: ps, 0, P, h => by
  simp at h
  subst h
  rfl
 | Q :: ps, i + 1, P, h => by
  have ih := zLc (ps := ps) (i := i) (P := P) (by simpa using h)
  rw [show (i + 1) * 6 = i * 6 + 6 by omega]
  exact ih
theorem Ls.box6 {T : Nat} {w : World} {B : Nat} {v : Value} {Ps : List F3} (h : Ls T 6 w B v (Ps.map frF)) (h0 : 0 < Ps.length) : ∃ g cap, v = .slice (some ⟨g, 0, none⟩) Ps.length cap ∧ B ≤ g ∧ Bq w g (Ps.length * 6) (Fq.st (rowQ Ps)) := by
 obtain ⟨us, h, hE⟩ := h
 have h5 := h
 have hul := h5.1
 rw [List.length_map] at hul
 rcases h.2 with ⟨rfl, h1⟩ | ⟨g, cap, cur, rfl, h1, h2, h3⟩
 ·rw [List.length_map] at h1; omega
 ·rw [List.length_map] at h5 ⊢
  have hat : At w g us := fun j hj => ⟨by rw [World.ownsRow.cellAt h5 j (by omega)]; simp [List.getD, List.getElem?_eq_getElem hj], by simp [World.frozen?, h2]⟩
  have all : ∀ n, n ≤ Ps.length → Fits w (rowQ (Ps.take n)) (us.take (n * 6)) := by
   intro n
   induction n with
   | zero => exact fun _ => by rw [Nat.zero_mul, List.take_zero, List.take_zero]; rfl
   | succ n ih =>
    intro hn
    obtain ⟨es, g1, g2, _, g4, _⟩ := hE n (frF (Ps[n]'(by omega))) (by simp [List.getElem?_map, List.getElem?_eq_getElem (show n < Ps.length by omega)])
    have e : us.take ((n + 1) * 6) = us.take (n * 6) ++ es := by
     rw [Nat.add_mul, Nat.one_mul, List.take_add]
     congr 1
     refine List.ext_getElem? fun j => ?_
     rcases Nat.lt_or_ge j 6 with hj | hj
     ·rw [List.getElem?_take_of_lt hj, List.getElem?_drop]
      exact g2 j hj
     ·rw [List.getElem?_eq_none (by rw [List.length_take]; omega), List.getElem?_eq_none (by omega)]
    rw [e, List.take_add_one, List.getElem?_eq_getElem (by omega), Option.toList_some, zLb]
    refine (ih (by omega)).append ?_
    show Fits w (frF _ ++ []) es
    rw [List.append_nil]
    exact g4
  have hf := all Ps.length (Nat.le_refl _)
  rw [List.take_length, ← hul, List.take_length] at hf
  exact ⟨g, cap, rfl, h1, us, hul, by omega, hat, hf.tame, us, rfl, hf⟩
theorem Ls.stepF {T m B : Nat} {w wr w1 w2 : World} {v : Value} {fss : List (List Fd)} {us es : List Value} {fs : List Fd} {o : Obj} {g cap H : Nat}
  (hO : wr.ownsRow B T m v fss.length us) (hE : ∀ i z, fss[i]? = some z → StCell m us wr v.ownBlock i z) (hB : B ≤ wr.heap.size) (hnx : Below B w wr) (hb : Below wr.heap.size wr w1)
  (hfar : FarC v.ownBlock es) (hF : Fits w1 fs es) (hn : noSl fs = true) (hm : es.length = m)
  (hown' : w2.ownsRow B T m (.slice (some ⟨g, 0, none⟩) (fss.length + 1) cap) (fss.length + 1) (us ++ es)) (hgrow : (w1.alloc o).grownBy w2 v.ownBlock) (hat : v.ownBlock = some g ∨ g = H) (hH : (w1.alloc o).heap.size = H) :
  Ls T m w2 B (.slice (some ⟨g, 0, none⟩) (fss.length + 1) cap) (fss ++ [fs]) ∧ Below B w w2 := by
 have hsz := hb.size
 have hH2 : w1.heap.size + 1 = H := by rw [← hH]; simp
 have hul := hO.1
 refine ⟨⟨us ++ es, by simpa using hown', fun i y hi => ?_⟩, ?_⟩
 ·have hne : ∀ {a : Addr} {k c : Nat} {xs : List Value} {gs : List Fd}, Fits w1 gs xs → noSl gs = true → Value.slice (some a) k c ∈ xs → k ≠ 0 → some a.block ≠ v.ownBlock → a.block ≠ g := by
   intro a k c xs gs hx hnx2 hmx hk hr e
   have h1 := hx.blk hnx2 hmx hk
   rcases hat with h | h
   ·rw [h, e] at hr; exact hr rfl
   ·omega
  by_cases hil : i < fss.length
  ·rw [List.getElem?_append_left hil] at hi
   obtain ⟨xs, g1, g2, g3, g4, g5⟩ := hE i y hi
   refine ⟨xs, g1, fun j hj => ?_, fun a k c hs hk e => ?_, ((g4.mono hb).mono (zAw w1 o)).grown hgrow g3, g5⟩
   ·have hm1 : (i + 1) * m ≤ fss.length * m := Nat.mul_le_mul_right m (by omega)
    rw [Nat.add_mul, Nat.one_mul] at hm1
    rw [List.getElem?_append_left (by omega)]
    exact g2 j hj
   ·exact hne (g4.mono hb) g5 hs hk (g3 a k c hs hk) (by simpa [Value.ownBlock] using e)
  ·have hi2 : i = fss.length := by
    rcases Nat.lt_or_ge i (fss ++ [fs]).length with h | h
    ·simp at h; omega
    ·rw [List.getElem?_eq_none h] at hi; cases hi
   subst hi2
   rw [List.getElem?_append_right (Nat.le_refl _), Nat.sub_self] at hi
   simp only [List.getElem?_cons_zero, Option.some.injEq] at hi
   subst hi
   refine ⟨es, hm, fun j hj => ?_, fun a k c hs hk e => ?_, (hF.mono (zAw w1 o)).grown hgrow hfar, hn⟩
   ·rw [List.getElem?_append_right (by omega), show fss.length * m + j - us.length = j by omega]
   ·exact hne hF hn hs hk (hfar a k c hs hk) (by simpa [Value.ownBlock] using e)
 ·exact ((hnx.trans (hb.mono hB)).alloc (by omega) o).grown hgrow (by simp; omega) (fun j hj => (hO.lt j hj).1)
theorem Ls.nil {T m : Nat} (w : World) {B : Nat} (hB : B ≤ w.heap.size) : Ls T m (w.alloc (.cells #[] T)) B (.slice (some ⟨w.heap.size, 0, none⟩) 0 0) [] :=
 ⟨[], ⟨by simp, .inr ⟨w.heap.size, 0, #[], rfl, hB, heap_alloc_new w _, by simp, by unfold maxLen; omega, by simp, by simp⟩⟩, fun i z hi => by simp at hi⟩
theorem TameRow.nil {w : World} {T : Nat} : TameRow (w.alloc (.cells #[] T)) (.slice (some ⟨w.heap.size, 0, none⟩) 0 0) := ⟨_, _, _, #[], T, rfl, heap_alloc_new w _, fun u hu => by simp at hu⟩
theorem zPc {w : World} {ops : Array Oper} {rest : List Oper} {o : Oper} {a : Act} {Q : Exit → Act → World → Prop} (hgd : o.guard = none) (x : Operand) (ho : o.op = .move x) (h : wpList Try.prog ops Q rest (a.put o.dst (a.eval x)) w) : wpList Try.prog ops Q (o :: rest) a w := by
 refine wpList_plain hgd fun K hK => ?_
 unfold Oper.wp
 have e : (execOp a.eval o).run Try.prog w = .ok (.value (a.eval x)) w := by
  unfold execOp
  simp only [ho]
  simp [go_sem]
 rw [e]
 exact hK _ _ h
theorem info_form : (Try.prog.info? 33).map (fun i => (i.zero, i.size, i.bytes)) = some (some (.agg #[.bool false, .slice none 0 0, .bool false, .slice none 0 0, .bool false, .slice none 0 0]), 6, 96) := by kernel_rfl
theorem frF_snoc (Ps : List F3) (P : F3) : (Ps ++ [P]).map frF = Ps.map frF ++ [frF P] := by simp
theorem sq_bd {a : Nat} {n : Int} (h : 3 * ((a : Int) * a) ≤ n) (hn : n ≤ 2004) : a ≤ 25 := by
 rcases Nat.lt_or_ge 25 a with g | g
 ·have h1 := Nat.mul_le_mul (show 26 ≤ a by omega) (show 26 ≤ a by omega)
  have h2 : ((a * a : Nat) : Int) = (a : Int) * a := by rw [Int.natCast_mul]
  omega
 ·exact g
theorem zO3 {x y : Int} {m n : Nat} (hx : x.natAbs ≤ m) (hy : y.natAbs ≤ n) : (x * y).natAbs ≤ m * n := by
 rw [Int.natAbs_mul]
 exact Nat.mul_le_mul hx hy
theorem sq_nn {b : Int} {m : Nat} (h : b.natAbs ≤ m) : 0 ≤ b * b ∧ b * b ≤ m * m := by
 have h1 := zO3 h h
 have h2 := zDq b
 have h3 : ((m * m : Nat) : Int) = (m : Int) * m := by rw [Int.natCast_mul]
 omega
set_option maxRecDepth 100000 in
set_option maxHeartbeats 4000000 in
theorem exQList {w : World} {n : Int} (h0 : 3 ≤ n) (h1 : n ≤ 2004) :
  Calls Try.prog 67 #[.int .i64 n] w fun e w' => ∃ v', e = .returned v' ∧ Below w.heap.size w w' ∧ Ls 33 6 w' w.heap.size v' ((zB6 n).map frF) := by
 have HN := hidd (And.intro h0 h1)
 clear h0 h1
 obtain ⟨i0, hi, hz0, hz1, hz2⟩ := info_parts info_form
 go_enter Try.func67, Try.ntmps67
 obtain ⟨W0, rfl⟩ : ∃ W0, W0 = w := ⟨_, rfl⟩
 go_wp2
 go_loopw [3, 4] (fun vl va W => ∃ (a : Nat) (A : Int) (Ps : List F3), va = .int .i64 A ∧ A = (a : Int) ∧ 1 ≤ a ∧ a ≤ 26 ∧ (∀ j : Nat, 1 ≤ j → j < a → 3 * ((j : Int) * j) ≤ n) ∧ Ps = zB3 n a ∧ Ls 33 6 W W0.heap.size vl (Ps.map frF) ∧ TameRow W vl ∧ Below W0.heap.size W0 W) (fun _ va _ => (27 - intOf va).toNat)
 case atStart => exact ⟨1, 1, [], rfl, rfl, by omega, by omega, fun j h2 h3 => by omega, rfl, Ls.nil W0 (Nat.le_refl _), TameRow.nil, zAw _ _⟩
 case round =>
  obtain ⟨V2, rfl⟩ : ∃ V2, V2 = wr := ⟨_, rfl⟩
  obtain ⟨a, A, Ps, rfl, hA, ha1, ha2, hrun, hPE, HL, HT, HBW⟩ := hrel
  have HPE := hidd hPE
  have HAA := hidd hA
  have HRUN := hidd hrun
  have hPl : Ps.length ≤ a * 60 := by rw [hPE]; exact zH4 a ha2
  clear hPE
  have hml : (Ps.map frF).length = Ps.length := List.length_map ..
  obtain ⟨ao2, cap2, rfl⟩ := id HL.shape
  rw [hml] at HL HT ⊢
  by_cases hx : 3 * ((a : Int) * a) ≤ n
  ·have hae : 3 * ((a : Int) * a) ≤ n := hx
   have ha25 := sq_bd hae (by have := HN.out; omega)
   have HQ0 := hidd (And.intro ha1 (And.intro ha25 hPl))
   have HXE := hidd hae
   have HLH := hidd HL
   have HTH := hidd HT
   have HBH := hidd HBW
   have hV := HBW.size
   have haa : A * A = (a : Int) * a := by rw [hA]
   have hs := sq_nn (b := A) (m := 25) (by omega)
   obtain ⟨t3, ht3⟩ : ∃ t3, t3 = 3 * A := ⟨_, rfl⟩
   obtain ⟨t4, ht4⟩ : ∃ t4, t4 = t3 * A := ⟨_, rfl⟩
   have hq4 : t4 = 3 * ((a : Int) * a) := by rw [ht4, ht3, Int.mul_assoc, haa]
   have W3 : Hid (IntKind.i64.wrap (3 * A) = t3) := by show _ = _; rw [ht3]; exact IntWalk.i64_in _ (by omega)
   have W4 : Hid (IntKind.i64.wrap (t3 * A) = t4) := by show _ = _; rw [← ht4]; exact IntWalk.i64_in _ (by omega)
   have T4 : Hid (t4 ≤ n) := by show _ ≤ _; omega
   have WN : Hid (IntKind.i64.wrap (-A) = -A) := IntWalk.i64_in _ (by omega)
   clear ha1 ha2 hPl HL HT HBW hx hae ha25 haa hs ht3 ht4 hq4 hA hrun hV hml
   have E := Fr.start V2
   go_upto_region 3 with (fail)
   refine rg [Fq.is (.int .i64 A), Fq.is (.int .i64 t3), Fq.is (.int .i64 A), Fq.is (.int .i64 t4), Fq.is (.int .i64 n), yT] [] [] E (fun hp => ⟨?_, ?_, ?_, ?_, ?_, ?_, tv⟩) ?_
   ·exact zAa hp fo tv (sqo 4)
   ·exact zAd (F := fun v _ => v = .int .i64 A) hp fo tv (sqi 0) (fun ρ w hc h => ⟨.int .i64 t3, by simp [execOp, go_sem, h, hc, W3.out], rfl⟩)
   ·exact zAa hp fo tv (sqo 4)
   ·exact zAg (F := fun v _ => v = .int .i64 t3) (G := fun v _ => v = .int .i64 A) hp fo tv (sqi 1) (sqi 2) (fun ρ w hc h h' => ⟨.int .i64 t4, by simp [execOp, go_sem, h, h', W4.out], rfl⟩)
   ·exact zAa hp fo tv (sqo 0)
   ·exact zAg (F := fun v _ => v = .int .i64 t4) (G := fun v _ => v = .int .i64 n) hp fo tv (sqi 3) (sqi 4) (fun ρ w hc h h' => ⟨.bool true, by simp [execOp, go_sem, h, h', T4.out], rfl⟩)
   intro L vs w1 nb hL hC hn E1
   have e0 := wXi hC 0
   have e1 := wXi hC 1
   have e2 := wXi hC 2
   have e3 := wXi hC 3
   have e4 := wXi hC 4
   have e5 := wXi hC 5
   have E := E1; try simp only [LM, zAc] at E
   rw [zAe hL]
   simp only [SP, Nat.zero_add, Nat.reduceAdd]
   rw [e0, e1, e2, e3, e4, e5]
   clear e0 e1 e2 e3 e4 e5 hC hn E1 hL vs L nb
   go_upto_region 5 with (fail)
   refine rg [Fq.is (.int .i64 A), Fq.is (.int .i64 (-A)), Fq.is (.int .i64 (-A))] [] [] E (fun hp => ⟨?_, ?_, ?_, tv⟩) ?_
   ·exact zAa hp fo tv (sqo 4)
   ·exact zAd (F := fun v _ => v = .int .i64 A) hp fo tv (sqi 0) (fun ρ w _ h => ⟨.int .i64 (-A), by simp [execOp, go_sem, h, WN.out], rfl⟩)
   ·exact zAh hp fo tv (sqi 1)
   intro L vs w2 nb hL hC hn E2
   have e0 := wXi hC 0
   have e1 := wXi hC 1
   have e2 := wXi hC 2
   have E := E2; try simp only [LM, zAc] at E
   rw [zAe hL]
   simp only [SP, Nat.zero_add, Nat.reduceAdd]
   rw [e0, e1, e2]
   clear e0 e1 e2 hC hn E2 hL vs L nb
   clear W3 W4 T4 WN
   have HL3 := hidd (HLH.out.mono E.below)
   have HT3 := hidd (HTH.out.mono E.below)
   have HB3 := hidd (HBH.out.trans (E.below.mono HBH.out.size))
   clear E HLH HTH HBH
   obtain ⟨V3, rfl⟩ : ∃ V3, V3 = w2 := ⟨_, rfl⟩
   go_wp2
   go_loopw [3, 5] (fun vl vb W => ∃ (k : Nat) (b : Int) (Qs : List F3), vb = .int .i64 b ∧ b = -A + (k : Int) ∧ k ≤ 2 * a + 1 ∧ Qs = zB3 n a ++ zCc n A k ∧ Ls 33 6 W W0.heap.size vl (Qs.map frF) ∧ TameRow W vl ∧ Below W0.heap.size W0 W) (fun _ vb _ => (27 - intOf vb).toNat)
   case atStart => exact ⟨0, -A, Ps, rfl, by omega, by omega, by rw [HPE.out]; exact (List.append_nil _).symm, HL3.out, HT3.out, HB3.out⟩
   case round =>
    clear HL3 HT3 HB3
    obtain ⟨V4, rfl⟩ : ∃ V4, V4 = wr := ⟨_, rfl⟩
    obtain ⟨k, b, Qs, rfl, hb, hk, hQE, HL, HT, HBW⟩ := hrel
    have HQE2 := hidd hQE
    have hQl : Qs.length ≤ 2000 := by have h8 := zH4 (n := n) a (by have := HQ0.out.2.1; omega); have h9 := zH5 (n := n) (a := A) k; have := HQ0.out.2.1; rw [hQE, List.length_append]; omega
    clear hQE
    have hml : (Qs.map frF).length = Qs.length := List.length_map ..
    obtain ⟨ao4, cap4, rfl⟩ := id HL.shape
    rw [hml] at HL HT ⊢
    by_cases hy : b ≤ A
    ·have hb0 : b.natAbs ≤ 25 := by have := HQ0.out.2.1; have := HAA.out; omega
     have hs := sq_nn hb0
     have TB := hidd hy
     have HQL := hidd hQl
     have HKE := hidd (And.intro hb (show k < 2 * a + 1 by have := HAA.out; omega))
     have HLH := hidd HL
     have HTH := hidd HT
     have HBH := hidd HBW
     have hn := HN.out
     have hA := HAA.out
     have ha := HQ0.out
     obtain ⟨bb, hbb⟩ : ∃ x, x = b * b := ⟨_, rfl⟩
     obtain ⟨s, hs2⟩ : ∃ x, x = bb + n := ⟨_, rfl⟩
     obtain ⟨d4, hd4⟩ : ∃ x, x = 4 * A := ⟨_, rfl⟩
     obtain ⟨r, hr⟩ : ∃ x, x = s % d4 := ⟨_, rfl⟩
     obtain ⟨c, hc⟩ : ∃ x, x = s / d4 := ⟨_, rfl⟩
     rw [← hbb] at hs
     have hs0 : 3 ≤ s ∧ s ≤ 3000 := by omega
     have hd0 : 4 ≤ d4 ∧ d4 ≤ 100 := by omega
     have hc0 : 0 ≤ c ∧ c ≤ 3000 := by rw [hc]; exact ⟨Int.ediv_nonneg (by omega) (by omega), Int.le_trans (Int.ediv_le_self _ (by omega)) hs0.2⟩
     have hr0 : 0 ≤ r ∧ r < d4 := by rw [hr]; exact ⟨Int.emod_nonneg _ (by omega), Int.emod_lt_of_pos _ (by omega)⟩
     have W2 : Hid (IntKind.i64.wrap (b * b) = bb) := by show _ = _; rw [← hbb]; exact IntWalk.i64_in _ (by omega)
     have W5 : Hid (IntKind.i64.wrap (bb + n) = s) := by show _ = _; rw [← hs2]; exact IntWalk.i64_in _ (by omega)
     have W6 : Hid (IntKind.i64.wrap (4 * A) = d4) := by show _ = _; rw [← hd4]; exact IntWalk.i64_in _ (by omega)
     have WR : Hid (Int.tmod s d4 = r) := by show _ = _; rw [Int.tmod_eq_emod_of_nonneg (by omega), hr]
     have WQ : Hid (Int.tdiv s d4 = c) := by show _ = _; rw [Int.tdiv_eq_ediv_of_nonneg (by omega), hc]
     have WC : Hid (IntKind.i64.wrap c = c) := IntWalk.i64_in _ (by omega)
     have D0 : Hid (¬ d4 = 0) := by show ¬ _; omega
     have FE : Hid (zBi n A b = if r = 0 then (if zD9 A b c = true then [⟨A, b, c⟩] else []) else []) := by show _ = _; unfold zBi; rw [← hbb, ← hs2, ← hd4, ← hr, ← hc]
     have RA : Hid (-9223372036854775808 ≤ A ∧ A ≤ 9223372036854775807) := by show _ ∧ _; omega
     have RB_ : Hid (-9223372036854775808 ≤ b ∧ b ≤ 9223372036854775807) := by show _ ∧ _; omega
     have RC : Hid (-9223372036854775808 ≤ c ∧ c ≤ 9223372036854775807) := by show _ ∧ _; omega
     have BA : Hid (ab A < pw 3) := zAs RA.out.1 RA.out.2
     have BB : Hid (ab b < pw 3) := zAs RB_.out.1 RB_.out.2
     have BC : Hid (ab c < pw 3) := zAs RC.out.1 RC.out.2
     have HBB := hidd hb0
     clear hb0 hs hn hA ha hbb hs2 hd4 hr hc hs0 hd0 hc0 hr0 hb hk hQl HL HT HBW hy hml
     have E := Fr.start V4
     go_upto_region 6 with (fail)
     refine rg [Fq.is (.int .i64 b), Fq.is (.int .i64 A), yT] [] [] E (fun hp => ⟨?_, ?_, ?_, tv⟩) ?_
     ·exact zAa hp fo tv (sqo 5)
     ·exact zAa hp fo tv (sqo 4)
     ·exact zAg (F := fun v _ => v = .int .i64 b) (G := fun v _ => v = .int .i64 A) hp fo tv (sqi 0) (sqi 1) (fun ρ w hc h h' => ⟨.bool true, by simp [execOp, go_sem, h, h', TB.out], rfl⟩)
     intro L vs w3 nb hL hC hn E3
     have e0 := wXi hC 0
     have e1 := wXi hC 1
     have e2 := wXi hC 2
     have E := E3; try simp only [LM, zAc] at E
     rw [zAe hL]
     simp only [SP, Nat.zero_add, Nat.reduceAdd]
     rw [e0, e1, e2]
     clear e0 e1 e2 hC hn E3 hL vs L nb
     clear TB
     go_upto_region 8 with (fail)
     by_cases hr0 : r = 0
     ·have T8 : Hid (¬ ¬ r = 0) := fun e => e hr0
      have FD : Hid (zBi n A b = if zD9 A b c = true then [⟨A, b, c⟩] else []) := FE.out.trans (if_pos hr0)
      have T8b := hidd hr0
      clear hr0 FE
      refine rg [Fq.is (.int .i64 b), Fq.is (.int .i64 b), Fq.is (.int .i64 bb), Fq.is (.int .i64 n), Fq.is (.int .i64 s), Fq.is (.int .i64 A), Fq.is (.int .i64 d4), Fq.is (.int .i64 r), yF] [] [] E (fun hp => ⟨?_, ?_, ?_, ?_, ?_, ?_, ?_, ?_, ?_, tv⟩) ?_
      ·exact zAa hp fo tv (sqo 5)
      ·exact zAa hp fo tv (sqo 5)
      ·exact zAg (F := fun v _ => v = .int .i64 b) (G := fun v _ => v = .int .i64 b) hp fo tv (sqi 0) (sqi 1) (fun ρ w hc h h' => ⟨.int .i64 bb, by simp [execOp, go_sem, h, h', W2.out], rfl⟩)
      ·exact zAa hp fo tv (sqo 0)
      ·exact zAg (F := fun v _ => v = .int .i64 bb) (G := fun v _ => v = .int .i64 n) hp fo tv (sqi 2) (sqi 3) (fun ρ w hc h h' => ⟨.int .i64 s, by simp [execOp, go_sem, h, h', W5.out], rfl⟩)
      ·exact zAa hp fo tv (sqo 4)
      ·exact zAd (F := fun v _ => v = .int .i64 A) hp fo tv (sqi 5) (fun ρ w hc h => ⟨.int .i64 d4, by simp [execOp, go_sem, h, hc, W6.out], rfl⟩)
      ·exact zAg (F := fun v _ => v = .int .i64 s) (G := fun v _ => v = .int .i64 d4) hp fo tv (sqi 4) (sqi 6) (fun ρ w hc h h' => ⟨.int .i64 r, by simp [execOp, go_sem, h, h', D0.out, WR.out], rfl⟩)
      ·exact zAd (F := fun v _ => v = .int .i64 r) hp fo tv (sqi 7) (fun ρ w hc h => ⟨.bool false, by simp [execOp, go_sem, h, hc, T8b.out], rfl⟩)
      intro L vs w4 nb hL hC hn E4
      have e0 := wXi hC 0
      have e1 := wXi hC 1
      have e2 := wXi hC 2
      have e3 := wXi hC 3
      have e4 := wXi hC 4
      have e5 := wXi hC 5
      have e6 := wXi hC 6
      have e7 := wXi hC 7
      have e8 := wXi hC 8
      have E := E4; try simp only [LM, zAc] at E
      rw [zAe hL]
      simp only [SP, Nat.zero_add, Nat.reduceAdd]
      rw [e0, e1, e2, e3, e4, e5, e6, e7, e8]
      clear e0 e1 e2 e3 e4 e5 e6 e7 e8 hC hn E4 hL vs L nb
      go_upto_region 9 with (fail)
      refine rg [Fq.is (.int .i64 A), Fq.is (.int .i64 b), Fq.is (.int .i64 b), Fq.is (.int .i64 b), Fq.is (.int .i64 bb), Fq.is (.int .i64 n), Fq.is (.int .i64 s), Fq.is (.int .i64 A), Fq.is (.int .i64 d4), Fq.is (.int .i64 c), Fq.st [.n A, .n b, .n c], Fq.any, Fq.any] [] [⟨11, 12, 6, Fq.st [.n 0, .n 0, .n 0], Fq.st [.n A, .n b, .n c], none⟩] E (fun hp => ⟨?_, ?_, ?_, ?_, ?_, ?_, ?_, ?_, ?_, ?_, ?_, ?_, ?_, tv⟩) ?_
      ·exact zAa hp fo tv (sqo 4)
      ·exact zAa hp fo tv (sqo 5)
      ·exact zAa hp fo tv (sqo 5)
      ·exact zAa hp fo tv (sqo 5)
      ·exact zAg (F := fun v _ => v = .int .i64 b) (G := fun v _ => v = .int .i64 b) hp fo tv (sqi 2) (sqi 3) (fun ρ w hc h h' => ⟨.int .i64 bb, by simp [execOp, go_sem, h, h', W2.out], rfl⟩)
      ·exact zAa hp fo tv (sqo 0)
      ·exact zAg (F := fun v _ => v = .int .i64 bb) (G := fun v _ => v = .int .i64 n) hp fo tv (sqi 4) (sqi 5) (fun ρ w hc h h' => ⟨.int .i64 s, by simp [execOp, go_sem, h, h', W5.out], rfl⟩)
      ·exact zAa hp fo tv (sqo 4)
      ·exact zAd (F := fun v _ => v = .int .i64 A) hp fo tv (sqi 7) (fun ρ w hc h => ⟨.int .i64 d4, by simp [execOp, go_sem, h, hc, W6.out], rfl⟩)
      ·exact zAg (F := fun v _ => v = .int .i64 s) (G := fun v _ => v = .int .i64 d4) hp fo tv (sqi 6) (sqi 8) (fun ρ w hc h h' => ⟨.int .i64 c, by simp [execOp, go_sem, h, h', D0.out, WQ.out, WC.out], rfl⟩)
      ·exact zB1 (F := (Fq.is (.int .i64 A)).P) (G := (Fq.is (.int .i64 b)).P) (F3 := (Fq.is (.int .i64 c)).P) hp fo tv (zDl) (sqi 0) (sqi 1) (sqi 9) (fun v v' u w h h' g => (by subst h h' g; exact zDm RA.out RB_.out RC.out))
      ·exact aS hp (mq 0 rfl) zBf zDg
      ·exact sS 10 hp (mq 0 rfl) zBd
      intro L vs w5 nb hL hC hn E5
      have e0 := wXi hC 0
      have e1 := wXi hC 1
      have e2 := wXi hC 2
      have e3 := wXi hC 3
      have e4 := wXi hC 4
      have e5 := wXi hC 5
      have e6 := wXi hC 6
      have e7 := wXi hC 7
      have e8 := wXi hC 8
      have e9 := wXi hC 9
      have e11 : vs 11 = .pointer (some ⟨nb 11, 0, none⟩) := hn _ (mq 0 rfl)
      have E := E5; try simp only [LM, zAc] at E
      rw [zAe hL]
      simp only [SP, Nat.zero_add, Nat.reduceAdd]
      rw [e0, e1, e2, e3, e4, e5, e6, e7, e8, e9, e11]
      generalize nb 11 = b5_11 at E ⊢
      generalize vs 10 = u5_10
      clear e0 e1 e2 e3 e4 e5 e6 e7 e8 e9 e11 hC hn E5 hL vs L nb
      clear W2 W5 W6 WR WQ WC D0 T8 T8b RA RB_ RC
      go_upto_region 10 with (fail)
      by_cases hk1 : (dfB A b c && redB A b c) = true
      ·by_cases hk2 : cont A b c = 1
       ·have K1 := hidd hk1
        have K2 : Hid (decide (cont A b c = 1) = true) := decide_eq_true hk2
        have FN : Hid (zBi n A b = [⟨A, b, c⟩]) := FD.out.trans (if_pos (by unfold zD9; rw [K1.out, K2.out]; simp))
        clear hk1 hk2
        refine rg [Fq.st [.n A, .n b, .n c], yT, yT, Fq.st [.n A, .n b, .n c], yT, yT] [none] [] E (fun hp => ⟨?_, ?_, ?_, ?_, ?_, ?_, tv⟩) ?_
        ·exact lS 0 6 hp (mq 0 rfl) zAo (sqo 6)
        ·exact wXa (Fq.st [.n A, .n b, .n c]) hp zHp (sqi 0) fun v w h => zHx h (Int.lt_of_lt_of_le BA.out (zAb (by omega))) (Int.lt_of_lt_of_le BB.out (zAb (by omega))) (Int.lt_of_lt_of_le BC.out (zAb (by omega))) K1.out
        ·exact zAa hp fo tv (sqi 1)
        ·exact lG 0 6 hp gqi (mq 0 rfl) zAo (sqo 6) fun v w h => h
        ·exact zAm (F := (Fq.st [.n A, .n b, .n c]).P) hp fo gqi (zJj) (sqi 3) (fun v w h => zJz h (Int.lt_of_lt_of_le BA.out (zAb (by omega))) (Int.lt_of_lt_of_le BB.out (zAb (by omega))) (Int.lt_of_lt_of_le BC.out (zAb (by omega))) K2.out)
        ·exact zAg (F := fun v _ => v = .bool true) (G := fun v _ => v = .bool true) hp fo tv (sqi 2) (sqi 4) (fun ρ w hc h h' => ⟨_, by simp [execOp, go_sem, h, h'], rfl⟩)
        intro L vs w6 nb hL hC hn E6
        have e1 := wXi hC 1
        have e2 := wXi hC 2
        have e4 := wXi hC 4
        have e5 := wXi hC 5
        have E := E6; try simp only [LM, zAc] at E
        rw [zAe hL]
        simp only [SP, Nat.zero_add, Nat.reduceAdd]
        rw [e1, e2, e4, e5]
        generalize vs 0 = u6_0
        generalize vs 3 = u6_3
        clear e1 e2 e4 e5 hC hn E6 hL vs L nb
        clear K1 K2 HBB FD
        clear BA BB BC
        have HST := hidd (StAt.of_boxQ (E.box 0 rfl))
        have HL5 := HLH.out.mono E.below
        have HT5 := hidd (HTH.out.mono E.below)
        have HB5 := hidd (HBH.out.trans (E.below.mono HBH.out.size))
        clear HLH HTH HBH E
        obtain ⟨V5, rfl⟩ : ∃ V5, V5 = w6 := ⟨_, rfl⟩
        obtain ⟨us, hO, hE⟩ := HL5
        have HO := hidd hO
        have HE2 := hidd hE
        clear hO hE
        have hsz3 := HB5.out.size
        go_upto_region 11 with (fail)
        refine wp_region_list ?_
        refine zPc rfl (.tmp 3) rfl ?_
        refine zLq rfl 33 (.tmp 6) rfl zAo rfl rfl HST.out fun vc hvc => ?_
        obtain ⟨es, rfl, hfit⟩ := hvc
        have hlen := hfit.length
        obtain ⟨c0, c1, c2, c3, c4, c5, rfl⟩ := sixQ hlen
        have HFT := hidd hfit
        clear hfit hlen
        have hQl := HQL.out
        go_wp2_with (first | (at_builtin; (refine zO8 (n := Qs.length) (xs := us) rfl _ _ 77 rfl W0.heap.size 33 i0 (.agg #[.bool false, .slice none 0 0, .bool false, .slice none 0 0, .bool false, .slice none 0 0]) 6 96 Try.underlying77 hi hz0 hz1 hz2 rfl (by decide) _ rfl (World.ownsRow.alloc (by have h9 := HO.out; rwa [List.length_map] at h9) _) (HT5.out.mono (zAw _ _)) (List.all_eq_true.1 rfl) ⟨_, 0, none⟩ 1 1 [c0, c1, c2, c3, c4, c5] rfl rfl (World.news_of_block (heap_alloc_new _ _)) HFT.out.all (by decide) (by unfold maxLen; omega) (by omega) (Nat.le_trans hsz3 (by simp)) _ rfl ?_; intro g9 cap w8 hown' hgrow hat hlt htm)) | fail)
        have hS := Ls.stepF (fs := frF ⟨A, b, c⟩) (es := [c0, c1, c2, c3, c4, c5]) HO.out HE2.out hsz3 HB5.out (Below.refl _ _) (HT5.out.far HFT.out rfl) HFT.out rfl rfl (by rw [List.length_map]; exact hown') hgrow hat rfl
        rw [List.length_map] at hS
        have hS4 := hidd hS.1
        have hS5 := hidd hS.2
        have hS6 := hidd htm
        clear hown' hgrow hat hlt htm hS HO HE2 HT5 HST HFT
        have g9 : IntKind.i64.wrap (b + 1) = b + 1 := IntWalk.i64_in _ (by have := HKE.out; have := HAA.out; have := HQ0.out.2.1; omega)
        have hw : wrap64 (b + 1) = b + 1 := by have := HKE.out; have := HAA.out; have := HQ0.out.2.1; simp only [wrap64]; omega
        go_wp2
        go_roundw
        case rel => exact ⟨k + 1, b + 1, Qs ++ [⟨A, b, c⟩], by first | go_num | (rw [hw]; go_num), by have := HKE.out.1; omega, by have := HKE.out.2; omega, by rw [HQE2.out, zCc, ← HKE.out.1, FN.out, List.append_assoc], by rw [frF_snoc]; simpa using hS4.out, by simpa using hS6.out, hS5.out⟩
        case measure => have := HKE.out; have := HAA.out; have := HQ0.out.2.1; first | (rw [hw]; simp [intOf]; omega) | (simp [intOf]; omega)
       ·have K1 := hidd hk1
        have K2 : Hid (decide (cont A b c = 1) = false) := decide_eq_false hk2
        have FN : Hid (zBi n A b = []) := FD.out.trans (if_neg (by unfold zD9; rw [K1.out, K2.out]; simp))
        clear hk1 hk2
        refine rg [Fq.st [.n A, .n b, .n c], yT, yT, Fq.st [.n A, .n b, .n c], yF, yF] [none] [] E (fun hp => ⟨?_, ?_, ?_, ?_, ?_, ?_, tv⟩) ?_
        ·exact lS 0 6 hp (mq 0 rfl) zAo (sqo 6)
        ·exact wXa (Fq.st [.n A, .n b, .n c]) hp zHp (sqi 0) fun v w h => zHx h (Int.lt_of_lt_of_le BA.out (zAb (by omega))) (Int.lt_of_lt_of_le BB.out (zAb (by omega))) (Int.lt_of_lt_of_le BC.out (zAb (by omega))) K1.out
        ·exact zAa hp fo tv (sqi 1)
        ·exact lG 0 6 hp gqi (mq 0 rfl) zAo (sqo 6) fun v w h => h
        ·exact zAm (F := (Fq.st [.n A, .n b, .n c]).P) hp fo gqi (zJj) (sqi 3) (fun v w h => zJz h (Int.lt_of_lt_of_le BA.out (zAb (by omega))) (Int.lt_of_lt_of_le BB.out (zAb (by omega))) (Int.lt_of_lt_of_le BC.out (zAb (by omega))) K2.out)
        ·exact zAg (F := fun v _ => v = .bool true) (G := fun v _ => v = .bool false) hp fo tv (sqi 2) (sqi 4) (fun ρ w hc h h' => ⟨_, by simp [execOp, go_sem, h, h'], rfl⟩)
        intro L vs w7 nb hL hC hn E7
        have e1 := wXi hC 1
        have e2 := wXi hC 2
        have e4 := wXi hC 4
        have e5 := wXi hC 5
        have E := E7; try simp only [LM, zAc] at E
        rw [zAe hL]
        simp only [SP, Nat.zero_add, Nat.reduceAdd]
        rw [e1, e2, e4, e5]
        generalize vs 0 = u7_0
        generalize vs 3 = u7_3
        clear e1 e2 e4 e5 hC hn E7 hL vs L nb
        clear K1 HBB FD K2
        clear BA BB BC
        have HL6 := hidd (HLH.out.mono E.below)
        have HT6 := hidd (HTH.out.mono E.below)
        have HB6 := hidd (HBH.out.trans (E.below.mono HBH.out.size))
        clear HLH HTH HBH E
        have g9 : IntKind.i64.wrap (b + 1) = b + 1 := IntWalk.i64_in _ (by have := HKE.out; have := HAA.out; have := HQ0.out.2.1; omega)
        have hw : wrap64 (b + 1) = b + 1 := by have := HKE.out; have := HAA.out; have := HQ0.out.2.1; simp only [wrap64]; omega
        go_wp2
        go_roundw
        case rel => exact ⟨k + 1, b + 1, Qs, by first | go_num | (rw [hw]; go_num), by have := HKE.out.1; omega, by have := HKE.out.2; omega, by rw [HQE2.out, zCc, ← HKE.out.1, FN.out, List.append_nil], HL6.out, HT6.out, HB6.out⟩
        case measure => have := HKE.out; have := HAA.out; have := HQ0.out.2.1; first | (rw [hw]; simp [intOf]; omega) | (simp [intOf]; omega)
      ·have K1 := hidd (Bool.eq_false_iff.2 hk1)
       have FN : Hid (zBi n A b = []) := FD.out.trans (if_neg (by unfold zD9; rw [K1.out]; simp))
       clear hk1
       refine rg [Fq.st [.n A, .n b, .n c], yF, yF, Fq.is (undef), Fq.is (undef), yF] [none] [] E (fun hp => ⟨?_, ?_, ?_, ?_, ?_, ?_, tv⟩) ?_
       ·exact lS 0 6 hp (mq 0 rfl) zAo (sqo 6)
       ·exact wXa (Fq.st [.n A, .n b, .n c]) hp zHp (sqi 0) fun v w h => zHx h (Int.lt_of_lt_of_le BA.out (zAb (by omega))) (Int.lt_of_lt_of_le BB.out (zAb (by omega))) (Int.lt_of_lt_of_le BC.out (zAb (by omega))) K1.out
       ·exact zAa hp fo tv (sqi 1)
       ·exact zAi hp fo rfl gqi (fun _ => rfl)
       ·exact zAi hp fo rfl gqi (fun _ => rfl)
       ·exact zAg (F := fun v _ => v = .bool false) (G := fun v _ => v = .bool false) hp fo tv (sqi 2) (zAj (fun _ => rfl)) (fun ρ w hc h h' => ⟨_, by simp [execOp, go_sem, h, h'], rfl⟩)
       intro L vs w8 nb hL hC hn E8
       have e1 := wXi hC 1
       have e2 := wXi hC 2
       have e3 := wXi hC 3
       have e4 := wXi hC 4
       have e5 := wXi hC 5
       have E := E8; try simp only [LM, zAc] at E
       rw [zAe hL]
       simp only [SP, Nat.zero_add, Nat.reduceAdd]
       rw [e1, e2, e3, e4, e5]
       generalize vs 0 = u8_0
       clear e1 e2 e3 e4 e5 hC hn E8 hL vs L nb
       clear K1 HBB FD
       clear BA BB BC
       have HL6 := hidd (HLH.out.mono E.below)
       have HT6 := hidd (HTH.out.mono E.below)
       have HB6 := hidd (HBH.out.trans (E.below.mono HBH.out.size))
       clear HLH HTH HBH E
       have g9 : IntKind.i64.wrap (b + 1) = b + 1 := IntWalk.i64_in _ (by have := HKE.out; have := HAA.out; have := HQ0.out.2.1; omega)
       have hw : wrap64 (b + 1) = b + 1 := by have := HKE.out; have := HAA.out; have := HQ0.out.2.1; simp only [wrap64]; omega
       go_wp2
       go_roundw
       case rel => exact ⟨k + 1, b + 1, Qs, by first | go_num | (rw [hw]; go_num), by have := HKE.out.1; omega, by have := HKE.out.2; omega, by rw [HQE2.out, zCc, ← HKE.out.1, FN.out, List.append_nil], HL6.out, HT6.out, HB6.out⟩
       case measure => have := HKE.out; have := HAA.out; have := HQ0.out.2.1; first | (rw [hw]; simp [intOf]; omega) | (simp [intOf]; omega)
     ·have T8 : Hid (¬ r = 0) := hr0
      have FN : Hid (zBi n A b = []) := FE.out.trans (if_neg hr0)
      clear hr0 FE
      refine rg [Fq.is (.int .i64 b), Fq.is (.int .i64 b), Fq.is (.int .i64 bb), Fq.is (.int .i64 n), Fq.is (.int .i64 s), Fq.is (.int .i64 A), Fq.is (.int .i64 d4), Fq.is (.int .i64 r), yT] [] [] E (fun hp => ⟨?_, ?_, ?_, ?_, ?_, ?_, ?_, ?_, ?_, tv⟩) ?_
      ·exact zAa hp fo tv (sqo 5)
      ·exact zAa hp fo tv (sqo 5)
      ·exact zAg (F := fun v _ => v = .int .i64 b) (G := fun v _ => v = .int .i64 b) hp fo tv (sqi 0) (sqi 1) (fun ρ w hc h h' => ⟨.int .i64 bb, by simp [execOp, go_sem, h, h', W2.out], rfl⟩)
      ·exact zAa hp fo tv (sqo 0)
      ·exact zAg (F := fun v _ => v = .int .i64 bb) (G := fun v _ => v = .int .i64 n) hp fo tv (sqi 2) (sqi 3) (fun ρ w hc h h' => ⟨.int .i64 s, by simp [execOp, go_sem, h, h', W5.out], rfl⟩)
      ·exact zAa hp fo tv (sqo 4)
      ·exact zAd (F := fun v _ => v = .int .i64 A) hp fo tv (sqi 5) (fun ρ w hc h => ⟨.int .i64 d4, by simp [execOp, go_sem, h, hc, W6.out], rfl⟩)
      ·exact zAg (F := fun v _ => v = .int .i64 s) (G := fun v _ => v = .int .i64 d4) hp fo tv (sqi 4) (sqi 6) (fun ρ w hc h h' => ⟨.int .i64 r, by simp [execOp, go_sem, h, h', D0.out, WR.out], rfl⟩)
      ·exact zAd (F := fun v _ => v = .int .i64 r) hp fo tv (sqi 7) (fun ρ w hc h => ⟨.bool true, by simp [execOp, go_sem, h, hc, T8.out], rfl⟩)
      intro L vs w9 nb hL hC hn E9
      have e0 := wXi hC 0
      have e1 := wXi hC 1
      have e2 := wXi hC 2
      have e3 := wXi hC 3
      have e4 := wXi hC 4
      have e5 := wXi hC 5
      have e6 := wXi hC 6
      have e7 := wXi hC 7
      have e8 := wXi hC 8
      have E := E9; try simp only [LM, zAc] at E
      rw [zAe hL]
      simp only [SP, Nat.zero_add, Nat.reduceAdd]
      rw [e0, e1, e2, e3, e4, e5, e6, e7, e8]
      clear e0 e1 e2 e3 e4 e5 e6 e7 e8 hC hn E9 hL vs L nb
      clear W2 W5 W6 WR WQ WC D0 T8 RA RB_ RC HBB
      clear BA BB BC
      have HL6 := hidd (HLH.out.mono E.below)
      have HT6 := hidd (HTH.out.mono E.below)
      have HB6 := hidd (HBH.out.trans (E.below.mono HBH.out.size))
      clear HLH HTH HBH E
      have g9 : IntKind.i64.wrap (b + 1) = b + 1 := IntWalk.i64_in _ (by have := HKE.out; have := HAA.out; have := HQ0.out.2.1; omega)
      have hw : wrap64 (b + 1) = b + 1 := by have := HKE.out; have := HAA.out; have := HQ0.out.2.1; simp only [wrap64]; omega
      go_wp2
      go_roundw
      case rel => exact ⟨k + 1, b + 1, Qs, by first | go_num | (rw [hw]; go_num), by have := HKE.out.1; omega, by have := HKE.out.2; omega, by rw [HQE2.out, zCc, ← HKE.out.1, FN.out, List.append_nil], HL6.out, HT6.out, HB6.out⟩
      case measure => have := HKE.out; have := HAA.out; have := HQ0.out.2.1; first | (rw [hw]; simp [intOf]; omega) | (simp [intOf]; omega)
    ·have hA := HAA.out
     have t0 : decide (b ≤ A) = false := by simp; omega
     have HKE := hidd (show k = 2 * a + 1 by omega)
     have HLH := hidd HL
     have HTH := hidd HT
     have HBH := hidd HBW
     have ha9 := HQ0.out
     have hw : wrap64 (A + 1) = A + 1 := by simp only [wrap64]; omega
     have g9 : IntKind.i64.wrap (A + 1) = A + 1 := IntWalk.i64_in _ (by omega)
     clear HL HT HBW hb hk hQl hml
     have hli : ¬ b ≤ A := hy
     clear hy
     go_wp2
     go_roundw
     case rel => exact ⟨a + 1, A + 1, Qs, by first | go_num | (rw [hw]; go_num), by omega, by omega, by omega, fun j h2 h3 => (by rcases Nat.lt_or_ge j a with h4 | h4; exact HRUN.out j h2 h4; (rw [show j = a by omega]; exact HXE.out)), by rw [HQE2.out, HKE.out, zB3, if_neg (by omega), hA], HLH.out, HTH.out, HBH.out⟩
     case measure => first | (rw [hw]; simp [intOf]; omega) | (simp [intOf]; omega)
  ·have hae : ¬ 3 * ((a : Int) * a) ≤ n := hx
   have hsq := sq_nn (b := A) (m := 26) (by omega)
   have haa : A * A = (a : Int) * a := by rw [hA]
   obtain ⟨t3, ht3⟩ : ∃ t3, t3 = 3 * A := ⟨_, rfl⟩
   obtain ⟨t4, ht4⟩ : ∃ t4, t4 = t3 * A := ⟨_, rfl⟩
   have hq4 : t4 = 3 * ((a : Int) * a) := by rw [ht4, ht3, Int.mul_assoc, haa]
   have W3 : Hid (IntKind.i64.wrap (3 * A) = t3) := by show _ = _; rw [ht3]; exact IntWalk.i64_in _ (by omega)
   have W4 : Hid (IntKind.i64.wrap (t3 * A) = t4) := by show _ = _; rw [← ht4]; exact IntWalk.i64_in _ (by omega)
   have T4 : Hid (¬ t4 ≤ n) := by show ¬ _; omega
   have hEq : Ps = zB6 n := by rw [HPE.out, zKe ⟨ha1, hae, HRUN.out⟩]
   have HEQ := hidd hEq
   have HLH := hidd HL
   have HBH := hidd HBW
   clear ha1 ha2 hPl HL HT HBW hx hae haa hsq ht3 ht4 hq4 hA hrun hml hEq
   have E := Fr.start V2
   go_upto_region 3 with (fail)
   refine rg [Fq.is (.int .i64 A), Fq.is (.int .i64 t3), Fq.is (.int .i64 A), Fq.is (.int .i64 t4), Fq.is (.int .i64 n), yF] [] [] E (fun hp => ⟨?_, ?_, ?_, ?_, ?_, ?_, tv⟩) ?_
   ·exact zAa hp fo tv (sqo 4)
   ·exact zAd (F := fun v _ => v = .int .i64 A) hp fo tv (sqi 0) (fun ρ w hc h => ⟨.int .i64 t3, by simp [execOp, go_sem, h, hc, W3.out], rfl⟩)
   ·exact zAa hp fo tv (sqo 4)
   ·exact zAg (F := fun v _ => v = .int .i64 t3) (G := fun v _ => v = .int .i64 A) hp fo tv (sqi 1) (sqi 2) (fun ρ w hc h h' => ⟨.int .i64 t4, by simp [execOp, go_sem, h, h', W4.out], rfl⟩)
   ·exact zAa hp fo tv (sqo 0)
   ·exact zAg (F := fun v _ => v = .int .i64 t4) (G := fun v _ => v = .int .i64 n) hp fo tv (sqi 3) (sqi 4) (fun ρ w hc h h' => ⟨.bool false, by simp [execOp, go_sem, h, h', T4.out], rfl⟩)
   intro L vs w10 nb hL hC hn E10
   have e0 := wXi hC 0
   have e1 := wXi hC 1
   have e2 := wXi hC 2
   have e3 := wXi hC 3
   have e4 := wXi hC 4
   have e5 := wXi hC 5
   have E := E10; try simp only [LM, zAc] at E
   rw [zAe hL]
   simp only [SP, Nat.zero_add, Nat.reduceAdd]
   rw [e0, e1, e2, e3, e4, e5]
   clear e0 e1 e2 e3 e4 e5 hC hn E10 hL vs L nb
   go_upto_region 12 with (fail)
   refine rg [Fq.is (.slice ao2 Ps.length cap2), Fq.is (.slice ao2 Ps.length cap2)] [] [] E (fun hp => ⟨?_, ?_, tv⟩) ?_
   ·exact zAa hp fo tv (sqo 3)
   ·exact zAh hp fo tv (sqi 0)
   intro L vs w11 nb hL hC hn E11
   have e0 := wXi hC 0
   have e1 := wXi hC 1
   have E := E11; try simp only [LM, zAc] at E
   rw [zAe hL]
   simp only [SP, Nat.zero_add, Nat.reduceAdd]
   rw [e0, e1]
   clear e0 e1 hC hn E11 hL vs L nb
   clear W3 W4 T4
   have HL3 := hidd (HLH.out.mono E.below)
   have HB3 := hidd (HBH.out.trans (E.below.mono HBH.out.size))
   clear E HLH HBH HPE HRUN HAA
   go_wp2
   refine bodyPost_ret (v := .slice ao2 Ps.length cap2) ?_ rfl ⟨_, rfl, HB3.out, ?_⟩
   ·simp [results, Try.results67, go_sem]
   ·rw [← HEQ.out]
    exact HL3.out

theorem qv_abK {a b c x y : Int} {k j K : Nat} (ha : ab a < pw k) (hb : ab b < pw k) (hc : ab c < pw k) (hx : ab x < pw j) (hy : ab y < pw j) (hK : k + 2 * j + 2 ≤ K) : ab (qv a b c x y) < pw K := by
 unfold qv
 exact zA6 (zA6 (m := k + 2 * j + 1) (zBk ha (zBk hx hx)) (zBk hb (zBk hx hy)) (by omega) (by omega)) (zBk hc (zBk hy hy)) (by omega) (by omega)
theorem act_disc (a b c p q r s : Int) : qm a b c p q r s * qm a b c p q r s - 4 * (qv a b c p r * qv a b c q s) = (b * b - 4 * (a * c)) * ((p * s - q * r) * (p * s - q * r)) := by
 unfold qv qm
 exact zIl a b c p q r s
theorem zCn {x y : Int} {m n : Nat} (hx : x.natAbs ≤ m) (hy : y.natAbs ≤ n) : (x * y).natAbs ≤ m * n := by
 rw [Int.natAbs_mul]
 exact Nat.mul_le_mul hx hy
theorem turn_bd {z s t : Int} (es : s = z % 8 - 3) (et : t = z / 8 % 8 - 4) : s.natAbs ≤ 4 ∧ t.natAbs ≤ 4 ∧ (s * t - 1).natAbs ≤ 17 := by
 have h1 : s.natAbs ≤ 4 := by omega
 have h2 : t.natAbs ≤ 4 := by omega
 have h3 := zCn h1 h2
 exact ⟨h1, h2, by omega⟩
theorem ab_few {x : Int} (h : x.natAbs ≤ 2000) : ab x < pw 3 := zAs (by omega) (by omega)
theorem zL2 {a b c p q r s : Int} (hd : (p * s - q * r) * (p * s - q * r) = 1) : qm a b c p q r s * qm a b c p q r s - 4 * (qv a b c p r * qv a b c q s) = b * b - 4 * (a * c) := by
 rw [act_disc, hd, Int.mul_one]
section
variable {os : List Oper} {Q : Exit → Act → World → Prop} {a : Act} {p : Pq} {B B0 : Nat} {w0 : World}
variable {i s : Nat} {d : Option Tmp} {ty : TypeId} {ps : String} {af : Array Edge} {gd : Option (Nat × Bool)}
theorem zOk {x : Operand} {ad : Option Addr} {k c : Nat} (hp : p.Ok B B0) (hF : p.Free i) (hg : GdQ os a p B B0 w0 af gd) (hx : SrcQ os a p B B0 w0 af x fun v _ => v = .slice ad k c) (hC : ∀ w, (p.c i).P (.int .i64 k) w) :
  zAr os Q a p B B0 w0 i { dst := d, op := .call { callee := .builtin .len, args := #[x], argTypes := #[77] }, type := ty, pos := ps, after := af, guard := gd } :=
 zAd hp hF hg hx fun ρ w _ h => ⟨.int .i64 k, by simp [go_sem, h], hC w⟩
theorem zOj {b l c k : Nat} {x y : Operand} (hp : p.Ok B B0) (hF : p.Free i) (hg : GdQ os a p B B0 w0 af gd) (hx : SrcQ os a p B B0 w0 af x fun v _ => v = .slice (some ⟨b, 0, none⟩) l c) (hy : SrcQ os a p B B0 w0 af y fun v _ => v = .int .i64 k) (hk : k < l)
  (hC : ∀ w, (p.c i).P (.pointer (some ⟨b, k * 6, none⟩)) w) :
  zAr os Q a p B B0 w0 i { dst := d, op := .indexAddr 77 x y, type := ty, pos := ps, after := af, guard := gd } :=
 zAg hp hF hg hx hy fun ρ w _ h h' => ⟨_, by
  have h0 : (k : Int) < (l : Int) := by omega
  have h1 : (0 : Int) ≤ (k : Int) := by omega
  simp [execOp, go_sem, h, h', h0, h1], hC w⟩
end
theorem exQSizeN {w : World} {v : Value} {D i0 i1 i2 i3 m0 m1 m2 m3 n : Int} (h : (Fq.st [.v (.int .u16 D), .v (.int .u16 i0), .v (.int .u16 i1), .v (.int .u16 i2), .v (.int .u16 i3), .v (.int .u8 m0), .v (.int .u8 m1), .v (.int .u8 m2), .v (.int .u8 m3)]).P v w) (hD : 0 ≤ D ∧ D ≤ 65535) (hn : zBp D = n) :
  Calls Try.prog 68 #[v] w fun e w' => ∃ v', e = .returned v' ∧ Below w.heap.size w w' ∧ v' = .int .i64 n := by
 subst hn
 exact exQSize h hD
noncomputable def zCm (n i : Int) : F3 := (zB6 n).getD (i % ((zB6 n).length : Int)).toNat ⟨0, 0, 0⟩
noncomputable def zE4 (n i m : Int) : F3 := if m % 4 = 0 then zCm n i else ⟨qv (zCm n i).a (zCm n i).b (zCm n i).c (m % 8 - 3) 1, qm (zCm n i).a (zCm n i).b (zCm n i).c (m % 8 - 3) ((m % 8 - 3) * (m / 8 % 8 - 4) - 1) 1 (m / 8 % 8 - 4), qv (zCm n i).a (zCm n i).b (zCm n i).c ((m % 8 - 3) * (m / 8 % 8 - 4) - 1) (m / 8 % 8 - 4)⟩
theorem zKu {n : Int} (i : Int) (h0 : 3 ≤ n) (h1 : n ≤ 2004) (h4 : n % 4 = 0 ∨ n % 4 = 3) : ∃ j : Nat, j < (zB6 n).length ∧ i % ((zB6 n).length : Int) = j ∧ (zB6 n)[j]? = some (zCm n i) := by
 have h := listF_pos h0 h1 h4
 have h5 := Int.emod_nonneg i (show ((zB6 n).length : Int) ≠ 0 by omega)
 have h6 := Int.emod_lt_of_pos i (show (0 : Int) < ((zB6 n).length : Int) by omega)
 refine ⟨(i % ((zB6 n).length : Int)).toNat, by omega, by omega, ?_⟩
 unfold zCm
 rw [List.getD, List.getElem?_eq_getElem (by omega)]
 rfl
theorem FOk.bds {n : Int} {P : F3} (h : FOk n P) (h1 : n ≤ 2004) : 0 < P.a ∧ P.a.natAbs ≤ 668 ∧ P.b.natAbs ≤ 668 ∧ P.c.natAbs ≤ 668 := by
 obtain ⟨ha, hk, _, hd⟩ := h
 simp only [Bool.and_eq_true] at hk
 have hr := (zEc (show 0 < P.a by omega)).1 hk.2
 have h2 := hr.lo
 have h3 := hr.hi
 have h4 := hr.ac
 have e1 : P.b * P.b ≤ P.a * P.a := by
  rw [← zDp P.b]
  exact Int.mul_le_mul (by omega) (by omega) (by omega) (by omega)
 have e2 : P.a * P.a ≤ P.a * P.c := Int.mul_le_mul_of_nonneg_left h4 (by omega)
 have e3 : 1 * P.c ≤ P.a * P.c := Int.mul_le_mul_of_nonneg_right ha (by omega)
 omega
def MOk (n : Int) (P : F3) : Prop := redE P.a P.b P.c = 0 ∧ P.b * P.b - 4 * (P.a * P.c) = -n ∧ (ab P.a < pw 3 ∧ ab P.b < pw 3 ∧ ab P.c < pw 3) ∧ P.a.natAbs ≤ 100000000 ∧ P.b.natAbs ≤ 100000000 ∧ P.c.natAbs ≤ 100000000
theorem zDt {x : Int} (h : x.natAbs ≤ 100000000) : ab x < pw 3 := zAs (by omega) (by omega)
theorem madeF_ok {n i m : Int} (h0 : 3 ≤ n) (h1 : n ≤ 2004) (h4 : n % 4 = 0 ∨ n % 4 = 3) : MOk n (zE4 n i m) := by
 obtain ⟨j, _, _, hj⟩ := zKu i h0 h1 h4
 have hF := zKf _ (List.mem_of_getElem? hj)
 obtain ⟨hp, b1, b2, b3⟩ := hF.bds h1
 have hd := hF.2.2.2
 unfold zE4
 split
 ·exact ⟨zE8 (by rw [hd]; omega) hp, hd, ⟨zDt (by omega), zDt (by omega), zDt (by omega)⟩, by omega, by omega, by omega⟩
 ·obtain ⟨s, es⟩ : ∃ s, s = m % 8 - 3 := ⟨_, rfl⟩
  obtain ⟨t, et⟩ : ∃ t, t = m / 8 % 8 - 4 := ⟨_, rfl⟩
  rw [← es, ← et]
  obtain ⟨t1, t2, t3⟩ := turn_bd es et
  generalize zCm n i = P at hp b1 b2 b3 hd ⊢
  have hdet : (s * t - (s * t - 1) * 1) * (s * t - (s * t - 1) * 1) = 1 := by
   rw [show s * t - (s * t - 1) * 1 = 1 by omega]
   rfl
  have h5 := zL2 (a := P.a) (b := P.b) (c := P.c) hdet
  have hpos := qv_pos (x := s) (y := 1) hp (by rw [hd]; omega) (by omega)
  have qb : ∀ x y : Int, x.natAbs ≤ 17 → y.natAbs ≤ 17 → (qv P.a P.b P.c x y).natAbs ≤ 100000000 := by
   intro x y hx hy
   have m1 := zCn b1 (zCn hx hx)
   have m2 := zCn b2 (zCn hx hy)
   have m3 := zCn b3 (zCn hy hy)
   unfold qv
   omega
  have qc : (qm P.a P.b P.c s (s * t - 1) 1 t).natAbs ≤ 100000000 := by
   have u1 : (1 : Int).natAbs ≤ 17 := by decide
   have m1 := zCn b1 (zCn (show s.natAbs ≤ 17 by omega) t3)
   have m2 := zCn b3 (zCn u1 (show t.natAbs ≤ 17 by omega))
   have m3 := zCn (show s.natAbs ≤ 17 by omega) (show t.natAbs ≤ 17 by omega)
   have m4 := zCn t3 u1
   have m5 := zCn b2 (show (s * t + (s * t - 1) * 1).natAbs ≤ 17 * 17 + 17 * 17 by omega)
   unfold qm
   omega
  refine ⟨zE8 ?_ hpos, ?_, ⟨zDt (qb _ _ (by omega) (by decide)), zDt qc, zDt (qb _ _ t3 (by omega))⟩, qb _ _ (by omega) (by decide), qc, qb _ _ t3 (by omega)⟩
  ·show qm _ _ _ _ _ _ _ * qm _ _ _ _ _ _ _ - 4 * (qv _ _ _ _ _ * qv _ _ _ _ _) < 0
   rw [h5, hd]; omega
  ·show qm _ _ _ _ _ _ _ * qm _ _ _ _ _ _ _ - 4 * (qv _ _ _ _ _ * qv _ _ _ _ _) = -n
   rw [h5]; exact hd
set_option maxRecDepth 100000 in
set_option maxHeartbeats 4000000 in
theorem exQMade0 {w : World} {v : Value} {D i0 i1 i2 i3 m0 m1 m2 m3 : Int} (h : (Fq.st [.v (.int .u16 D), .v (.int .u16 i0), .v (.int .u16 i1), .v (.int .u16 i2), .v (.int .u16 i3), .v (.int .u8 m0), .v (.int .u8 m1), .v (.int .u8 m2), .v (.int .u8 m3)]).P v w) (hD : 0 ≤ D ∧ D ≤ 65535) (hi : 0 ≤ i0 ∧ i0 ≤ 65535) (hm : 0 ≤ m0 ∧ m0 ≤ 255) {n : Int} (hn : zBp D = n) {P : F3} (hP : zE4 n i0 m0 = P) :
  Calls Try.prog 29 #[v, .int .i64 0] w fun e w' => ∃ v', e = .returned v' ∧ Below w.heap.size w w' ∧ (Fq.st [.n P.a, .n P.b, .n P.c]).P v' w' := by
 have hsz := zIx D
 rw [hn] at hsz
 obtain ⟨j, hj, hQj, hPj⟩ := zKu i0 (by omega) (by omega) hsz.2.2
 have hFo := (zKf _ (List.mem_of_getElem? hPj)).bds hsz.2.1
 obtain ⟨F, hF⟩ : ∃ F, F = zCm n i0 := ⟨_, rfl⟩
 rw [← hF] at hPj hFo
 obtain ⟨ps, hps⟩ : ∃ ps, ps = zB6 n := ⟨_, rfl⟩
 rw [← hps] at hj hQj hPj
 obtain ⟨nl, hnl⟩ : ∃ nl, nl = ps.length := ⟨_, rfl⟩
 rw [← hnl] at hj hQj
 have BF : Hid (ab F.a < pw 3 ∧ ab F.b < pw 3 ∧ ab F.c < pw 3) := ⟨zDt (by omega), zDt (by omega), zDt (by omega)⟩
 have HSZ := hidd hsz
 have HNE := hidd hn
 have HFE := hidd hF
 have HPS := hidd hps
 have HNL := hidd hnl
 have HJ := hidd hj
 have HPJ := hidd hPj
 have HDD := hidd hD
 have HMM := hidd hm
 have HPE := hidd hP
 have I16 : Hid (IntKind.i64.wrap i0 = i0) := IntWalk.i64_in _ (by omega)
 have HLN : Hid (¬ nl = 0) := by show ¬ _; omega
 have HTJ : Hid (Int.tmod i0 (nl : Int) = (j : Int)) := by show _ = _; rw [Int.tmod_eq_emod_of_nonneg (by omega), hQj]
 obtain ⟨r, hr⟩ : ∃ r, r = m0 % 4 := ⟨_, rfl⟩
 have C4 : Hid (Int.tmod m0 4 = r) := by show _ = _; rw [Int.tmod_eq_emod_of_nonneg (by omega), hr]
 have HR := hidd hr
 obtain ⟨s, es⟩ : ∃ s, s = m0 % 8 - 3 := ⟨_, rfl⟩
 obtain ⟨t, et⟩ : ∃ t, t = m0 / 8 % 8 - 4 := ⟨_, rfl⟩
 have htb := turn_bd es et
 have Bs : Hid (ab s < pw 3) := ab_few (by omega)
 have Bt : Hid (ab t < pw 3) := ab_few (by omega)
 have Bu : Hid (ab (s * t - 1) < pw 3) := ab_few (by omega)
 have Es := hidd es
 have Et := hidd et
 clear hsz hj hQj hPj hFo hF hps hnl hr htb es et hD hi hm hn hP
 obtain ⟨_, rfl, hf0⟩ := h
 have hF0 := hf0
 obtain ⟨_, rfl, _, _, rfl, _, _, rfl, _, _, rfl, _, _, rfl, _, _, rfl, _, _, rfl, _, _, rfl, _, _, rfl, _, rfl⟩ := hf0
 obtain ⟨w1, b1, hw1, hb1, hs1, E⟩ := gS w 58 hF0
 obtain ⟨w2, b2, hw2, hb2, hs2, E⟩ := fO E hs1 33 zBf
 go_enter Try.func29, Try.ntmps29
 go_upto_region 1 with (fail)
 rw [← hw1]
 rw [← hw2]
 rw [← hb2]
 rw [← hb1]
 clear hw1 hw2 hb1 hb2 hs2 hs1
 refine wp_region_list ?_
 refine zLq rfl 58 (.tmp 2) rfl zLd rfl rfl (StAt.of_boxQ (E.box 1 rfl)) fun vc hvc => ?_
 go_upto_region 2 with (first | (go_at_call 68; (with_reducible refine (exQSizeN hvc HDD.out HNE.out).mono ?_); rintro e w8 ⟨v8, rfl, hB8, rfl⟩) | (go_at_call 67; (with_reducible refine (exQList HSZ.out.1 HSZ.out.2.1).mono ?_); rintro e w9 ⟨vL, rfl, hB9, hLs⟩; obtain ⟨gg, cp, rfl, hgg, hbox⟩ := hLs.box6 (by rw [← HPS.out]; have := HJ.out; have := HNL.out; omega)) | fail)
 rw [← HPS.out, ← HNL.out] at hbox
 first | rw [← HPS.out, ← HNL.out] | skip
 replace E := Fr.addQ E (hB8.trans (hB9.mono hB8.size)) (Nat.le_trans hB8.size hgg) hbox
 clear hvc hB8 hB9 hLs hgg hbox
 refine rg [Fq.is (.slice (some ⟨gg, 0, none⟩) nl cp), Fq.is (.int .i64 0), Fq.is (.int .i64 0), ip b1 1, ip b1 1, Fq.is (.int .u16 i0), Fq.is (.int .i64 i0), Fq.is (.slice (some ⟨gg, 0, none⟩) nl cp), Fq.is (.int .i64 ((nl : Nat) : Int)), Fq.is (.int .i64 (j : Int)), Fq.is (.pointer (some ⟨gg, j * 6, none⟩)), Fq.st [.n F.a, .n F.b, .n F.c], Fq.any, Fq.any] N3 [⟨12, 13, 6, Fq.st [.n 0, .n 0, .n 0], Fq.st [.n F.a, .n F.b, .n F.c], none⟩] E (fun hp => ⟨?_, ?_, ?_, ?_, ?_, ?_, ?_, ?_, ?_, ?_, ?_, ?_, ?_, ?_, tv⟩) ?_
 ·exact zAa hp fo tv (sqo 5)
 ·exact zAa hp fo tv (sqo 1)
 ·exact zAd (F := fun v _ => v = .int .i64 0) hp fo tv (sqi 1) (fun ρ w hc h => ⟨.int .i64 0, by simp [execOp, go_sem, h, hc], rfl⟩)
 ·exact qa b1 0 1 hp (sqo 2)
 ·exact zAg (F := fun v _ => v = .pointer (some ⟨b1, 1, none⟩)) (G := fun v _ => v = .int .i64 0) hp fo tv (sqi 3) (sqi 2) (fun ρ w hc h h' => ⟨.pointer (some ⟨b1, 1, none⟩), by simp [execOp, go_sem, h, h'], rfl⟩)
 ·exact wXc 1 hp (mq 2 rfl) (sqi 4)
 ·exact zAd (F := fun v _ => v = .int .u16 i0) hp fo tv (sqi 5) (fun ρ w hc h => ⟨.int .i64 i0, by simp [execOp, go_sem, h, I16.out], rfl⟩)
 ·exact zAa hp fo tv (sqo 5)
 ·exact zOk hp fo tv (sqi 7) (fun _ => rfl)
 ·exact zAg (F := fun v _ => v = .int .i64 i0) (G := fun v _ => v = .int .i64 ((nl : Nat) : Int)) hp fo tv (sqi 6) (sqi 8) (fun ρ w hc h h' => ⟨.int .i64 (j : Int), by simp [execOp, go_sem, h, h', HLN.out, HTJ.out], rfl⟩)
 ·exact zOj (b := gg) (l := nl) (c := cp) (k := j) hp fo tv (sqi 0) (sqi 9) HJ.out (fun _ => rfl)
 ·exact zD4 (off := j * 6) (l := 6) (fs := rowQ ps) (gs := [.n F.a, .n F.b, .n F.c]) hp fo tv (mq 0 rfl) (.inl rfl) rfl zAo (zLc HPJ.out) (sqi 10) (fun v w h => h)
 ·exact aS hp (mq 0 rfl) zBf zDg
 ·exact sS 11 hp (mq 0 rfl) zBd
 intro L vs w3 nb hL hC hn E3
 have e0 := wXi hC 0
 have e1 := wXi hC 1
 have e2 := wXi hC 2
 have e3 := wXi hC 3
 have e4 := wXi hC 4
 have e5 := wXi hC 5
 have e6 := wXi hC 6
 have e7 := wXi hC 7
 have e8 := wXi hC 8
 have e9 := wXi hC 9
 have e10 := wXi hC 10
 have e12 : vs 12 = .pointer (some ⟨nb 12, 0, none⟩) := hn _ (mq 0 rfl)
 have E := E3; try simp only [LM, zAc] at E
 rw [zAe hL]
 simp only [SP, Nat.zero_add, Nat.reduceAdd]
 rw [e0, e1, e2, e3, e4, e5, e6, e7, e8, e9, e10, e12]
 generalize nb 12 = b3_12 at E ⊢
 generalize vs 11 = u3_11
 clear e0 e1 e2 e3 e4 e5 e6 e7 e8 e9 e10 e12 hC hn E3 hL vs L nb
 clear I16 HLN HTJ HJ HPJ HNL HPS HNE HSZ HDD
 go_upto_region 3 with (fail)
 by_cases hz : r = 0
 ·have T6 := hidd hz
  have hQ : F = P := by rw [HFE.out, ← HPE.out]; unfold zE4; rw [if_pos (HR.out.symm.trans hz)]
  have HQ := hidd hQ
  clear hz hQ
  refine rg [Fq.is (.int .i64 0), Fq.is (.int .i64 0), ip b1 5, ip b1 5, Fq.is (.int .u8 m0), Fq.is (.int .u8 r), yT] N4 [] E (fun hp => ⟨?_, ?_, ?_, ?_, ?_, ?_, ?_, tv⟩) ?_
  ·exact zAa hp fo tv (sqo 1)
  ·exact zAd (F := fun v _ => v = .int .i64 0) hp fo tv (sqi 0) (fun ρ w hc h => ⟨.int .i64 0, by simp [execOp, go_sem, h, hc], rfl⟩)
  ·exact qa b1 0 5 hp (sqo 2)
  ·exact zAg (F := fun v _ => v = .pointer (some ⟨b1, 5, none⟩)) (G := fun v _ => v = .int .i64 0) hp fo tv (sqi 2) (sqi 1) (fun ρ w hc h h' => ⟨.pointer (some ⟨b1, 5, none⟩), by simp [execOp, go_sem, h, h'], rfl⟩)
  ·exact wXc 5 hp (mq 3 rfl) (sqi 3)
  ·exact zAd (F := fun v _ => v = .int .u8 m0) hp fo tv (sqi 4) (fun ρ w hc h => ⟨.int .u8 r, by simp [execOp, go_sem, h, hc, C4.out], rfl⟩)
  ·exact zAd (F := fun v _ => v = .int .u8 r) hp fo tv (sqi 5) (fun ρ w hc h => ⟨.bool true, by simp [execOp, go_sem, h, hc, T6.out], rfl⟩)
  intro L vs w4 nb hL hC hn E4
  have e0 := wXi hC 0
  have e1 := wXi hC 1
  have e2 := wXi hC 2
  have e3 := wXi hC 3
  have e4 := wXi hC 4
  have e5 := wXi hC 5
  have e6 := wXi hC 6
  have E := E4; try simp only [LM, zAc] at E
  rw [zAe hL]
  simp only [SP, Nat.zero_add, Nat.reduceAdd]
  rw [e0, e1, e2, e3, e4, e5, e6]
  clear e0 e1 e2 e3 e4 e5 e6 hC hn E4 hL vs L nb
  go_upto_region 4 with (fail)
  refine rg [Fq.st [.n F.a, .n F.b, .n F.c], Fq.any] [none, none, some (1, Fq.st [.n F.a, .n F.b, .n F.c]), none] [] E (fun hp => ⟨?_, ?_, tv⟩) ?_
  ·exact lS 0 6 hp (mq 0 rfl) zAo (sqo 6)
  ·exact sO 0 0 hp (mq 2 rfl) zBd (sqo 4)
  intro L vs w5 nb hL hC hn E5
  have E := E5; try simp only [LM, zAc] at E
  rw [zAe hL]
  simp only [SP, Nat.zero_add, Nat.reduceAdd]
  generalize vs 0 = u5_0
  clear  hC hn E5 hL vs L nb
  obtain ⟨_, _, hccr, hffr⟩ := zBt (E.box 2 rfl)
  have hPr := hffr
  obtain ⟨r_p0, r_q0, _, rfl, _r_n0, r_p1, r_q1, _, rfl, _r_n1, r_p2, r_q2, _, rfl, _r_n2, rfl⟩ := hffr
  have cr0 := hccr 0 (by simp)
  have cr1 := hccr 1 (by simp)
  have cr2 := hccr 2 (by simp)
  have cr3 := hccr 3 (by simp)
  have cr4 := hccr 4 (by simp)
  have cr5 := hccr 5 (by simp)
  simp only [List.getD_cons_zero, List.getD_cons_succ] at cr0 cr1 cr2 cr3 cr4 cr5
  clear hccr
  have hQ := HQ.out
  clear T6 HQ C4 HR HFE HMM HPE Es Et
  rw [hQ] at hPr
  clear BF Bs Bt Bu
  go_wp2
  refine bodyPost_ret (v := .agg #[r_p0, r_q0, r_p1, r_q1, r_p2, r_q2]) ?_ rfl ⟨_, rfl, E.below, ⟨_, rfl, hPr⟩⟩
  simp [results, Try.results29, go_sem, cr0, cr1, cr2, cr3, cr4, cr5]
 ·have T6 := hidd hz
  have hQ : P = ⟨qv F.a F.b F.c s 1, qm F.a F.b F.c s (s * t - 1) 1 t, qv F.a F.b F.c (s * t - 1) t⟩ := by rw [← HPE.out]; unfold zE4; rw [if_neg (fun e => hz (HR.out.trans e)), ← HFE.out, ← Es.out, ← Et.out]
  have HQ := hidd hQ
  clear hz hQ
  refine rg [Fq.is (.int .i64 0), Fq.is (.int .i64 0), ip b1 5, ip b1 5, Fq.is (.int .u8 m0), Fq.is (.int .u8 r), yF] N4 [] E (fun hp => ⟨?_, ?_, ?_, ?_, ?_, ?_, ?_, tv⟩) ?_
  ·exact zAa hp fo tv (sqo 1)
  ·exact zAd (F := fun v _ => v = .int .i64 0) hp fo tv (sqi 0) (fun ρ w hc h => ⟨.int .i64 0, by simp [execOp, go_sem, h, hc], rfl⟩)
  ·exact qa b1 0 5 hp (sqo 2)
  ·exact zAg (F := fun v _ => v = .pointer (some ⟨b1, 5, none⟩)) (G := fun v _ => v = .int .i64 0) hp fo tv (sqi 2) (sqi 1) (fun ρ w hc h h' => ⟨.pointer (some ⟨b1, 5, none⟩), by simp [execOp, go_sem, h, h'], rfl⟩)
  ·exact wXc 5 hp (mq 3 rfl) (sqi 3)
  ·exact zAd (F := fun v _ => v = .int .u8 m0) hp fo tv (sqi 4) (fun ρ w hc h => ⟨.int .u8 r, by simp [execOp, go_sem, h, hc, C4.out], rfl⟩)
  ·exact zAd (F := fun v _ => v = .int .u8 r) hp fo tv (sqi 5) (fun ρ w hc h => ⟨.bool false, by simp [execOp, go_sem, h, hc, T6.out], rfl⟩)
  intro L vs w6 nb hL hC hn E6
  have e0 := wXi hC 0
  have e1 := wXi hC 1
  have e2 := wXi hC 2
  have e3 := wXi hC 3
  have e4 := wXi hC 4
  have e5 := wXi hC 5
  have e6 := wXi hC 6
  have E := E6; try simp only [LM, zAc] at E
  rw [zAe hL]
  simp only [SP, Nat.zero_add, Nat.reduceAdd]
  rw [e0, e1, e2, e3, e4, e5, e6]
  clear e0 e1 e2 e3 e4 e5 e6 hC hn E6 hL vs L nb
  go_upto_region 5 with (fail)
  refine rg [Fq.st [.n F.a, .n F.b, .n F.c], Fq.is (.int .i64 0), Fq.is (.int .i64 0), ip b1 5, ip b1 5, Fq.is (.int .u8 m0), Fq.st [.n s, .n (s * t - 1), .n 1, .n t], Fq.st [.n (qv F.a F.b F.c s 1), .n (qm F.a F.b F.c s (s * t - 1) 1 t), .n (qv F.a F.b F.c (s * t - 1) t)], Fq.any] [none, none, some (8, Fq.st [.n (qv F.a F.b F.c s 1), .n (qm F.a F.b F.c s (s * t - 1) 1 t), .n (qv F.a F.b F.c (s * t - 1) t)]), none] [] E (fun hp => ⟨?_, ?_, ?_, ?_, ?_, ?_, ?_, ?_, ?_, tv⟩) ?_
  ·exact lS 0 6 hp (mq 0 rfl) zAo (sqo 6)
  ·exact zAa hp fo tv (sqo 1)
  ·exact zAd (F := fun v _ => v = .int .i64 0) hp fo tv (sqi 1) (fun ρ w hc h => ⟨.int .i64 0, by simp [execOp, go_sem, h, hc], rfl⟩)
  ·exact qa b1 0 5 hp (sqo 2)
  ·exact zAg (F := fun v _ => v = .pointer (some ⟨b1, 5, none⟩)) (G := fun v _ => v = .int .i64 0) hp fo tv (sqi 3) (sqi 2) (fun ρ w hc h h' => ⟨.pointer (some ⟨b1, 5, none⟩), by simp [execOp, go_sem, h, h'], rfl⟩)
  ·exact wXc 5 hp (mq 3 rfl) (sqi 4)
  ·exact wXa (Fq.is (.int .u8 m0)) hp zMe (sqi 5) fun v w h => (by subst h; exact exQTurn HMM.out Es.out Et.out)
  ·exact wXb (Fq.st [.n F.a, .n F.b, .n F.c]) (Fq.st [.n s, .n (s * t - 1), .n 1, .n t]) hp zMa (sqi 0) (sqi 6) fun v v' w h h' => exQApply h h' (Int.lt_of_lt_of_le BF.out.1 (zAb (by omega))) (Int.lt_of_lt_of_le BF.out.2.1 (zAb (by omega))) (Int.lt_of_lt_of_le BF.out.2.2 (zAb (by omega))) (Int.lt_of_lt_of_le Bs.out (zAb (by omega))) (Int.lt_of_lt_of_le Bu.out (zAb (by omega))) (Int.lt_of_lt_of_le (zAs (by decide) (by decide)) (zAb (by omega))) (Int.lt_of_lt_of_le Bt.out (zAb (by omega)))
  ·exact sO 0 7 hp (mq 2 rfl) zBd (sqo 4)
  intro L vs w7 nb hL hC hn E7
  have e1 := wXi hC 1
  have e2 := wXi hC 2
  have e3 := wXi hC 3
  have e4 := wXi hC 4
  have e5 := wXi hC 5
  have E := E7; try simp only [LM, zAc] at E
  rw [zAe hL]
  simp only [SP, Nat.zero_add, Nat.reduceAdd]
  rw [e1, e2, e3, e4, e5]
  generalize vs 0 = u7_0
  generalize vs 6 = u7_6
  generalize vs 7 = u7_7
  clear e1 e2 e3 e4 e5 hC hn E7 hL vs L nb
  obtain ⟨_, _, hccr, hffr⟩ := zBt (E.box 2 rfl)
  have hPr := hffr
  obtain ⟨r_p0, r_q0, _, rfl, _r_n0, r_p1, r_q1, _, rfl, _r_n1, r_p2, r_q2, _, rfl, _r_n2, rfl⟩ := hffr
  have cr0 := hccr 0 (by simp)
  have cr1 := hccr 1 (by simp)
  have cr2 := hccr 2 (by simp)
  have cr3 := hccr 3 (by simp)
  have cr4 := hccr 4 (by simp)
  have cr5 := hccr 5 (by simp)
  simp only [List.getD_cons_zero, List.getD_cons_succ] at cr0 cr1 cr2 cr3 cr4 cr5
  clear hccr
  have hQ := HQ.out
  clear T6 HQ C4 HR HFE HMM HPE Es Et
  rw [show qv F.a F.b F.c s 1 = P.a by rw [hQ], show qm F.a F.b F.c s (s * t - 1) 1 t = P.b by rw [hQ], show qv F.a F.b F.c (s * t - 1) t = P.c by rw [hQ]] at hPr
  clear BF Bs Bt Bu
  go_wp2
  refine bodyPost_ret (v := .agg #[r_p0, r_q0, r_p1, r_q1, r_p2, r_q2]) ?_ rfl ⟨_, rfl, E.below, ⟨_, rfl, hPr⟩⟩
  simp [results, Try.results29, go_sem, cr0, cr1, cr2, cr3, cr4, cr5]

end Go.Proofs.Ytdhkhedhnolcjaa
