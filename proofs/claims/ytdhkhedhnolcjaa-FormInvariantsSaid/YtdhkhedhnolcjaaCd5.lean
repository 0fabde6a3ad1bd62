/- Ui, Uj, Ue, Uf, Uk, Ul, Uo. -/
import Derived.Test.YtdhkhedhnolcjaaCd4
namespace Go.Proofs.Ytdhkhedhnolcjaa
open Go Go.RowKit

theorem zH1 (args : Array Value) (w : World) : (callFunc 89 args).run Try.prog w = .ok (.enter 89 args) w := zAq Try.func89 (by kernel_rfl) rfl args w
theorem zH2 (args : Array Value) (w : World) : (callFunc 57 args).run Try.prog w = .ok (.enter 57 args) w := zAq Try.func57 (by kernel_rfl) rfl args w
theorem zJ2 (args : Array Value) (w : World) : (callFunc 59 args).run Try.prog w = .ok (.enter 59 args) w := zAq Try.func59 (by kernel_rfl) rfl args w
theorem zL5 : zB4 93 14 = true := by kernel_rfl
theorem zK0 (w : World) : Fits w [.n 0, .n 0, .n 0, .n 0, .n 0, .n 0, .n 0] [.bool false, .slice none 0 0, .bool false, .slice none 0 0, .bool false, .slice none 0 0, .bool false, .slice none 0 0, .bool false, .slice none 0 0, .bool false, .slice none 0 0, .bool false, .slice none 0 0] := ⟨_, _, _, rfl, Num.zero w, _, _, _, rfl, Num.zero w, _, _, _, rfl, Num.zero w, _, _, _, rfl, Num.zero w, _, _, _, rfl, Num.zero w, _, _, _, rfl, Num.zero w, _, _, _, rfl, Num.zero w, rfl⟩
theorem zLr {d : Option Tmp} {ty : TypeId} {ps : String} {af : Array Edge} (ρ : Operand → Value) (w : World) : (execOp ρ { dst := d, op := .alloc 93, type := ty, pos := ps, after := af, guard := none }).run Try.prog w = .ok (.value (.pointer (some ⟨w.heap.size, 0, none⟩))) (w.alloc (.cells [.bool false, .slice none 0 0, .bool false, .slice none 0 0, .bool false, .slice none 0 0, .bool false, .slice none 0 0, .bool false, .slice none 0 0, .bool false, .slice none 0 0, .bool false, .slice none 0 0].toArray 93)) := by
 simp [execOp, go_sem]
theorem bq_pre {w : World} {b : Nat} {x y z p q r s : Int} (h : Bq w b 14 (Fq.st [.n x, .n y, .n z, .n p, .n q, .n r, .n s])) : Bq w b 6 (Fq.st [.n x, .n y, .n z]) := by
 obtain ⟨us, hl, _, hat, ht, us', e, hfit⟩ := h
 obtain rfl : us = us' := zDm e
 have hf := hfit.first (k := 6) (gs := [.n x, .n y, .n z]) rfl
 refine ⟨us.take 6, by rw [List.length_take]; omega, by decide, fun j hj => ?_, fun u hu => ht u (List.mem_of_mem_take hu), us.take 6, rfl, hf⟩
 rw [List.length_take] at hj
 have := hat j (by omega)
 rw [List.getD_eq_getElem?_getD, List.getElem?_take_of_lt (by omega), ← List.getD_eq_getElem?_getD]
 exact this
def RB (S : RS) : Prop := (ab S.fa < pw 5 ∧ ab S.fb < pw 5 ∧ ab S.fc < pw 15) ∧ ab S.x1 < pw 30 ∧ ab S.x2 < pw 30 ∧ ab S.x3 < pw 30 ∧ ab S.x4 < pw 30
theorem rsh_a (S : RS) : qv S.fa S.fb S.fc 1 0 = (rsh S).fa := (Und.shift S.fa S.fb S.fc S.kk).ea.symm
theorem rsh_b (S : RS) : qm S.fa S.fb S.fc 1 ((S.fa - S.fb) / (2 * S.fa)) 0 1 = (rsh S).fb := (Und.shift S.fa S.fb S.fc S.kk).eb.symm
theorem rsh_c (S : RS) : qv S.fa S.fb S.fc ((S.fa - S.fb) / (2 * S.fa)) 1 = (rsh S).fc := (Und.shift S.fa S.fb S.fc S.kk).ec.symm
theorem rsw_a (S : RS) : qv S.fa S.fb S.fc 0 1 = (rsw S).fa := (Und.swap S.fa S.fb S.fc).ea.symm
theorem rsw_b (S : RS) : qm S.fa S.fb S.fc 0 (-1) 1 0 = (rsw S).fb := (Und.swap S.fa S.fb S.fc).eb.symm
theorem rsw_c (S : RS) : qv S.fa S.fb S.fc (-1) 0 = (rsw S).fc := (Und.swap S.fa S.fb S.fc).ec.symm
def PIn (a b c : Int) (P : RS) : Prop := ∃ S, RAt a b c S ∧ P = rsh S ∧ RIn a b c S.x1 S.x2 S.x3 S.x4 S.fa S.fb S.fc
theorem zG2 {S : RS} (h0 : 0 < S.fa) (hr : S.red = true) : rsh S = S := by
 have h := (zDv h0).1 hr
 have hk : S.kk = 0 := by
  unfold RS.kk
  refine Int.ediv_eq_zero_of_lt ?_ ?_
  ·have := h.hi; omega
  ·have := h.lo; omega
 unfold rsh
 rw [hk]
 simp
theorem PIn.start {a b c : Int} (h0 : 0 < a) (hb : ab b < pw 5) (hc : ab c < pw 5) : PIn a b c (rsh ⟨1, 0, 0, 1, a, b, c⟩) := ⟨_, RAt.zero a b c, rfl, RIn.one h0 hb hc⟩
theorem PIn.red {a b c : Int} {P : RS} (h : PIn a b c P) (hr : P.red = true) : zBo a b c = P := by
 obtain ⟨S, hA, rfl, hI⟩ := h
 cases hs : S.red with
 | true => rw [zG2 hI.p hs]; exact zGz hA hs
 | false =>
  have h2 := hA.next hs
  unfold zBt at h2
  rw [if_pos hr] at h2
  exact zGz h2 hr
theorem PIn.at {a b c : Int} {P : RS} (h : PIn a b c P) (ha : ab a < pw 5) (hb : ab b < pw 5) (hc : ab c < pw 5) (hd : b * b - 4 * (a * c) < 0) : RB P ∧ 0 < P.fa ∧ RIn a b c P.x1 P.x2 P.x3 P.x4 P.fa P.fb P.fc ∧ -P.fa < P.fb ∧ P.fb ≤ P.fa := by
 obtain ⟨S, _, rfl, hI⟩ := h
 obtain ⟨h1, h2, h3⟩ := hI.shift ha hb hc hd (kk := S.kk) rfl rfl rfl
 exact ⟨h1.bds ha hc hd, h1.p, h1, h2, h3⟩
theorem PIn.next {a b c : Int} {P : RS} (h : PIn a b c P) (ha : ab a < pw 5) (hb : ab b < pw 5) (hc : ab c < pw 5) (hd : b * b - 4 * (a * c) < 0) (hr : P.red = false) : PIn a b c (rsh (rsw P)) ∧ RB (rsw P) ∧ 0 < (rsw P).fa ∧ 2 * (rsh (rsw P)).fa.natAbs + (if redB (rsh (rsw P)).fa (rsh (rsw P)).fb (rsh (rsw P)).fc = true then 0 else 1) < 2 * P.fa.natAbs + 1 := by
 obtain ⟨_, hp, hI, hm1, hm2⟩ := h.at ha hb hc hd
 obtain ⟨S, hA, rfl, hIS⟩ := h
 have hs : S.red = false := by
  cases hs : S.red with
  | false => rfl
  | true => rw [zG2 hIS.p hs, hs] at hr; cases hr
 have h2 := hA.next hs
 unfold zBt at h2
 rw [if_neg (by rw [hr]; decide)] at h2
 have hsw := zJk hp hm1 hm2 (fun e => by rw [show (rsh S).red = true from (zDv hp).2 e] at hr; cases hr)
 have hle : (rsh S).fc ≤ (rsh S).fa := by rcases hsw with h | h <;> omega
 have hI2 := RIn.swap (fa := (rsh S).fa) (fb := (rsh S).fb) (fc := (rsh S).fc) hI ha hc hd hle
 have hp2 : 0 < (rsw (rsh S)).fa := hI2.p
 refine ⟨⟨_, h2, rfl, hI2⟩, hI2.bds ha hc hd, hp2, ?_⟩
 have e : (rsh (rsw (rsh S))).fa = (rsh S).fc := rfl
 rcases hsw with hl | ⟨he, _, hrd⟩
 ·rw [e]
  have : (rsw (rsh S)).fa = (rsh S).fc := rfl
  split <;> omega
 ·have hr2 : (rsw (rsh S)).red = true := (zDv hp2).2 hrd
  have e2 : rsh (rsw (rsh S)) = rsw (rsh S) := zG2 hp2 hr2
  rw [show redB (rsh (rsw (rsh S))).fa (rsh (rsw (rsh S))).fb (rsh (rsw (rsh S))).fc = true by rw [e2]; exact hr2, if_pos rfl, e, he]
  omega
theorem zFm {a b c : Int} (hd : b * b - 4 * (a * c) < 0) (h0 : 0 < a) : redE a b c = 0 := by
 unfold redE
 rw [if_neg (fun x => by omega), zHn hd (by omega)]
theorem zFl {a b c : Int} (h : redE a b c = 0) : b * b - 4 * (a * c) < 0 ∧ 0 < a := by
 have h1 := zGy a b c
 rw [h] at h1
 have h2 := of_decide_eq_true (h1.trans (decide_eq_true rfl))
 have h3 := zGa h2.1
 omega
section
variable {os : List Oper} {Q : Exit → Act → World → Prop} {a : Act} {p : Pq} {B B0 : Nat} {w0 : World}
variable {i s : Nat} {d : Option Tmp} {ty : TypeId} {ps : String} {af : Array Edge} {gd : Option (Nat × Bool)}
theorem zLj {x0 : Operand} {z0 : Int} {x1 : Operand} {z1 : Int} {x3 : Operand} {z3 : Int} (hp : p.Ok B B0) (hF : p.Free i) (hg : GdQ os a p B B0 w0 af gd) (h0 : SrcQ os a p B B0 w0 af x0 fun v w => Num w v z0) (h1 : SrcQ os a p B B0 w0 af x1 fun v w => Num w v z1) (h3 : SrcQ os a p B B0 w0 af x3 fun v w => Num w v z3) (hC : ∀ v w, (Fq.st [.n z0, .n z1, .n 0, .n z3]).P v w → (p.c i).P v w) :
  zAm os Q a p B B0 w0 i { dst := d, op := .build 36 #[(0, x0), (1, x1), (3, x3)], type := ty, pos := ps, after := af, guard := gd } := by
 refine zBf hp hF hg fun L vs w hG hL hc hd => ?_
 have g0 := h0 L vs w hG hd
 obtain ⟨n0, ao0, k0, c0, e0⟩ := g0.parts
 have m0 : Num w (.agg #[.bool n0, .slice ao0 k0 c0]) z0 := by rw [← e0]; exact g0
 have g1 := h1 L vs w hG hd
 obtain ⟨n1, ao1, k1, c1, e1⟩ := g1.parts
 have m1 : Num w (.agg #[.bool n1, .slice ao1 k1 c1]) z1 := by rw [← e1]; exact g1
 have g3 := h3 L vs w hG hd
 obtain ⟨n3, ao3, k3, c3, e3⟩ := g3.parts
 have m3 : Num w (.agg #[.bool n3, .slice ao3 k3 c3]) z3 := by rw [← e3]; exact g3
 refine ⟨.agg #[.bool n0, .slice ao0 k0 c0, .bool n1, .slice ao1 k1 c1, .bool false, .slice none 0 0, .bool n3, .slice ao3 k3 c3], ?_, hC _ _ ⟨_, rfl, _, _, _, rfl, m0, _, _, _, rfl, m1, _, _, _, rfl, Num.zero w, _, _, _, rfl, m3, rfl⟩⟩
 generalize (lay os.toArray L vs os.toArray.size a).eval = ρ at e0 e1 e3
 simp [execOp, go_sem, e0, e1, e3]
theorem zLk {x0 : Operand} {z0 : Int} {x3 : Operand} {z3 : Int} (hp : p.Ok B B0) (hF : p.Free i) (hg : GdQ os a p B B0 w0 af gd) (h0 : SrcQ os a p B B0 w0 af x0 fun v w => Num w v z0) (h3 : SrcQ os a p B B0 w0 af x3 fun v w => Num w v z3) (hC : ∀ v w, (Fq.st [.n z0, .n 0, .n 0, .n z3]).P v w → (p.c i).P v w) :
  zAm os Q a p B B0 w0 i { dst := d, op := .build 36 #[(0, x0), (3, x3)], type := ty, pos := ps, after := af, guard := gd } := by
 refine zBf hp hF hg fun L vs w hG hL hc hd => ?_
 have g0 := h0 L vs w hG hd
 obtain ⟨n0, ao0, k0, c0, e0⟩ := g0.parts
 have m0 : Num w (.agg #[.bool n0, .slice ao0 k0 c0]) z0 := by rw [← e0]; exact g0
 have g3 := h3 L vs w hG hd
 obtain ⟨n3, ao3, k3, c3, e3⟩ := g3.parts
 have m3 : Num w (.agg #[.bool n3, .slice ao3 k3 c3]) z3 := by rw [← e3]; exact g3
 refine ⟨.agg #[.bool n0, .slice ao0 k0 c0, .bool false, .slice none 0 0, .bool false, .slice none 0 0, .bool n3, .slice ao3 k3 c3], ?_, hC _ _ ⟨_, rfl, _, _, _, rfl, m0, _, _, _, rfl, Num.zero w, _, _, _, rfl, Num.zero w, _, _, _, rfl, m3, rfl⟩⟩
 generalize (lay os.toArray L vs os.toArray.size a).eval = ρ at e0 e3
 simp [execOp, go_sem, e0, e3]
theorem zLl {x1 : Operand} {z1 : Int} {x2 : Operand} {z2 : Int} (hp : p.Ok B B0) (hF : p.Free i) (hg : GdQ os a p B B0 w0 af gd) (h1 : SrcQ os a p B B0 w0 af x1 fun v w => Num w v z1) (h2 : SrcQ os a p B B0 w0 af x2 fun v w => Num w v z2) (hC : ∀ v w, (Fq.st [.n 0, .n z1, .n z2, .n 0]).P v w → (p.c i).P v w) :
  zAm os Q a p B B0 w0 i { dst := d, op := .build 36 #[(1, x1), (2, x2)], type := ty, pos := ps, after := af, guard := gd } := by
 refine zBf hp hF hg fun L vs w hG hL hc hd => ?_
 have g1 := h1 L vs w hG hd
 obtain ⟨n1, ao1, k1, c1, e1⟩ := g1.parts
 have m1 : Num w (.agg #[.bool n1, .slice ao1 k1 c1]) z1 := by rw [← e1]; exact g1
 have g2 := h2 L vs w hG hd
 obtain ⟨n2, ao2, k2, c2, e2⟩ := g2.parts
 have m2 : Num w (.agg #[.bool n2, .slice ao2 k2 c2]) z2 := by rw [← e2]; exact g2
 refine ⟨.agg #[.bool false, .slice none 0 0, .bool n1, .slice ao1 k1 c1, .bool n2, .slice ao2 k2 c2, .bool false, .slice none 0 0], ?_, hC _ _ ⟨_, rfl, _, _, _, rfl, Num.zero w, _, _, _, rfl, m1, _, _, _, rfl, m2, _, _, _, rfl, Num.zero w, rfl⟩⟩
 generalize (lay os.toArray L vs os.toArray.size a).eval = ρ at e1 e2
 simp [execOp, go_sem, e1, e2]
theorem zLm {x0 : Operand} {z0_0 : Int} {z0_1 : Int} {z0_2 : Int} {x1 : Operand} {z1_0 : Int} {z1_1 : Int} {z1_2 : Int} {z1_3 : Int} (hp : p.Ok B B0) (hF : p.Free i) (hg : GdQ os a p B B0 w0 af gd) (h0 : SrcQ os a p B B0 w0 af x0 (Fq.st [.n z0_0, .n z0_1, .n z0_2]).P) (h1 : SrcQ os a p B B0 w0 af x1 (Fq.st [.n z1_0, .n z1_1, .n z1_2, .n z1_3]).P) (hC : ∀ v w, (Fq.st [.n z0_0, .n z0_1, .n z0_2, .n z1_0, .n z1_1, .n z1_2, .n z1_3]).P v w → (p.c i).P v w) :
  zAm os Q a p B B0 w0 i { dst := d, op := .build 93 #[(0, x0), (1, x1)], type := ty, pos := ps, after := af, guard := gd } := by
 refine zBf hp hF hg fun L vs w hG hL hc hd => ?_
 have g0 := h0 L vs w hG hd
 obtain ⟨_, e0, _, _, _, rfl, a0_n0, _, _, _, rfl, a0_n1, _, _, _, rfl, a0_n2, rfl⟩ := g0
 obtain ⟨n0_0, ao0_0, k0_0, c0_0, e0_0⟩ := a0_n0.parts
 have m0_0 := a0_n0
 rw [e0_0] at m0_0
 obtain ⟨n0_1, ao0_1, k0_1, c0_1, e0_1⟩ := a0_n1.parts
 have m0_1 := a0_n1
 rw [e0_1] at m0_1
 obtain ⟨n0_2, ao0_2, k0_2, c0_2, e0_2⟩ := a0_n2.parts
 have m0_2 := a0_n2
 rw [e0_2] at m0_2
 injection e0_0 with f0_0
 have f0_0 := congrArg Array.toList f0_0
 simp at f0_0
 obtain ⟨rfl, rfl⟩ := f0_0
 injection e0_1 with f0_1
 have f0_1 := congrArg Array.toList f0_1
 simp at f0_1
 obtain ⟨rfl, rfl⟩ := f0_1
 injection e0_2 with f0_2
 have f0_2 := congrArg Array.toList f0_2
 simp at f0_2
 obtain ⟨rfl, rfl⟩ := f0_2
 have g1 := h1 L vs w hG hd
 obtain ⟨_, e1, _, _, _, rfl, a1_n0, _, _, _, rfl, a1_n1, _, _, _, rfl, a1_n2, _, _, _, rfl, a1_n3, rfl⟩ := g1
 obtain ⟨n1_0, ao1_0, k1_0, c1_0, e1_0⟩ := a1_n0.parts
 have m1_0 := a1_n0
 rw [e1_0] at m1_0
 obtain ⟨n1_1, ao1_1, k1_1, c1_1, e1_1⟩ := a1_n1.parts
 have m1_1 := a1_n1
 rw [e1_1] at m1_1
 obtain ⟨n1_2, ao1_2, k1_2, c1_2, e1_2⟩ := a1_n2.parts
 have m1_2 := a1_n2
 rw [e1_2] at m1_2
 obtain ⟨n1_3, ao1_3, k1_3, c1_3, e1_3⟩ := a1_n3.parts
 have m1_3 := a1_n3
 rw [e1_3] at m1_3
 injection e1_0 with f1_0
 have f1_0 := congrArg Array.toList f1_0
 simp at f1_0
 obtain ⟨rfl, rfl⟩ := f1_0
 injection e1_1 with f1_1
 have f1_1 := congrArg Array.toList f1_1
 simp at f1_1
 obtain ⟨rfl, rfl⟩ := f1_1
 injection e1_2 with f1_2
 have f1_2 := congrArg Array.toList f1_2
 simp at f1_2
 obtain ⟨rfl, rfl⟩ := f1_2
 injection e1_3 with f1_3
 have f1_3 := congrArg Array.toList f1_3
 simp at f1_3
 obtain ⟨rfl, rfl⟩ := f1_3
 refine ⟨.agg #[.bool n0_0, .slice ao0_0 k0_0 c0_0, .bool n0_1, .slice ao0_1 k0_1 c0_1, .bool n0_2, .slice ao0_2 k0_2 c0_2, .bool n1_0, .slice ao1_0 k1_0 c1_0, .bool n1_1, .slice ao1_1 k1_1 c1_1, .bool n1_2, .slice ao1_2 k1_2 c1_2, .bool n1_3, .slice ao1_3 k1_3 c1_3], ?_, hC _ _ ⟨_, rfl, _, _, _, rfl, m0_0, _, _, _, rfl, m0_1, _, _, _, rfl, m0_2, _, _, _, rfl, m1_0, _, _, _, rfl, m1_1, _, _, _, rfl, m1_2, _, _, _, rfl, m1_3, rfl⟩⟩
 generalize (lay os.toArray L vs os.toArray.size a).eval = ρ at e0 e1
 simp [execOp, go_sem, e0, e1]
end
set_option maxRecDepth 100000 in
set_option maxHeartbeats 4000000 in
theorem zJ5 {wb w : World} {v : Value} {b : Nat} {bo1 mo1 bo2 mo2 bo3 mo3 : Nat} {Fo1 Fo2 Fo3 : Fq} {fa fb fc x1 x2 x3 x4 y1 y2 y3 y4 : Int} (E : Fr wb [(b, 14, Fq.st [.n fa, .n fb, .n fc, .n x1, .n x2, .n x3, .n x4]), (bo1, mo1, Fo1), (bo2, mo2, Fo2), (bo3, mo3, Fo3)] w) (h : (Fq.st [.n y1, .n y2, .n y3, .n y4]).P v w) (hS : ab fa < pw 60 ∧ ab fb < pw 60 ∧ ab fc < pw 60 ∧ ab x1 < pw 60 ∧ ab x2 < pw 60 ∧ ab x3 < pw 60 ∧ ab x4 < pw 60) (hY : ab y1 < pw 60 ∧ ab y2 < pw 60 ∧ ab y3 < pw 60 ∧ ab y4 < pw 60) :
  Calls Try.prog 89 #[.pointer (some ⟨b, 0, none⟩), v] w fun e w' => ∃ v', e = .returned v' ∧ Fr wb [(b, 14, Fq.st [.n (qv fa fb fc y1 y3), .n (qm fa fb fc y1 y2 y3 y4), .n (qv fa fb fc y2 y4), .n ((x1 * y1) + (x2 * y3)), .n ((x1 * y2) + (x2 * y4)), .n ((x3 * y1) + (x4 * y3)), .n ((x3 * y2) + (x4 * y4))]), (bo1, mo1, Fo1), (bo2, mo2, Fo2), (bo3, mo3, Fo3)] w' := by
 replace hS := hidd hS
 replace hY := hidd hY
 obtain ⟨k0, hs0⟩ : ∃ k, w.heap.size = k := ⟨_, rfl⟩
 obtain ⟨_, rfl, hf1⟩ := h
 have hF1 := hf1
 obtain ⟨y1_p0, y1_q0, _, rfl, _y1_n0, y1_p1, y1_q1, _, rfl, _y1_n1, y1_p2, y1_q2, _, rfl, _y1_n2, y1_p3, y1_q3, _, rfl, _y1_n3, rfl⟩ := hf1
 obtain ⟨w1, b1, hw1, hb1, hs1, E⟩ := zCp E hs0 (F := Fq.st [.n y1, .n y2, .n y3, .n y4]) (us := [y1_p0, y1_q0, y1_p1, y1_q1, y1_p2, y1_q2, y1_p3, y1_q3]) 36 rfl (by simp) hF1.tame (show (Fq.st [.n y1, .n y2, .n y3, .n y4]).P _ w from ⟨_, rfl, hF1⟩)
 go_enter Try.func89, Try.ntmps89
 go_upto_region 1 with (fail)
 rw [← hw1]
 rw [← hb1]
 clear hw1 hb1 hs1 hs0
 refine rg [ip b 0, ip b 0, ip b 0, ip b 0, Fq.st [.n fa, .n fb, .n fc], Fq.st [.n y1, .n y2, .n y3, .n y4], Fq.st [.n (qv fa fb fc y1 y3), .n (qm fa fb fc y1 y2 y3 y4), .n (qv fa fb fc y2 y4)], ip b 0, ip b 0, Fq.any] [none, some (9, Fq.st [.n (qv fa fb fc y1 y3), .n (qm fa fb fc y1 y2 y3 y4), .n (qv fa fb fc y2 y4), .n x1, .n x2, .n x3, .n x4]), none, none, none] [] E (fun hp => ⟨?_, ?_, ?_, ?_, ?_, ?_, ?_, ?_, ?_, ?_, tv⟩) ?_
 ·exact zAb hp fo tv (sqo 0)
 ·exact zAb hp fo tv (sqo 0)
 ·exact zAf (F := fun v _ => v = .pointer (some ⟨b, 0, none⟩)) hp fo tv (sqi 1) (fun ρ w hc h => ⟨.pointer (some ⟨b, 0, none⟩), by simp [execOp, go_sem, h], rfl⟩)
 ·exact qa b 0 0 hp (sqi 2)
 ·exact zDb (off := 0) (l := 6) hp fo tv (mq 1 rfl) (.inr rfl) rfl zAo rfl (sqi 3) (fun v w h => h)
 ·exact lS 0 8 hp (mq 0 rfl) zBw (sqo 3)
 ·exact wXb (Fq.st [.n fa, .n fb, .n fc]) (Fq.st [.n y1, .n y2, .n y3, .n y4]) hp zE4 (sqi 4) (sqi 5) fun v v' w h h' => zE5 h h' (Int.lt_of_lt_of_le hS.out.1 (zAa (by omega))) (Int.lt_of_lt_of_le hS.out.2.1 (zAa (by omega))) (Int.lt_of_lt_of_le hS.out.2.2.1 (zAa (by omega))) (Int.lt_of_lt_of_le hY.out.1 (zAa (by omega))) (Int.lt_of_lt_of_le hY.out.2.1 (zAa (by omega))) (Int.lt_of_lt_of_le hY.out.2.2.1 (zAa (by omega))) (Int.lt_of_lt_of_le hY.out.2.2.2 (zAa (by omega)))
 ·exact zAf (F := fun v _ => v = .pointer (some ⟨b, 0, none⟩)) hp fo tv (sqi 0) (fun ρ w hc h => ⟨.pointer (some ⟨b, 0, none⟩), by simp [execOp, go_sem, h], rfl⟩)
 ·exact qa b 0 0 hp (sqi 7)
 ·exact zCr (off := 0) (fs := [.n fa, .n fb, .n fc, .n x1, .n x2, .n x3, .n x4]) (gs := [.n (qv fa fb fc y1 y3), .n (qm fa fb fc y1 y2 y3 y4), .n (qv fa fb fc y2 y4)]) (fs' := [.n (qv fa fb fc y1 y3), .n (qm fa fb fc y1 y2 y3 y4), .n (qv fa fb fc y2 y4), .n x1, .n x2, .n x3, .n x4]) hp (mq 1 rfl) rfl rfl rfl zA8 rfl (sqi 8) (zBy 6 rfl rfl (by simp) rfl (fun v w h => zDt h)) (fun _ _ => trivial) (zCd rfl)
 intro L vs w2 nb hL hC hn E2
 have e0 := wXi hC 0
 have e1 := wXi hC 1
 have e2 := wXi hC 2
 have e3 := wXi hC 3
 have e7 := wXi hC 7
 have e8 := wXi hC 8
 have E := E2; try simp only [LM, zAc] at E
 rw [zAd hL]
 simp only [SP, Nat.zero_add, Nat.reduceAdd]
 rw [e0, e1, e2, e3, e7, e8]
 generalize vs 4 = u2_4
 generalize vs 5 = u2_5
 generalize vs 6 = u2_6
 clear e0 e1 e2 e3 e7 e8 hC hn E2 hL vs L nb
 go_upto_region 2 with (fail)
 refine rg [ip b 0, ip b 0, ip b 0, ip b 6, Fq.st [.n x1, .n x2, .n x3, .n x4], Fq.st [.n y1, .n y2, .n y3, .n y4], Fq.st [.n ((x1 * y1) + (x2 * y3)), .n ((x1 * y2) + (x2 * y4)), .n ((x3 * y1) + (x4 * y3)), .n ((x3 * y2) + (x4 * y4))], ip b 0, ip b 6, Fq.any] [none, some (9, Fq.st [.n (qv fa fb fc y1 y3), .n (qm fa fb fc y1 y2 y3 y4), .n (qv fa fb fc y2 y4), .n ((x1 * y1) + (x2 * y3)), .n ((x1 * y2) + (x2 * y4)), .n ((x3 * y1) + (x4 * y3)), .n ((x3 * y2) + (x4 * y4))]), none, none, none] [] E (fun hp => ⟨?_, ?_, ?_, ?_, ?_, ?_, ?_, ?_, ?_, ?_, tv⟩) ?_
 ·exact zAb hp fo tv (sqo 0)
 ·exact zAb hp fo tv (sqo 0)
 ·exact zAf (F := fun v _ => v = .pointer (some ⟨b, 0, none⟩)) hp fo tv (sqi 1) (fun ρ w hc h => ⟨.pointer (some ⟨b, 0, none⟩), by simp [execOp, go_sem, h], rfl⟩)
 ·exact qa b 0 6 hp (sqi 2)
 ·exact zDb (off := 6) (l := 8) hp fo tv (mq 1 rfl) (.inr rfl) rfl zBw rfl (sqi 3) (fun v w h => h)
 ·exact lS 0 8 hp (mq 0 rfl) zBw (sqo 3)
 ·exact wXb (Fq.st [.n x1, .n x2, .n x3, .n x4]) (Fq.st [.n y1, .n y2, .n y3, .n y4]) hp zHy (sqi 4) (sqi 5) fun v v' w h h' => zH6 h h' (Int.lt_of_lt_of_le hS.out.2.2.2.1 (zAa (by omega))) (Int.lt_of_lt_of_le hS.out.2.2.2.2.1 (zAa (by omega))) (Int.lt_of_lt_of_le hS.out.2.2.2.2.2.1 (zAa (by omega))) (Int.lt_of_lt_of_le hS.out.2.2.2.2.2.2 (zAa (by omega))) (Int.lt_of_lt_of_le hY.out.1 (zAa (by omega))) (Int.lt_of_lt_of_le hY.out.2.1 (zAa (by omega))) (Int.lt_of_lt_of_le hY.out.2.2.1 (zAa (by omega))) (Int.lt_of_lt_of_le hY.out.2.2.2 (zAa (by omega)))
 ·exact zAf (F := fun v _ => v = .pointer (some ⟨b, 0, none⟩)) hp fo tv (sqi 0) (fun ρ w hc h => ⟨.pointer (some ⟨b, 0, none⟩), by simp [execOp, go_sem, h], rfl⟩)
 ·exact qa b 0 6 hp (sqi 7)
 ·exact zCr (off := 6) (fs := [.n (qv fa fb fc y1 y3), .n (qm fa fb fc y1 y2 y3 y4), .n (qv fa fb fc y2 y4), .n x1, .n x2, .n x3, .n x4]) (gs := [.n ((x1 * y1) + (x2 * y3)), .n ((x1 * y2) + (x2 * y4)), .n ((x3 * y1) + (x4 * y3)), .n ((x3 * y2) + (x4 * y4))]) (fs' := [.n (qv fa fb fc y1 y3), .n (qm fa fb fc y1 y2 y3 y4), .n (qv fa fb fc y2 y4), .n ((x1 * y1) + (x2 * y3)), .n ((x1 * y2) + (x2 * y4)), .n ((x3 * y1) + (x4 * y3)), .n ((x3 * y2) + (x4 * y4))]) hp (mq 1 rfl) rfl rfl rfl zBx rfl (sqi 8) (zBy 6 rfl rfl (by simp) rfl (fun v w h => zDt h)) (fun _ _ => trivial) (zCd rfl)
 intro L vs w3 nb hL hC hn E3
 have e0 := wXi hC 0
 have e1 := wXi hC 1
 have e2 := wXi hC 2
 have e3 := wXi hC 3
 have e7 := wXi hC 7
 have e8 := wXi hC 8
 have E := E3; try simp only [LM, zAc] at E
 rw [zAd hL]
 simp only [SP, Nat.zero_add, Nat.reduceAdd]
 rw [e0, e1, e2, e3, e7, e8]
 generalize vs 4 = u3_4
 generalize vs 5 = u3_5
 generalize vs 6 = u3_6
 clear e0 e1 e2 e3 e7 e8 hC hn E3 hL vs L nb
 clear hS hY
 exact bodyPost_end (results_none rfl _ _ _) rfl ⟨_, rfl, E.drop⟩

set_option maxRecDepth 100000 in
set_option maxHeartbeats 4000000 in
theorem zJ6 {wb w : World} {v : Value} {b : Nat} {p1 q1 : Nat} {P1 : Fq} {p2 q2 : Nat} {P2 : Fq} {bo1 mo1 bo2 mo2 bo3 mo3 : Nat} {Fo1 Fo2 Fo3 : Fq} {fa fb fc x1 x2 x3 x4 y1 y2 y3 y4 : Int} (E : Fr wb [(p1, q1, P1), (p2, q2, P2), (b, 14, Fq.st [.n fa, .n fb, .n fc, .n x1, .n x2, .n x3, .n x4]), (bo1, mo1, Fo1), (bo2, mo2, Fo2), (bo3, mo3, Fo3)] w) (h : (Fq.st [.n y1, .n y2, .n y3, .n y4]).P v w) (hS : ab fa < pw 60 ∧ ab fb < pw 60 ∧ ab fc < pw 60 ∧ ab x1 < pw 60 ∧ ab x2 < pw 60 ∧ ab x3 < pw 60 ∧ ab x4 < pw 60) (hY : ab y1 < pw 60 ∧ ab y2 < pw 60 ∧ ab y3 < pw 60 ∧ ab y4 < pw 60) :
  Calls Try.prog 89 #[.pointer (some ⟨b, 0, none⟩), v] w fun e w' => ∃ v', e = .returned v' ∧ Fr wb [(p1, q1, P1), (p2, q2, P2), (b, 14, Fq.st [.n (qv fa fb fc y1 y3), .n (qm fa fb fc y1 y2 y3 y4), .n (qv fa fb fc y2 y4), .n ((x1 * y1) + (x2 * y3)), .n ((x1 * y2) + (x2 * y4)), .n ((x3 * y1) + (x4 * y3)), .n ((x3 * y2) + (x4 * y4))]), (bo1, mo1, Fo1), (bo2, mo2, Fo2), (bo3, mo3, Fo3)] w' := by
 replace hS := hidd hS
 replace hY := hidd hY
 obtain ⟨k0, hs0⟩ : ∃ k, w.heap.size = k := ⟨_, rfl⟩
 obtain ⟨_, rfl, hf1⟩ := h
 have hF1 := hf1
 obtain ⟨y1_p0, y1_q0, _, rfl, _y1_n0, y1_p1, y1_q1, _, rfl, _y1_n1, y1_p2, y1_q2, _, rfl, _y1_n2, y1_p3, y1_q3, _, rfl, _y1_n3, rfl⟩ := hf1
 obtain ⟨w1, b1, hw1, hb1, hs1, E⟩ := zCp E hs0 (F := Fq.st [.n y1, .n y2, .n y3, .n y4]) (us := [y1_p0, y1_q0, y1_p1, y1_q1, y1_p2, y1_q2, y1_p3, y1_q3]) 36 rfl (by simp) hF1.tame (show (Fq.st [.n y1, .n y2, .n y3, .n y4]).P _ w from ⟨_, rfl, hF1⟩)
 go_enter Try.func89, Try.ntmps89
 go_upto_region 1 with (fail)
 rw [← hw1]
 rw [← hb1]
 clear hw1 hb1 hs1 hs0
 refine rg [ip b 0, ip b 0, ip b 0, ip b 0, Fq.st [.n fa, .n fb, .n fc], Fq.st [.n y1, .n y2, .n y3, .n y4], Fq.st [.n (qv fa fb fc y1 y3), .n (qm fa fb fc y1 y2 y3 y4), .n (qv fa fb fc y2 y4)], ip b 0, ip b 0, Fq.any] [none, none, none, some (9, Fq.st [.n (qv fa fb fc y1 y3), .n (qm fa fb fc y1 y2 y3 y4), .n (qv fa fb fc y2 y4), .n x1, .n x2, .n x3, .n x4]), none, none, none] [] E (fun hp => ⟨?_, ?_, ?_, ?_, ?_, ?_, ?_, ?_, ?_, ?_, tv⟩) ?_
 ·exact zAb hp fo tv (sqo 0)
 ·exact zAb hp fo tv (sqo 0)
 ·exact zAf (F := fun v _ => v = .pointer (some ⟨b, 0, none⟩)) hp fo tv (sqi 1) (fun ρ w hc h => ⟨.pointer (some ⟨b, 0, none⟩), by simp [execOp, go_sem, h], rfl⟩)
 ·exact qa b 0 0 hp (sqi 2)
 ·exact zDb (off := 0) (l := 6) hp fo tv (mq 3 rfl) (.inr rfl) rfl zAo rfl (sqi 3) (fun v w h => h)
 ·exact lS 0 8 hp (mq 0 rfl) zBw (sqo 3)
 ·exact wXb (Fq.st [.n fa, .n fb, .n fc]) (Fq.st [.n y1, .n y2, .n y3, .n y4]) hp zE4 (sqi 4) (sqi 5) fun v v' w h h' => zE5 h h' (Int.lt_of_lt_of_le hS.out.1 (zAa (by omega))) (Int.lt_of_lt_of_le hS.out.2.1 (zAa (by omega))) (Int.lt_of_lt_of_le hS.out.2.2.1 (zAa (by omega))) (Int.lt_of_lt_of_le hY.out.1 (zAa (by omega))) (Int.lt_of_lt_of_le hY.out.2.1 (zAa (by omega))) (Int.lt_of_lt_of_le hY.out.2.2.1 (zAa (by omega))) (Int.lt_of_lt_of_le hY.out.2.2.2 (zAa (by omega)))
 ·exact zAf (F := fun v _ => v = .pointer (some ⟨b, 0, none⟩)) hp fo tv (sqi 0) (fun ρ w hc h => ⟨.pointer (some ⟨b, 0, none⟩), by simp [execOp, go_sem, h], rfl⟩)
 ·exact qa b 0 0 hp (sqi 7)
 ·exact zCr (off := 0) (fs := [.n fa, .n fb, .n fc, .n x1, .n x2, .n x3, .n x4]) (gs := [.n (qv fa fb fc y1 y3), .n (qm fa fb fc y1 y2 y3 y4), .n (qv fa fb fc y2 y4)]) (fs' := [.n (qv fa fb fc y1 y3), .n (qm fa fb fc y1 y2 y3 y4), .n (qv fa fb fc y2 y4), .n x1, .n x2, .n x3, .n x4]) hp (mq 3 rfl) rfl rfl rfl zA8 rfl (sqi 8) (zBy 6 rfl rfl (by simp) rfl (fun v w h => zDt h)) (fun _ _ => trivial) (zCd rfl)
 intro L vs w2 nb hL hC hn E2
 have e0 := wXi hC 0
 have e1 := wXi hC 1
 have e2 := wXi hC 2
 have e3 := wXi hC 3
 have e7 := wXi hC 7
 have e8 := wXi hC 8
 have E := E2; try simp only [LM, zAc] at E
 rw [zAd hL]
 simp only [SP, Nat.zero_add, Nat.reduceAdd]
 rw [e0, e1, e2, e3, e7, e8]
 generalize vs 4 = u2_4
 generalize vs 5 = u2_5
 generalize vs 6 = u2_6
 clear e0 e1 e2 e3 e7 e8 hC hn E2 hL vs L nb
 go_upto_region 2 with (fail)
 refine rg [ip b 0, ip b 0, ip b 0, ip b 6, Fq.st [.n x1, .n x2, .n x3, .n x4], Fq.st [.n y1, .n y2, .n y3, .n y4], Fq.st [.n ((x1 * y1) + (x2 * y3)), .n ((x1 * y2) + (x2 * y4)), .n ((x3 * y1) + (x4 * y3)), .n ((x3 * y2) + (x4 * y4))], ip b 0, ip b 6, Fq.any] [none, none, none, some (9, Fq.st [.n (qv fa fb fc y1 y3), .n (qm fa fb fc y1 y2 y3 y4), .n (qv fa fb fc y2 y4), .n ((x1 * y1) + (x2 * y3)), .n ((x1 * y2) + (x2 * y4)), .n ((x3 * y1) + (x4 * y3)), .n ((x3 * y2) + (x4 * y4))]), none, none, none] [] E (fun hp => ⟨?_, ?_, ?_, ?_, ?_, ?_, ?_, ?_, ?_, ?_, tv⟩) ?_
 ·exact zAb hp fo tv (sqo 0)
 ·exact zAb hp fo tv (sqo 0)
 ·exact zAf (F := fun v _ => v = .pointer (some ⟨b, 0, none⟩)) hp fo tv (sqi 1) (fun ρ w hc h => ⟨.pointer (some ⟨b, 0, none⟩), by simp [execOp, go_sem, h], rfl⟩)
 ·exact qa b 0 6 hp (sqi 2)
 ·exact zDb (off := 6) (l := 8) hp fo tv (mq 3 rfl) (.inr rfl) rfl zBw rfl (sqi 3) (fun v w h => h)
 ·exact lS 0 8 hp (mq 0 rfl) zBw (sqo 3)
 ·exact wXb (Fq.st [.n x1, .n x2, .n x3, .n x4]) (Fq.st [.n y1, .n y2, .n y3, .n y4]) hp zHy (sqi 4) (sqi 5) fun v v' w h h' => zH6 h h' (Int.lt_of_lt_of_le hS.out.2.2.2.1 (zAa (by omega))) (Int.lt_of_lt_of_le hS.out.2.2.2.2.1 (zAa (by omega))) (Int.lt_of_lt_of_le hS.out.2.2.2.2.2.1 (zAa (by omega))) (Int.lt_of_lt_of_le hS.out.2.2.2.2.2.2 (zAa (by omega))) (Int.lt_of_lt_of_le hY.out.1 (zAa (by omega))) (Int.lt_of_lt_of_le hY.out.2.1 (zAa (by omega))) (Int.lt_of_lt_of_le hY.out.2.2.1 (zAa (by omega))) (Int.lt_of_lt_of_le hY.out.2.2.2 (zAa (by omega)))
 ·exact zAf (F := fun v _ => v = .pointer (some ⟨b, 0, none⟩)) hp fo tv (sqi 0) (fun ρ w hc h => ⟨.pointer (some ⟨b, 0, none⟩), by simp [execOp, go_sem, h], rfl⟩)
 ·exact qa b 0 6 hp (sqi 7)
 ·exact zCr (off := 6) (fs := [.n (qv fa fb fc y1 y3), .n (qm fa fb fc y1 y2 y3 y4), .n (qv fa fb fc y2 y4), .n x1, .n x2, .n x3, .n x4]) (gs := [.n ((x1 * y1) + (x2 * y3)), .n ((x1 * y2) + (x2 * y4)), .n ((x3 * y1) + (x4 * y3)), .n ((x3 * y2) + (x4 * y4))]) (fs' := [.n (qv fa fb fc y1 y3), .n (qm fa fb fc y1 y2 y3 y4), .n (qv fa fb fc y2 y4), .n ((x1 * y1) + (x2 * y3)), .n ((x1 * y2) + (x2 * y4)), .n ((x3 * y1) + (x4 * y3)), .n ((x3 * y2) + (x4 * y4))]) hp (mq 3 rfl) rfl rfl rfl zBx rfl (sqi 8) (zBy 6 rfl rfl (by simp) rfl (fun v w h => zDt h)) (fun _ _ => trivial) (zCd rfl)
 intro L vs w3 nb hL hC hn E3
 have e0 := wXi hC 0
 have e1 := wXi hC 1
 have e2 := wXi hC 2
 have e3 := wXi hC 3
 have e7 := wXi hC 7
 have e8 := wXi hC 8
 have E := E3; try simp only [LM, zAc] at E
 rw [zAd hL]
 simp only [SP, Nat.zero_add, Nat.reduceAdd]
 rw [e0, e1, e2, e3, e7, e8]
 generalize vs 4 = u3_4
 generalize vs 5 = u3_5
 generalize vs 6 = u3_6
 clear e0 e1 e2 e3 e7 e8 hC hn E3 hL vs L nb
 clear hS hY
 exact bodyPost_end (results_none rfl _ _ _) rfl ⟨_, rfl, E.drop⟩

set_option maxRecDepth 100000 in
set_option maxHeartbeats 4000000 in
theorem exPSwap {wb w : World} {b : Nat} {bo1 mo1 bo2 mo2 bo3 mo3 : Nat} {Fo1 Fo2 Fo3 : Fq} {S : RS} (E : Fr wb [(b, 14, Fq.st [.n S.fa, .n S.fb, .n S.fc, .n S.x1, .n S.x2, .n S.x3, .n S.x4]), (bo1, mo1, Fo1), (bo2, mo2, Fo2), (bo3, mo3, Fo3)] w) (hB : RB S) :
  Calls Try.prog 59 #[.pointer (some ⟨b, 0, none⟩)] w fun e w' => ∃ v', e = .returned v' ∧ Fr wb [(b, 14, Fq.st [.n ((rsw S).fa), .n ((rsw S).fb), .n ((rsw S).fc), .n ((rsw S).x1), .n ((rsw S).x2), .n ((rsw S).x3), .n ((rsw S).x4)]), (bo1, mo1, Fo1), (bo2, mo2, Fo2), (bo3, mo3, Fo3)] w' := by
 replace hB := hidd hB
 go_enter Try.func59, Try.ntmps59
 go_upto_region 0 with (fail)
 have B1 : Hid (ab ((-1)) < pw 3) := zA7 (by decide)
 have B2 : Hid (ab ((1)) < pw 3) := zA7 (by decide)
 refine zEk (C := [Fq.is (.pointer (some ⟨b, 0, none⟩)), Fq.num (-1), Fq.num (1), Fq.st [.n 0, .n (-1), .n (1), .n 0], Fq.any]) (ks := [none, none, none, none]) (bs' := [(b, 14, Fq.st [.n ((rsw S).fa), .n ((rsw S).fb), .n ((rsw S).fc), .n ((rsw S).x1), .n ((rsw S).x2), .n ((rsw S).x3), .n ((rsw S).x4)]), (bo1, mo1, Fo1), (bo2, mo2, Fo2), (bo3, mo3, Fo3)]) 4 rfl rfl E rfl rfl (by kernel_rfl) rfl rfl rfl (fun hp => ⟨?_, ?_, ?_, ?_, tv⟩) ?_ ?_
 ·exact zAb hp fo tv (sqo 0)
 ·exact zAl (F := (Fq.is (.int .i64 (-1))).P) hp fo tv (zBv) (zAh (fun _ => rfl)) (fun v w h => (by subst h; exact OfK w (-1) (by omega) (by omega)))
 ·exact zAl (F := (Fq.is (.int .i64 1)).P) hp fo tv (zBv) (zAh (fun _ => rfl)) (fun v w h => (by subst h; exact OfK w (1) (by omega) (by omega)))
 ·exact zLl (z1 := (-1)) (z2 := (1)) hp fo tv (sqi 1) (sqi 2) (fun v w h => h)
 ·intro hp; exact zI4 (G := (Fq.st [.n 0, .n (-1), .n (1), .n 0]).P) (zH1) (sqi 0) (sqi 3) trivial (fun v w E h => (by have hh := zJ5 E h ⟨(Int.lt_of_lt_of_le hB.out.1.1 (zAa (by omega))), (Int.lt_of_lt_of_le hB.out.1.2.1 (zAa (by omega))), (Int.lt_of_lt_of_le hB.out.1.2.2 (zAa (by omega))), (Int.lt_of_lt_of_le hB.out.2.1 (zAa (by omega))), (Int.lt_of_lt_of_le hB.out.2.2.1 (zAa (by omega))), (Int.lt_of_lt_of_le hB.out.2.2.2.1 (zAa (by omega))), (Int.lt_of_lt_of_le hB.out.2.2.2.2 (zAa (by omega)))⟩ ⟨(Int.lt_of_lt_of_le (zA7 (by decide)) (zAa (by omega))), (Int.lt_of_lt_of_le (zA7 (by decide)) (zAa (by omega))), (Int.lt_of_lt_of_le (zA7 (by decide)) (zAa (by omega))), (Int.lt_of_lt_of_le (zA7 (by decide)) (zAa (by omega)))⟩; rw [rsw_a, rsw_b, rsw_c] at hh; exact hh))
 intro L vs w3 hL E3
 have E := E3; try simp only [LM, zAc] at E
 rw [zAd hL]
 simp only [SP, Nat.zero_add, Nat.reduceAdd]
 generalize vs 0 = u3_0
 generalize vs 1 = u3_1
 generalize vs 2 = u3_2
 generalize vs 3 = u3_3
 generalize vs 4 = u3_4
 clear E3 hL vs L
 clear B1 B2 hB
 exact bodyPost_end (results_none rfl _ _ _) rfl ⟨_, rfl, E⟩

set_option maxRecDepth 100000 in
set_option maxHeartbeats 4000000 in
theorem zH3 {wb w : World} {b : Nat} {bo1 mo1 bo2 mo2 bo3 mo3 : Nat} {Fo1 Fo2 Fo3 : Fq} {S : RS} (E : Fr wb [(b, 14, Fq.st [.n S.fa, .n S.fb, .n S.fc, .n S.x1, .n S.x2, .n S.x3, .n S.x4]), (bo1, mo1, Fo1), (bo2, mo2, Fo2), (bo3, mo3, Fo3)] w) (hB : RB S) (h0 : 0 < S.fa) :
  Calls Try.prog 57 #[.pointer (some ⟨b, 0, none⟩)] w fun e w' => ∃ v', e = .returned v' ∧ Fr wb [(b, 14, Fq.st [.n ((rsh S).fa), .n ((rsh S).fb), .n ((rsh S).fc), .n ((rsh S).x1), .n ((rsh S).x2), .n ((rsh S).x3), .n ((rsh S).x4)]), (bo1, mo1, Fo1), (bo2, mo2, Fo2), (bo3, mo3, Fo3)] w' := by
 replace hB := hidd hB
 have HNE : Hid (2 * S.fa ≠ 0) := by show _ ≠ _; omega
 have BQ : Hid (ab ((S.fa - S.fb) / (2 * S.fa)) < pw 15) := ediv_ab (zDd hB.out.1.1 hB.out.1.2.1 (by omega) (by omega))
 clear h0
 go_enter Try.func57, Try.ntmps57
 go_upto_region 0 with (fail)
 have B1 : Hid (ab ((S.fa - S.fb)) < pw 6) := zDd hB.out.1.1 hB.out.1.2.1 (by omega) (by omega)
 have B2 : Hid (ab ((2 * S.fa)) < pw 8) := Int.lt_of_lt_of_le (zAy (zAj (x := 2) (by decide) (by decide)) hB.out.1.1) (zAa (by omega))
 have B3 : Hid (ab (((S.fa - S.fb) % (2 * S.fa))) < pw 8) := ab_modB HNE.out B2.out
 refine rg [ip b 0, ip b 0, ip b 0, ip b 0, Fq.num S.fa, ip b 0, ip b 0, ip b 0, ip b 2, Fq.num S.fb, Fq.num (S.fa - S.fb), ip b 0, ip b 0, ip b 0, ip b 0, Fq.num S.fa, Fq.num (2 * S.fa), Fq.tup3 (Fq.num ((S.fa - S.fb) / (2 * S.fa))) (Fq.num ((S.fa - S.fb) % (2 * S.fa))) (Fq.is (.int .i64 0)), Fq.tup3 (Fq.num ((S.fa - S.fb) / (2 * S.fa))) (Fq.num ((S.fa - S.fb) % (2 * S.fa))) (Fq.is (.int .i64 0)), Fq.num ((S.fa - S.fb) / (2 * S.fa)), Fq.num ((S.fa - S.fb) % (2 * S.fa)), Fq.is (.int .i64 0), Fq.any, Fq.any, Fq.any, Fq.any, Fq.is (.int .i64 0)] N4 [⟨22, 24, 2, Fq.num 0, Fq.num ((S.fa - S.fb) / (2 * S.fa)), none⟩, ⟨23, 25, 2, Fq.num 0, Fq.num ((S.fa - S.fb) % (2 * S.fa)), none⟩] E (fun hp => ⟨?_, ?_, ?_, ?_, ?_, ?_, ?_, ?_, ?_, ?_, ?_, ?_, ?_, ?_, ?_, ?_, ?_, ?_, ?_, ?_, ?_, ?_, ?_, ?_, ?_, ?_, ?_, tv⟩) ?_
 ·exact zAb hp fo tv (sqo 0)
 ·exact zAf (F := fun v _ => v = .pointer (some ⟨b, 0, none⟩)) hp fo tv (sqi 0) (fun ρ w hc h => ⟨.pointer (some ⟨b, 0, none⟩), by simp [execOp, go_sem, h], rfl⟩)
 ·exact qa b 0 0 hp (sqi 1)
 ·exact qa b 0 0 hp (sqi 2)
 ·exact lN 0 2 hp (mq 0 rfl) zAe (sqi 3)
 ·exact zAb hp fo tv (sqo 0)
 ·exact zAf (F := fun v _ => v = .pointer (some ⟨b, 0, none⟩)) hp fo tv (sqi 5) (fun ρ w hc h => ⟨.pointer (some ⟨b, 0, none⟩), by simp [execOp, go_sem, h], rfl⟩)
 ·exact qa b 0 0 hp (sqi 6)
 ·exact qa b 0 2 hp (sqi 7)
 ·exact lN 2 2 hp (mq 0 rfl) zAe (sqi 8)
 ·exact wXb (Fq.num S.fa) (Fq.num S.fb) hp enq_Sub (sqi 4) (sqi 9) fun v v' w h h' => exK (SubV h h') B1.out (by omega)
 ·exact zAb hp fo tv (sqo 0)
 ·exact zAf (F := fun v _ => v = .pointer (some ⟨b, 0, none⟩)) hp fo tv (sqi 11) (fun ρ w hc h => ⟨.pointer (some ⟨b, 0, none⟩), by simp [execOp, go_sem, h], rfl⟩)
 ·exact qa b 0 0 hp (sqi 12)
 ·exact qa b 0 0 hp (sqi 13)
 ·exact lN 0 2 hp (mq 0 rfl) zAe (sqi 14)
 ·exact wXa (Fq.num S.fa) hp zF5 (sqi 15) fun v w h => zF8 h (Int.lt_of_lt_of_le hB.out.1.1 (zAa (by omega)))
 ·exact wXb (Fq.num (S.fa - S.fb)) (Fq.num (2 * S.fa)) hp zF0 (sqi 10) (sqi 16) fun v v' w h h' => exDMq h h' HNE.out (Int.lt_of_lt_of_le BQ.out (zAa (by omega : 15 ≤ 15))) B3.out (by omega) (by omega)
 ·exact zAb hp fo tv (sqi 17)
 ·exact zA6 hp fo tv (sqi 18) (fun v1 v2 v3 w h1 h2 h3 => ⟨_, rfl, h1⟩)
 ·exact zA6 hp fo tv (sqi 18) (fun v1 v2 v3 w h1 h2 h3 => ⟨_, rfl, h2⟩)
 ·exact zA6 hp fo tv (sqi 18) (fun v1 v2 v3 w h1 h2 h3 => ⟨_, rfl, h3⟩)
 ·exact aN hp (mq 0 rfl)
 ·exact aN hp (mq 1 rfl)
 ·exact sN 19 hp (mq 0 rfl)
 ·exact sN 20 hp (mq 1 rfl)
 ·exact zAi hp fo tv (sqi 21)
 intro L vs w4 nb hL hC hn E4
 have e0 := wXi hC 0
 have e1 := wXi hC 1
 have e2 := wXi hC 2
 have e3 := wXi hC 3
 have e5 := wXi hC 5
 have e6 := wXi hC 6
 have e7 := wXi hC 7
 have e8 := wXi hC 8
 have e11 := wXi hC 11
 have e12 := wXi hC 12
 have e13 := wXi hC 13
 have e14 := wXi hC 14
 have e21 := wXi hC 21
 have e26 := wXi hC 26
 have e22 : vs 22 = .pointer (some ⟨nb 22, 0, none⟩) := hn _ (mq 0 rfl)
 have e23 : vs 23 = .pointer (some ⟨nb 23, 0, none⟩) := hn _ (mq 1 rfl)
 have E := E4; try simp only [LM, zAc] at E
 rw [zAd hL]
 simp only [SP, Nat.zero_add, Nat.reduceAdd]
 rw [e0, e1, e2, e3, e5, e6, e7, e8, e11, e12, e13, e14, e21, e26, e22, e23]
 generalize nb 22 = b4_22 at E ⊢
 generalize nb 23 = b4_23 at E ⊢
 generalize vs 4 = u4_4
 generalize vs 9 = u4_9
 generalize vs 10 = u4_10
 generalize vs 15 = u4_15
 generalize vs 16 = u4_16
 generalize vs 17 = u4_17
 generalize vs 18 = u4_18
 generalize vs 19 = u4_19
 generalize vs 20 = u4_20
 clear e0 e1 e2 e3 e5 e6 e7 e8 e11 e12 e13 e14 e21 e26 e22 e23 hC hn E4 hL vs L nb
 go_upto_region 1 with (fail)
 have B5 : Hid (ab ((1)) < pw 3) := zA7 (by decide)
 refine zEk (C := [Fq.is (.pointer (some ⟨b, 0, none⟩)), Fq.num (1), Fq.num ((S.fa - S.fb) / (2 * S.fa)), Fq.num (1), Fq.st [.n (1), .n ((S.fa - S.fb) / (2 * S.fa)), .n 0, .n (1)], Fq.any]) (ks := [none, none, none, none, none, none]) (bs' := [(b4_22, 2, Fq.num ((S.fa - S.fb) / (2 * S.fa))), (b4_23, 2, Fq.num ((S.fa - S.fb) % (2 * S.fa))), (b, 14, Fq.st [.n ((rsh S).fa), .n ((rsh S).fb), .n ((rsh S).fc), .n ((rsh S).x1), .n ((rsh S).x2), .n ((rsh S).x3), .n ((rsh S).x4)]), (bo1, mo1, Fo1), (bo2, mo2, Fo2), (bo3, mo3, Fo3)]) 5 rfl rfl E rfl rfl (by kernel_rfl) rfl rfl rfl (fun hp => ⟨?_, ?_, ?_, ?_, ?_, tv⟩) ?_ ?_
 ·exact zAb hp fo tv (sqo 0)
 ·exact zAl (F := (Fq.is (.int .i64 1)).P) hp fo tv (zBv) (zAh (fun _ => rfl)) (fun v w h => (by subst h; exact OfK w (1) (by omega) (by omega)))
 ·exact lI 0 hp (mq 0 rfl) (sqo 2) fun us w hl h => zAu hl h
 ·exact zAl (F := (Fq.is (.int .i64 1)).P) hp fo tv (zBv) (zAh (fun _ => rfl)) (fun v w h => (by subst h; exact OfK w (1) (by omega) (by omega)))
 ·exact zLj (z0 := (1)) (z1 := ((S.fa - S.fb) / (2 * S.fa))) (z3 := (1)) hp fo tv (sqi 1) (sqi 2) (sqi 3) (fun v w h => h)
 ·intro hp; exact zI4 (G := (Fq.st [.n (1), .n ((S.fa - S.fb) / (2 * S.fa)), .n 0, .n (1)]).P) (zH1) (sqi 0) (sqi 4) trivial (fun v w E h => (by have hh := zJ6 E h ⟨(Int.lt_of_lt_of_le hB.out.1.1 (zAa (by omega))), (Int.lt_of_lt_of_le hB.out.1.2.1 (zAa (by omega))), (Int.lt_of_lt_of_le hB.out.1.2.2 (zAa (by omega))), (Int.lt_of_lt_of_le hB.out.2.1 (zAa (by omega))), (Int.lt_of_lt_of_le hB.out.2.2.1 (zAa (by omega))), (Int.lt_of_lt_of_le hB.out.2.2.2.1 (zAa (by omega))), (Int.lt_of_lt_of_le hB.out.2.2.2.2 (zAa (by omega)))⟩ ⟨(Int.lt_of_lt_of_le (zA7 (by decide)) (zAa (by omega))), (Int.lt_of_lt_of_le BQ.out (zAa (by omega))), (Int.lt_of_lt_of_le (zA7 (by decide)) (zAa (by omega))), (Int.lt_of_lt_of_le (zA7 (by decide)) (zAa (by omega)))⟩; rw [rsh_a, rsh_b, rsh_c] at hh; exact hh))
 intro L vs w6 hL E6
 have E := E6; try simp only [LM, zAc] at E
 rw [zAd hL]
 simp only [SP, Nat.zero_add, Nat.reduceAdd]
 generalize vs 0 = u6_0
 generalize vs 1 = u6_1
 generalize vs 2 = u6_2
 generalize vs 3 = u6_3
 generalize vs 4 = u6_4
 generalize vs 5 = u6_5
 clear E6 hL vs L
 clear HNE
 clear B1 B2 B3 B5 hB BQ
 exact bodyPost_end (results_none rfl _ _ _) rfl ⟨_, rfl, E.drop.drop⟩

set_option maxRecDepth 100000 in
set_option maxHeartbeats 4000000 in
theorem zKt {w : World} {v : Value} {a b c : Int} (h : (Fq.st [.n a, .n b, .n c]).P v w) (ha : ab a < pw 5) (hb : ab b < pw 5) (hc : ab c < pw 5) (hd : (b * b - 4 * (a * c)) < 0) (h0 : 0 < a) :
  Calls Try.prog 21 #[v] w fun e w' => ∃ v', e = .returned v' ∧ Below w.heap.size w w' ∧ (Fq.red (zBo a b c)).P v' w' := by
 replace ha := hidd ha
 replace hb := hidd hb
 replace hc := hidd hc
 have HD := hidd hd
 have HP := hidd h0
 have HC : Hid (redE a b c = 0) := zFm hd h0
 have HS0 := hidd ((RIn.one h0 hb.out hc.out).bds ha.out hc.out hd : RB ⟨1, 0, 0, 1, a, b, c⟩)
 clear hd h0
 obtain ⟨_, rfl, hf0⟩ := h
 have hF0 := hf0
 obtain ⟨y0_p0, y0_q0, _, rfl, _y0_n0, y0_p1, y0_q1, _, rfl, _y0_n1, y0_p2, y0_q2, _, rfl, _y0_n2, rfl⟩ := hf0
 obtain ⟨w1, b1, hw1, hb1, hs1, E⟩ := gS w 33 hF0
 obtain ⟨w2, b2, hw2, hb2, hs2, E⟩ := fO E hs1 33 zBd
 obtain ⟨w3, b3, hw3, hb3, hs3, E⟩ := fO E hs2 36 zB3
 go_enter Try.func21, Try.ntmps21
 go_upto_region 1 with (fail)
 rw [← hw1]
 rw [← hw2]
 rw [← hw3]
 rw [← hb3]
 rw [← hb2]
 rw [← hb1]
 clear hw1 hw2 hw3 hb1 hb2 hb3 hs3 hs1 hs2
 refine rg [Fq.st [.n a, .n b, .n c], Fq.is (.int .i64 0), Fq.is (.int .i64 0)] N3 [] E (fun hp => ⟨?_, ?_, ?_, tv⟩) ?_
 ·exact lS 0 6 hp (mq 2 rfl) zAo (sqo 1)
 ·exact wXa (Fq.st [.n a, .n b, .n c]) hp zDp (sqi 0) fun v w h => zDr h (Int.lt_of_lt_of_le ha.out (zAa (by omega))) (Int.lt_of_lt_of_le hb.out (zAa (by omega))) (Int.lt_of_lt_of_le hc.out (zAa (by omega))) HC.out
 ·exact zAi hp fo tv (sqi 1)
 intro L vs w4 nb hL hC hn E4
 have e1 := wXi hC 1
 have e2 := wXi hC 2
 have E := E4; try simp only [LM, zAc] at E
 rw [zAd hL]
 simp only [SP, Nat.zero_add, Nat.reduceAdd]
 rw [e1, e2]
 generalize vs 0 = u4_0
 clear e1 e2 hC hn E4 hL vs L nb
 go_upto_region 2 with (fail)
 refine rg [Fq.is (.int .i64 0), yF] N3 [] E (fun hp => ⟨?_, ?_, tv⟩) ?_
 ·exact zAb hp fo tv (sqo 5)
 ·exact zAf (F := fun v _ => v = .int .i64 0) hp fo tv (sqi 0) (fun ρ w hc h => ⟨.bool false, by simp [execOp, go_sem, h, hc], rfl⟩)
 intro L vs w5 nb hL hC hn E5
 have e0 := wXi hC 0
 have e1 := wXi hC 1
 have E := E5; try simp only [LM, zAc] at E
 rw [zAd hL]
 simp only [SP, Nat.zero_add, Nat.reduceAdd]
 rw [e0, e1]
 clear e0 e1 hC hn E5 hL vs L nb
 clear HC
 go_upto_region 4 with (fail)
 have B6 : Hid (ab ((1)) < pw 3) := zA7 (by decide)
 refine rg [Fq.st [.n a, .n b, .n c], Fq.num (1), Fq.num (1), Fq.st [.n (1), .n 0, .n 0, .n (1)], Fq.st [.n a, .n b, .n c, .n (1), .n 0, .n 0, .n (1)], Fq.any, Fq.any] N3 [⟨5, 6, 14, Fq.st [.n 0, .n 0, .n 0, .n 0, .n 0, .n 0, .n 0], Fq.st [.n a, .n b, .n c, .n (1), .n 0, .n 0, .n (1)], none⟩] E (fun hp => ⟨?_, ?_, ?_, ?_, ?_, ?_, ?_, tv⟩) ?_
 ·exact lS 0 6 hp (mq 2 rfl) zAo (sqo 1)
 ·exact zAl (F := (Fq.is (.int .i64 1)).P) hp fo tv (zBv) (zAh (fun _ => rfl)) (fun v w h => (by subst h; exact OfK w (1) (by omega) (by omega)))
 ·exact zAl (F := (Fq.is (.int .i64 1)).P) hp fo tv (zBv) (zAh (fun _ => rfl)) (fun v w h => (by subst h; exact OfK w (1) (by omega) (by omega)))
 ·exact zLk (z0 := (1)) (z3 := (1)) hp fo tv (sqi 1) (sqi 2) (fun v w h => h)
 ·exact zLm (z0_0 := a) (z0_1 := b) (z0_2 := c) (z1_0 := (1)) (z1_1 := 0) (z1_2 := 0) (z1_3 := (1)) hp fo tv (sqi 0) (sqi 3) (fun v w h => h)
 ·exact aS hp (mq 0 rfl) zK0 zLr
 ·exact sS 4 hp (mq 0 rfl) zL5
 intro L vs w7 nb hL hC hn E7
 have e5 : vs 5 = .pointer (some ⟨nb 5, 0, none⟩) := hn _ (mq 0 rfl)
 have E := E7; try simp only [LM, zAc] at E
 rw [zAd hL]
 simp only [SP, Nat.zero_add, Nat.reduceAdd]
 rw [e5]
 generalize nb 5 = b7_5 at E ⊢
 generalize vs 0 = u7_0
 generalize vs 1 = u7_1
 generalize vs 2 = u7_2
 generalize vs 3 = u7_3
 generalize vs 4 = u7_4
 clear e5 hC hn E7 hL vs L nb
 go_upto_region 5 with (fail)
 refine zEk (C := [Fq.any]) (ks := [none, none, none, none]) (bs' := [(b7_5, 14, Fq.st [.n ((rsh ⟨1, 0, 0, 1, a, b, c⟩).fa), .n ((rsh ⟨1, 0, 0, 1, a, b, c⟩).fb), .n ((rsh ⟨1, 0, 0, 1, a, b, c⟩).fc), .n ((rsh ⟨1, 0, 0, 1, a, b, c⟩).x1), .n ((rsh ⟨1, 0, 0, 1, a, b, c⟩).x2), .n ((rsh ⟨1, 0, 0, 1, a, b, c⟩).x3), .n ((rsh ⟨1, 0, 0, 1, a, b, c⟩).x4)]), (b3, 8, Fq.st [.n 0, .n 0, .n 0, .n 0]), (b2, 6, Fq.st [.n 0, .n 0, .n 0]), (b1, 6, Fq.st [.n a, .n b, .n c])]) 0 rfl rfl E rfl rfl (by kernel_rfl) rfl rfl rfl (fun hp => trivial) ?_ ?_
 ·intro hp; exact zGt  (zH2) (sqo 6) trivial (fun w E => zH3 (S := ⟨1, 0, 0, 1, a, b, c⟩) E HS0.out HP.out)
 intro L vs w8 hL E8
 have E := E8; try simp only [LM, zAc] at E
 rw [zAd hL]
 simp only [SP, Nat.zero_add, Nat.reduceAdd]
 generalize vs 0 = u8_0
 clear E8 hL vs L
 clear HS0
 have HE := hidd E
 clear E
 obtain ⟨W0, rfl⟩ : ∃ W0, W0 = w8 := ⟨_, rfl⟩
 go_wp2_with (fail)
 go_loopw [20] (fun _ W => ∃ P : RS, PIn a b c P ∧ Fr w [(b7_5, 14, Fq.st [.n P.fa, .n P.fb, .n P.fc, .n P.x1, .n P.x2, .n P.x3, .n P.x4]), (b3, 8, Fq.st [.n 0, .n 0, .n 0, .n 0]), (b2, 6, Fq.st [.n 0, .n 0, .n 0]), (b1, 6, Fq.st [.n a, .n b, .n c])] W) (fun _ W => frmMes W b7_5)
 case atStart => exact ⟨_, PIn.start HP.out hb.out hc.out, HE.out⟩
 case round =>
  clear HE
  obtain ⟨V2, rfl⟩ : ∃ V2, V2 = wr := ⟨_, rfl⟩
  obtain ⟨P, hI, E⟩ := hrel
  have HI := hidd hI
  have HBS := hidd (hI.at ha.out hb.out hc.out HD.out).1
  have HME := hidd (zH9 (bq_pre (E.box 0 rfl)))
  clear hI
  go_upto_region 6 with (fail)
  by_cases hr : redB P.fa P.fb P.fc = true
  ·have HR := hidd hr
   clear hr
   refine rg [ip b7_5 0, Fq.st [.n P.fa, .n P.fb, .n P.fc], yT, yF] N4 [] E (fun hp => ⟨?_, ?_, ?_, ?_, tv⟩) ?_
   ·exact qa b7_5 0 0 hp (sqo 6)
   ·exact lS 0 6 hp (mq 0 rfl) zAo (sqi 0)
   ·exact wXa (Fq.st [.n P.fa, .n P.fb, .n P.fc]) hp zF4 (sqi 1) fun v w h => zF6 h (Int.lt_of_lt_of_le HBS.out.1.1 (zAa (by omega))) (Int.lt_of_lt_of_le HBS.out.1.2.1 (zAa (by omega))) (Int.lt_of_lt_of_le HBS.out.1.2.2 (zAa (by omega))) HR.out
   ·exact zAf (F := fun v _ => v = .bool true) hp fo tv (sqi 2) (fun ρ w _ h => ⟨.bool false, by simp [execOp, go_sem, h], rfl⟩)
   intro L vs w9 nb hL hC hn E9
   have e0 := wXi hC 0
   have e2 := wXi hC 2
   have e3 := wXi hC 3
   have E := E9; try simp only [LM, zAc] at E
   rw [zAd hL]
   simp only [SP, Nat.zero_add, Nat.reduceAdd]
   rw [e0, e2, e3]
   generalize vs 1 = u9_1
   clear e0 e2 e3 hC hn E9 hL vs L nb
   go_upto_region 9 with (fail)
   refine rg [ip b7_5 0, Fq.st [.n P.fa, .n P.fb, .n P.fc], ip b7_5 6, Fq.st [.n P.x1, .n P.x2, .n P.x3, .n P.x4], Fq.any, Fq.any, Fq.is (.int .i64 0)] [none, some (5, Fq.st [.n P.x1, .n P.x2, .n P.x3, .n P.x4]), some (4, Fq.st [.n P.fa, .n P.fb, .n P.fc]), none] [] E (fun hp => ⟨?_, ?_, ?_, ?_, ?_, ?_, ?_, tv⟩) ?_
   ·exact qa b7_5 0 0 hp (sqo 6)
   ·exact lS 0 6 hp (mq 0 rfl) zAo (sqi 0)
   ·exact qa b7_5 0 6 hp (sqo 6)
   ·exact lS 6 8 hp (mq 0 rfl) zBw (sqi 2)
   ·exact sO 0 1 hp (mq 2 rfl) zA8 (sqo 2)
   ·exact sO 0 3 hp (mq 1 rfl) zBx (sqo 3)
   ·exact zAi hp fo tv (zAh (fun _ => rfl))
   intro L vs w10 nb hL hC hn E10
   have e0 := wXi hC 0
   have e2 := wXi hC 2
   have e6 := wXi hC 6
   have E := E10; try simp only [LM, zAc] at E
   rw [zAd hL]
   simp only [SP, Nat.zero_add, Nat.reduceAdd]
   rw [e0, e2, e6]
   generalize vs 1 = u10_1
   generalize vs 3 = u10_3
   clear e0 e2 e6 hC hn E10 hL vs L nb
   obtain ⟨_, _, hccr, hffr⟩ := zBn (E.box 2 rfl)
   have hPr := hffr
   obtain ⟨r_p0, r_q0, _, rfl, _r_n0, r_p1, r_q1, _, rfl, _r_n1, r_p2, r_q2, _, rfl, _r_n2, rfl⟩ := hffr
   have cr0 := hccr 0 (by simp)
   have cr1 := hccr 1 (by simp)
   have cr2 := hccr 2 (by simp)
   have cr3 := hccr 3 (by simp)
   have cr4 := hccr 4 (by simp)
   have cr5 := hccr 5 (by simp)
   simp only [List.getD_cons_zero, List.getD_cons_succ] at cr0 cr1 cr2 cr3 cr4 cr5
   clear hccr
   obtain ⟨_, _, hccq, hffq⟩ := zBn (E.box 1 rfl)
   have hPq := hffq
   obtain ⟨q_p0, q_q0, _, rfl, _q_n0, q_p1, q_q1, _, rfl, _q_n1, q_p2, q_q2, _, rfl, _q_n2, q_p3, q_q3, _, rfl, _q_n3, rfl⟩ := hffq
   have cq0 := hccq 0 (by simp)
   have cq1 := hccq 1 (by simp)
   have cq2 := hccq 2 (by simp)
   have cq3 := hccq 3 (by simp)
   have cq4 := hccq 4 (by simp)
   have cq5 := hccq 5 (by simp)
   have cq6 := hccq 6 (by simp)
   have cq7 := hccq 7 (by simp)
   simp only [List.getD_cons_zero, List.getD_cons_succ] at cq0 cq1 cq2 cq3 cq4 cq5 cq6 cq7
   clear hccq
   have hEnd := HI.out.red HR.out
   clear HI HME HR HD HP
   clear B6 ha hb hc HBS
   go_wp2
   refine bodyPost_ret (v := .tuple #[.agg #[r_p0, r_q0, r_p1, r_q1, r_p2, r_q2], .agg #[q_p0, q_q0, q_p1, q_q1, q_p2, q_q2, q_p3, q_q3], .int .i64 0]) ?_ rfl ⟨_, rfl, E.below, by rw [hEnd]; exact ⟨_, _, _, rfl, ⟨_, rfl, hPr⟩, ⟨_, rfl, hPq⟩, rfl⟩⟩
   simp [results, Try.results21, go_sem, cr0, cr1, cr2, cr3, cr4, cr5, cq0, cq1, cq2, cq3, cq4, cq5, cq6, cq7]
  ·have hr2 : P.red = false := Bool.eq_false_iff.2 hr
   obtain ⟨hN, hB2, hp2, hmm⟩ := HI.out.next ha.out hb.out hc.out HD.out hr2
   have HR := hidd (show redB P.fa P.fb P.fc = false from hr2)
   have HN := hidd hN
   have HBT := hidd hB2
   have HP2 := hidd hp2
   have HMM := hidd hmm
   clear hr hr2 hN hB2 hp2 hmm
   refine rg [ip b7_5 0, Fq.st [.n P.fa, .n P.fb, .n P.fc], yF, yT] N4 [] E (fun hp => ⟨?_, ?_, ?_, ?_, tv⟩) ?_
   ·exact qa b7_5 0 0 hp (sqo 6)
   ·exact lS 0 6 hp (mq 0 rfl) zAo (sqi 0)
   ·exact wXa (Fq.st [.n P.fa, .n P.fb, .n P.fc]) hp zF4 (sqi 1) fun v w h => zF6 h (Int.lt_of_lt_of_le HBS.out.1.1 (zAa (by omega))) (Int.lt_of_lt_of_le HBS.out.1.2.1 (zAa (by omega))) (Int.lt_of_lt_of_le HBS.out.1.2.2 (zAa (by omega))) HR.out
   ·exact zAf (F := fun v _ => v = .bool false) hp fo tv (sqi 2) (fun ρ w _ h => ⟨.bool true, by simp [execOp, go_sem, h], rfl⟩)
   intro L vs w11 nb hL hC hn E11
   have e0 := wXi hC 0
   have e2 := wXi hC 2
   have e3 := wXi hC 3
   have E := E11; try simp only [LM, zAc] at E
   rw [zAd hL]
   simp only [SP, Nat.zero_add, Nat.reduceAdd]
   rw [e0, e2, e3]
   generalize vs 1 = u11_1
   clear e0 e2 e3 hC hn E11 hL vs L nb
   go_upto_region 7 with (fail)
   refine zEk (C := [Fq.any]) (ks := [none, none, none, none]) (bs' := [(b7_5, 14, Fq.st [.n ((rsw P).fa), .n ((rsw P).fb), .n ((rsw P).fc), .n ((rsw P).x1), .n ((rsw P).x2), .n ((rsw P).x3), .n ((rsw P).x4)]), (b3, 8, Fq.st [.n 0, .n 0, .n 0, .n 0]), (b2, 6, Fq.st [.n 0, .n 0, .n 0]), (b1, 6, Fq.st [.n a, .n b, .n c])]) 0 rfl rfl E rfl rfl (by kernel_rfl) rfl rfl rfl (fun hp => trivial) ?_ ?_
   ·intro hp; exact zGt  (zJ2) (sqo 6) trivial (fun w E => exPSwap (S := P) E HBS.out)
   intro L vs w12 hL E12
   have E := E12; try simp only [LM, zAc] at E
   rw [zAd hL]
   simp only [SP, Nat.zero_add, Nat.reduceAdd]
   generalize vs 0 = u12_0
   clear E12 hL vs L
   go_upto_region 8 with (fail)
   refine zEk (C := [Fq.any]) (ks := [none, none, none, none]) (bs' := [(b7_5, 14, Fq.st [.n ((rsh (rsw P)).fa), .n ((rsh (rsw P)).fb), .n ((rsh (rsw P)).fc), .n ((rsh (rsw P)).x1), .n ((rsh (rsw P)).x2), .n ((rsh (rsw P)).x3), .n ((rsh (rsw P)).x4)]), (b3, 8, Fq.st [.n 0, .n 0, .n 0, .n 0]), (b2, 6, Fq.st [.n 0, .n 0, .n 0]), (b1, 6, Fq.st [.n a, .n b, .n c])]) 0 rfl rfl E rfl rfl (by kernel_rfl) rfl rfl rfl (fun hp => trivial) ?_ ?_
   ·intro hp; exact zGt  (zH2) (sqo 6) trivial (fun w E => zH3 (S := rsw P) E HBT.out HP2.out)
   intro L vs w13 hL E13
   have E := E13; try simp only [LM, zAc] at E
   rw [zAd hL]
   simp only [SP, Nat.zero_add, Nat.reduceAdd]
   generalize vs 0 = u13_0
   clear E13 hL vs L
   have hN := HN.out
   have hME := HME.out
   have hMM := HMM.out
   have hRo := HR.out
   have hM2 := zH9 (bq_pre (E.box 0 rfl))
   rw [hRo] at hME
   clear HME HI HR HN HP2 HMM HD HP
   clear B6 ha hb hc HBS HBT
   go_wp2
   go_roundw
   case rel => exact ⟨_, hN, E⟩
   case measure =>
    rw [hM2, hME]
    simpa using hMM

set_option maxRecDepth 100000 in
set_option maxHeartbeats 4000000 in
theorem zKu {w : World} {v : Value} {a b c : Int} (h : (Fq.st [.n a, .n b, .n c]).P v w) (ha : ab a < pw 5) (hb : ab b < pw 5) (hc : ab c < pw 5) {er : Int} (he : redE a b c = er) (hn : ¬ er = 0) :
  Calls Try.prog 21 #[v] w fun e w' => ∃ v', e = .returned v' ∧ Below w.heap.size w w' ∧ (Fq.tup3 (Fq.st [.n 0, .n 0, .n 0]) (Fq.st [.n 0, .n 0, .n 0, .n 0]) (Fq.is (.int .i64 er))).P v' w' := by
 replace ha := hidd ha
 replace hb := hidd hb
 replace hc := hidd hc
 have HC := hidd he
 have HN := hidd hn
 clear he hn
 obtain ⟨_, rfl, hf0⟩ := h
 have hF0 := hf0
 obtain ⟨y0_p0, y0_q0, _, rfl, _y0_n0, y0_p1, y0_q1, _, rfl, _y0_n1, y0_p2, y0_q2, _, rfl, _y0_n2, rfl⟩ := hf0
 obtain ⟨w1, b1, hw1, hb1, hs1, E⟩ := gS w 33 hF0
 obtain ⟨w2, b2, hw2, hb2, hs2, E⟩ := fO E hs1 33 zBd
 obtain ⟨w3, b3, hw3, hb3, hs3, E⟩ := fO E hs2 36 zB3
 go_enter Try.func21, Try.ntmps21
 go_upto_region 1 with (fail)
 rw [← hw1]
 rw [← hw2]
 rw [← hw3]
 rw [← hb3]
 rw [← hb2]
 rw [← hb1]
 clear hw1 hw2 hw3 hb1 hb2 hb3 hs3 hs1 hs2
 refine rg [Fq.st [.n a, .n b, .n c], Fq.is (.int .i64 er), Fq.is (.int .i64 er)] N3 [] E (fun hp => ⟨?_, ?_, ?_, tv⟩) ?_
 ·exact lS 0 6 hp (mq 2 rfl) zAo (sqo 1)
 ·exact wXa (Fq.st [.n a, .n b, .n c]) hp zDp (sqi 0) fun v w h => zDr h (Int.lt_of_lt_of_le ha.out (zAa (by omega))) (Int.lt_of_lt_of_le hb.out (zAa (by omega))) (Int.lt_of_lt_of_le hc.out (zAa (by omega))) HC.out
 ·exact zAi hp fo tv (sqi 1)
 intro L vs w4 nb hL hC hn E4
 have e1 := wXi hC 1
 have e2 := wXi hC 2
 have E := E4; try simp only [LM, zAc] at E
 rw [zAd hL]
 simp only [SP, Nat.zero_add, Nat.reduceAdd]
 rw [e1, e2]
 generalize vs 0 = u4_0
 clear e1 e2 hC hn E4 hL vs L nb
 go_upto_region 2 with (fail)
 refine rg [Fq.is (.int .i64 er), yT] N3 [] E (fun hp => ⟨?_, ?_, tv⟩) ?_
 ·exact zAb hp fo tv (sqo 5)
 ·exact zAf (F := fun v _ => v = .int .i64 er) hp fo tv (sqi 0) (fun ρ w hc h => ⟨.bool true, by simp [execOp, go_sem, h, hc, HN.out], rfl⟩)
 intro L vs w5 nb hL hC hn E5
 have e0 := wXi hC 0
 have e1 := wXi hC 1
 have E := E5; try simp only [LM, zAc] at E
 rw [zAd hL]
 simp only [SP, Nat.zero_add, Nat.reduceAdd]
 rw [e0, e1]
 clear e0 e1 hC hn E5 hL vs L nb
 go_upto_region 3 with (fail)
 refine rg [Fq.st [.n 0, .n 0, .n 0], Fq.st [.n 0, .n 0, .n 0, .n 0], Fq.is (.int .i64 er), Fq.any, Fq.any, Fq.is (.int .i64 er)] [some (4, Fq.st [.n 0, .n 0, .n 0, .n 0]), some (3, Fq.st [.n 0, .n 0, .n 0]), none] [] E (fun hp => ⟨?_, ?_, ?_, ?_, ?_, ?_, tv⟩) ?_
 ·exact zGr hp fo tv (fun v w h => h)
 ·exact zLi hp fo tv (fun v w h => h)
 ·exact zAb hp fo tv (sqo 5)
 ·exact sO 0 0 hp (mq 1 rfl) zA8 (sqo 2)
 ·exact sO 0 1 hp (mq 0 rfl) zBx (sqo 3)
 ·exact zAi hp fo tv (sqi 2)
 intro L vs w6 nb hL hC hn E6
 have e2 := wXi hC 2
 have e5 := wXi hC 5
 have E := E6; try simp only [LM, zAc] at E
 rw [zAd hL]
 simp only [SP, Nat.zero_add, Nat.reduceAdd]
 rw [e2, e5]
 generalize vs 0 = u6_0
 generalize vs 1 = u6_1
 clear e2 e5 hC hn E6 hL vs L nb
 clear HC HN
 obtain ⟨_, _, hccr, hffr⟩ := zBn (E.box 1 rfl)
 have hPr := hffr
 obtain ⟨r_p0, r_q0, _, rfl, _r_n0, r_p1, r_q1, _, rfl, _r_n1, r_p2, r_q2, _, rfl, _r_n2, rfl⟩ := hffr
 have cr0 := hccr 0 (by simp)
 have cr1 := hccr 1 (by simp)
 have cr2 := hccr 2 (by simp)
 have cr3 := hccr 3 (by simp)
 have cr4 := hccr 4 (by simp)
 have cr5 := hccr 5 (by simp)
 simp only [List.getD_cons_zero, List.getD_cons_succ] at cr0 cr1 cr2 cr3 cr4 cr5
 clear hccr
 obtain ⟨_, _, hccq, hffq⟩ := zBn (E.box 0 rfl)
 have hPq := hffq
 obtain ⟨q_p0, q_q0, _, rfl, _q_n0, q_p1, q_q1, _, rfl, _q_n1, q_p2, q_q2, _, rfl, _q_n2, q_p3, q_q3, _, rfl, _q_n3, rfl⟩ := hffq
 have cq0 := hccq 0 (by simp)
 have cq1 := hccq 1 (by simp)
 have cq2 := hccq 2 (by simp)
 have cq3 := hccq 3 (by simp)
 have cq4 := hccq 4 (by simp)
 have cq5 := hccq 5 (by simp)
 have cq6 := hccq 6 (by simp)
 have cq7 := hccq 7 (by simp)
 simp only [List.getD_cons_zero, List.getD_cons_succ] at cq0 cq1 cq2 cq3 cq4 cq5 cq6 cq7
 clear hccq
 clear ha hb hc
 go_wp2
 refine bodyPost_ret (v := .tuple #[.agg #[r_p0, r_q0, r_p1, r_q1, r_p2, r_q2], .agg #[q_p0, q_q0, q_p1, q_q1, q_p2, q_q2, q_p3, q_q3], .int .i64 er]) ?_ rfl ⟨_, rfl, E.below, _, _, _, rfl, ⟨_, rfl, hPr⟩, ⟨_, rfl, hPq⟩, rfl⟩
 simp [results, Try.results21, go_sem, cr0, cr1, cr2, cr3, cr4, cr5, cq0, cq1, cq2, cq3, cq4, cq5, cq6, cq7]

open Classical in
noncomputable def redT (a b c : Int) : RS := if redE a b c = 0 then zBo a b c else ⟨0, 0, 0, 0, 0, 0, 0⟩
theorem zG1 {a b c : Int} (h : redE a b c = 0) : redT a b c = zBo a b c := by unfold redT; rw [if_pos h]
theorem zG0 {a b c : Int} (h : ¬ redE a b c = 0) : redT a b c = ⟨0, 0, 0, 0, 0, 0, 0⟩ := by unfold redT; rw [if_neg h]
theorem redT_RB {a b c : Int} (ha : ab a < pw 5) (hb : ab b < pw 5) (hc : ab c < pw 5) : RB (redT a b c) := by
 by_cases h : redE a b c = 0
 ·rw [zG1 h]
  obtain ⟨hd, h0⟩ := zFl h
  exact (zJa ha hb hc hd h0).1.bds ha hc hd
 ·rw [zG0 h]
  have z : ∀ k, 1 ≤ k → ab (0 : Int) < pw k := fun k hk => Int.lt_of_lt_of_le (show ab (0 : Int) < pw 1 by decide) (zAa hk)
  exact ⟨⟨z _ (by omega), z _ (by omega), z _ (by omega)⟩, z _ (by omega), z _ (by omega), z _ (by omega), z _ (by omega)⟩
theorem redT_in {a b c : Int} (ha : ab a < pw 5) (hb : ab b < pw 5) (hc : ab c < pw 5) (h : redE a b c = 0) : Und a b c (redT a b c).x1 (redT a b c).x2 (redT a b c).x3 (redT a b c).x4 (redT a b c).fa (redT a b c).fb (redT a b c).fc ∧ Rdf (redT a b c).fa (redT a b c).fb (redT a b c).fc := by
 rw [zG1 h]
 obtain ⟨hd, h0⟩ := zFl h
 have h1 := zJa ha hb hc hd h0
 exact ⟨h1.1.u, h1.2⟩
theorem disc_opp (a b c : Int) : -b * -b - 4 * (a * c) = b * b - 4 * (a * c) := by rw [Int.neg_mul_neg]
theorem zI9 {a b c : Int} (h : redE a b c = 0) : redE a (-b) c = 0 := by
 obtain ⟨hd, h0⟩ := zFl h
 exact zFm (by rw [disc_opp]; exact hd) h0
noncomputable def invT (a b c : Int) : RS := if redE a b c = 0 then redT a (-b) c else ⟨0, 0, 0, 0, 0, 0, 0⟩
theorem zF7 {w : World} {v : Value} {a b c : Int} (h : (Fq.st [.n a, .n b, .n c]).P v w) (ha : ab a < pw 5) (hb : ab b < pw 5) (hc : ab c < pw 5) :
  Calls Try.prog 21 #[v] w fun e w' => ∃ v', e = .returned v' ∧ Below w.heap.size w w' ∧ (Fq.tup3 (Fq.st [.n (redT a b c).fa, .n (redT a b c).fb, .n (redT a b c).fc]) (Fq.st [.n (redT a b c).x1, .n (redT a b c).x2, .n (redT a b c).x3, .n (redT a b c).x4]) (Fq.is (.int .i64 (redE a b c)))).P v' w' := by
 by_cases he : redE a b c = 0
 ·rw [zG1 he, he]
  obtain ⟨hd, h0⟩ := zFl he
  exact zKt h ha hb hc hd h0
 ·rw [zG0 he]
  exact zKu h ha hb hc rfl he

set_option maxRecDepth 100000 in
set_option maxHeartbeats 4000000 in
theorem zKe {w : World} {v : Value} {a b c : Int} (h : (Fq.st [.n a, .n b, .n c]).P v w) (ha : ab a < pw 5) (hb : ab b < pw 5) (hc : ab c < pw 5) (hn : ¬ redE a b c = 0) :
  Calls Try.prog 41 #[v] w fun e w' => ∃ v', e = .returned v' ∧ Below w.heap.size w w' ∧ (Fq.tup2 (Fq.st [.n 0, .n 0, .n 0]) (Fq.is (.int .i64 (redE a b c)))).P v' w' := by
 replace ha := hidd ha
 replace hb := hidd hb
 replace hc := hidd hc
 have HC := hidd (rfl : redE a b c = redE a b c)
 have HN := hidd hn
 clear hn
 obtain ⟨_, rfl, hf0⟩ := h
 have hF0 := hf0
 obtain ⟨y0_p0, y0_q0, _, rfl, _y0_n0, y0_p1, y0_q1, _, rfl, _y0_n1, y0_p2, y0_q2, _, rfl, _y0_n2, rfl⟩ := hf0
 obtain ⟨w1, b1, hw1, hb1, hs1, E⟩ := gS w 33 hF0
 obtain ⟨w2, b2, hw2, hb2, hs2, E⟩ := fO E hs1 33 zBd
 go_enter Try.func41, Try.ntmps41
 go_upto_region 1 with (fail)
 rw [← hw1]
 rw [← hw2]
 rw [← hb2]
 rw [← hb1]
 clear hw1 hw2 hb1 hb2 hs2 hs1
 refine rg [Fq.st [.n a, .n b, .n c], Fq.is (.int .i64 (redE a b c)), Fq.is (.int .i64 (redE a b c))] N2 [] E (fun hp => ⟨?_, ?_, ?_, tv⟩) ?_
 ·exact lS 0 6 hp (mq 1 rfl) zAo (sqo 1)
 ·exact wXa (Fq.st [.n a, .n b, .n c]) hp zDp (sqi 0) fun v w h => zDr h (Int.lt_of_lt_of_le ha.out (zAa (by omega))) (Int.lt_of_lt_of_le hb.out (zAa (by omega))) (Int.lt_of_lt_of_le hc.out (zAa (by omega))) HC.out
 ·exact zAi hp fo tv (sqi 1)
 intro L vs w3 nb hL hC hn E3
 have e1 := wXi hC 1
 have e2 := wXi hC 2
 have E := E3; try simp only [LM, zAc] at E
 rw [zAd hL]
 simp only [SP, Nat.zero_add, Nat.reduceAdd]
 rw [e1, e2]
 generalize vs 0 = u3_0
 clear e1 e2 hC hn E3 hL vs L nb
 go_upto_region 2 with (fail)
 refine rg [Fq.is (.int .i64 (redE a b c)), yT] N2 [] E (fun hp => ⟨?_, ?_, tv⟩) ?_
 ·exact zAb hp fo tv (sqo 4)
 ·exact zAf (F := fun v _ => v = .int .i64 (redE a b c)) hp fo tv (sqi 0) (fun ρ w hc h => ⟨.bool true, by simp [execOp, go_sem, h, hc, HN.out], rfl⟩)
 intro L vs w4 nb hL hC hn E4
 have e0 := wXi hC 0
 have e1 := wXi hC 1
 have E := E4; try simp only [LM, zAc] at E
 rw [zAd hL]
 simp only [SP, Nat.zero_add, Nat.reduceAdd]
 rw [e0, e1]
 clear e0 e1 hC hn E4 hL vs L nb
 go_upto_region 3 with (fail)
 refine rg [Fq.st [.n 0, .n 0, .n 0], Fq.is (.int .i64 (redE a b c)), Fq.any, Fq.is (.int .i64 (redE a b c))] [some (2, Fq.st [.n 0, .n 0, .n 0]), none] [] E (fun hp => ⟨?_, ?_, ?_, ?_, tv⟩) ?_
 ·exact zGr hp fo tv (fun v w h => h)
 ·exact zAb hp fo tv (sqo 4)
 ·exact sO 0 0 hp (mq 0 rfl) zA8 (sqo 2)
 ·exact zAi hp fo tv (sqi 1)
 intro L vs w5 nb hL hC hn E5
 have e1 := wXi hC 1
 have e3 := wXi hC 3
 have E := E5; try simp only [LM, zAc] at E
 rw [zAd hL]
 simp only [SP, Nat.zero_add, Nat.reduceAdd]
 rw [e1, e3]
 generalize vs 0 = u5_0
 clear e1 e3 hC hn E5 hL vs L nb
 clear HC HN
 obtain ⟨_, _, hccr, hffr⟩ := zBn (E.box 0 rfl)
 have hPr := hffr
 obtain ⟨r_p0, r_q0, _, rfl, _r_n0, r_p1, r_q1, _, rfl, _r_n1, r_p2, r_q2, _, rfl, _r_n2, rfl⟩ := hffr
 have cr0 := hccr 0 (by simp)
 have cr1 := hccr 1 (by simp)
 have cr2 := hccr 2 (by simp)
 have cr3 := hccr 3 (by simp)
 have cr4 := hccr 4 (by simp)
 have cr5 := hccr 5 (by simp)
 simp only [List.getD_cons_zero, List.getD_cons_succ] at cr0 cr1 cr2 cr3 cr4 cr5
 clear hccr
 clear ha hb hc
 go_wp2
 refine bodyPost_ret (v := .tuple #[.agg #[r_p0, r_q0, r_p1, r_q1, r_p2, r_q2], .int .i64 (redE a b c)]) ?_ rfl ⟨_, rfl, E.below, _, _, rfl, ⟨_, rfl, hPr⟩, rfl⟩
 simp [results, Try.results41, go_sem, cr0, cr1, cr2, cr3, cr4, cr5]

set_option maxRecDepth 100000 in
set_option maxHeartbeats 4000000 in
theorem zKg {w : World} {v : Value} {a b c : Int} (h : (Fq.st [.n a, .n b, .n c]).P v w) (ha : ab a < pw 5) (hb : ab b < pw 5) (hc : ab c < pw 5) (he : redE a b c = 0) :
  Calls Try.prog 41 #[v] w fun e w' => ∃ v', e = .returned v' ∧ Below w.heap.size w w' ∧ (Fq.tup2 (Fq.st [.n (redT a (-b) c).fa, .n (redT a (-b) c).fb, .n (redT a (-b) c).fc]) (Fq.is (.int .i64 0))).P v' w' := by
 replace ha := hidd ha
 replace hb := hidd hb
 replace hc := hidd hc
 have HC := hidd he
 clear he
 obtain ⟨ng, hng⟩ : ∃ ng, ng = -b := ⟨_, rfl⟩
 have hngb : ab ng < pw 5 := by rw [hng]; unfold ab; rw [Int.natAbs_neg]; exact hb.out
 have BN := hidd hngb
 have HN := hidd hng
 have HRE : Hid (redE a ng c = 0) := by show _ = _; rw [HN.out]; exact zI9 HC.out
 obtain ⟨S, hS⟩ : ∃ S, S = redT a ng c := ⟨_, rfl⟩
 have BS := hidd (redT_RB ha.out hngb hc.out)
 rw [← hS] at BS
 have HS := hidd hS
 clear hng hngb hS
 obtain ⟨_, rfl, hf0⟩ := h
 have hF0 := hf0
 obtain ⟨y0_p0, y0_q0, _, rfl, _y0_n0, y0_p1, y0_q1, _, rfl, _y0_n1, y0_p2, y0_q2, _, rfl, _y0_n2, rfl⟩ := hf0
 obtain ⟨w1, b1, hw1, hb1, hs1, E⟩ := gS w 33 hF0
 obtain ⟨w2, b2, hw2, hb2, hs2, E⟩ := fO E hs1 33 zBd
 go_enter Try.func41, Try.ntmps41
 go_upto_region 1 with (fail)
 rw [← hw1]
 rw [← hw2]
 rw [← hb2]
 rw [← hb1]
 clear hw1 hw2 hb1 hb2 hs2 hs1
 refine rg [Fq.st [.n a, .n b, .n c], Fq.is (.int .i64 0), Fq.is (.int .i64 0)] N2 [] E (fun hp => ⟨?_, ?_, ?_, tv⟩) ?_
 ·exact lS 0 6 hp (mq 1 rfl) zAo (sqo 1)
 ·exact wXa (Fq.st [.n a, .n b, .n c]) hp zDp (sqi 0) fun v w h => zDr h (Int.lt_of_lt_of_le ha.out (zAa (by omega))) (Int.lt_of_lt_of_le hb.out (zAa (by omega))) (Int.lt_of_lt_of_le hc.out (zAa (by omega))) HC.out
 ·exact zAi hp fo tv (sqi 1)
 intro L vs w3 nb hL hC hn E3
 have e1 := wXi hC 1
 have e2 := wXi hC 2
 have E := E3; try simp only [LM, zAc] at E
 rw [zAd hL]
 simp only [SP, Nat.zero_add, Nat.reduceAdd]
 rw [e1, e2]
 generalize vs 0 = u3_0
 clear e1 e2 hC hn E3 hL vs L nb
 go_upto_region 2 with (fail)
 refine rg [Fq.is (.int .i64 0), yF] N2 [] E (fun hp => ⟨?_, ?_, tv⟩) ?_
 ·exact zAb hp fo tv (sqo 4)
 ·exact zAf (F := fun v _ => v = .int .i64 0) hp fo tv (sqi 0) (fun ρ w hc h => ⟨.bool false, by simp [execOp, go_sem, h, hc], rfl⟩)
 intro L vs w4 nb hL hC hn E4
 have e0 := wXi hC 0
 have e1 := wXi hC 1
 have E := E4; try simp only [LM, zAc] at E
 rw [zAd hL]
 simp only [SP, Nat.zero_add, Nat.reduceAdd]
 rw [e0, e1]
 clear e0 e1 hC hn E4 hL vs L nb
 go_upto_region 4 with (fail)
 refine rg [ip b1 2, Fq.num b, Fq.num ng, ip b1 2, Fq.any] [none, some (4, Fq.st [.n a, .n ng, .n c])] [] E (fun hp => ⟨?_, ?_, ?_, ?_, ?_, tv⟩) ?_
 ·exact qa b1 0 2 hp (sqo 1)
 ·exact zDb (off := 2) (l := 2) hp fo tv (mq 1 rfl) (.inr rfl) rfl zAe rfl (sqi 0) (fun v w h => zAz h)
 ·exact wXa (Fq.num b) hp enq_Neg (sqi 1) fun v w h => (by rw [HN.out]; exact exK (NegV h) (by rw [← HN.out]; exact BN.out) (by omega))
 ·exact qa b1 0 2 hp (sqo 1)
 ·exact zCr (off := 2) (fs := [.n a, .n b, .n c]) (gs := [.n ng]) (fs' := [.n a, .n ng, .n c]) hp (mq 1 rfl) rfl rfl rfl zEl rfl (sqi 3) (zBy 2 rfl rfl (by simp) rfl (fun v w h => zD6 h)) (fun _ _ => trivial) (zCd rfl)
 intro L vs w5 nb hL hC hn E5
 have e0 := wXi hC 0
 have e3 := wXi hC 3
 have E := E5; try simp only [LM, zAc] at E
 rw [zAd hL]
 simp only [SP, Nat.zero_add, Nat.reduceAdd]
 rw [e0, e3]
 generalize vs 1 = u5_1
 generalize vs 2 = u5_2
 clear e0 e3 hC hn E5 hL vs L nb
 go_upto_region 5 with (fail)
 refine rg [Fq.st [.n a, .n ng, .n c], Fq.tup3 (Fq.st [.n S.fa, .n S.fb, .n S.fc]) (Fq.st [.n S.x1, .n S.x2, .n S.x3, .n S.x4]) (Fq.is (.int .i64 0)), Fq.tup3 (Fq.st [.n S.fa, .n S.fb, .n S.fc]) (Fq.st [.n S.x1, .n S.x2, .n S.x3, .n S.x4]) (Fq.is (.int .i64 0)), Fq.st [.n S.fa, .n S.fb, .n S.fc], Fq.st [.n S.x1, .n S.x2, .n S.x3, .n S.x4], Fq.is (.int .i64 0), Fq.any, Fq.any, Fq.any, Fq.any, Fq.is (.int .i64 0)] N2 [⟨6, 8, 6, Fq.st [.n 0, .n 0, .n 0], Fq.st [.n S.fa, .n S.fb, .n S.fc], none⟩, ⟨7, 9, 8, Fq.st [.n 0, .n 0, .n 0, .n 0], Fq.st [.n S.x1, .n S.x2, .n S.x3, .n S.x4], none⟩] E (fun hp => ⟨?_, ?_, ?_, ?_, ?_, ?_, ?_, ?_, ?_, ?_, ?_, tv⟩) ?_
 ·exact lS 0 6 hp (mq 1 rfl) zAo (sqo 1)
 ·exact wXa (Fq.st [.n a, .n ng, .n c]) hp zF3 (sqi 0) fun v w h => (by have hh := zF7 h ha.out BN.out hc.out; rw [← HS.out, HRE.out] at hh; exact hh)
 ·exact zAb hp fo tv (sqi 1)
 ·exact zA6 hp fo tv (sqi 2) (fun v1 v2 v3 w h1 h2 h3 => ⟨_, rfl, h1⟩)
 ·exact zA6 hp fo tv (sqi 2) (fun v1 v2 v3 w h1 h2 h3 => ⟨_, rfl, h2⟩)
 ·exact zA6 hp fo tv (sqi 2) (fun v1 v2 v3 w h1 h2 h3 => ⟨_, rfl, h3⟩)
 ·exact aS hp (mq 0 rfl) zBd zCf
 ·exact aS hp (mq 1 rfl) zB3 zDu
 ·exact sS 3 hp (mq 0 rfl) zA8
 ·exact sS 4 hp (mq 1 rfl) zBx
 ·exact zAi hp fo tv (sqi 5)
 intro L vs w6 nb hL hC hn E6
 have e5 := wXi hC 5
 have e10 := wXi hC 10
 have e6 : vs 6 = .pointer (some ⟨nb 6, 0, none⟩) := hn _ (mq 0 rfl)
 have e7 : vs 7 = .pointer (some ⟨nb 7, 0, none⟩) := hn _ (mq 1 rfl)
 have E := E6; try simp only [LM, zAc] at E
 rw [zAd hL]
 simp only [SP, Nat.zero_add, Nat.reduceAdd]
 rw [e5, e10, e6, e7]
 generalize nb 6 = b6_6 at E ⊢
 generalize nb 7 = b6_7 at E ⊢
 generalize vs 0 = u6_0
 generalize vs 1 = u6_1
 generalize vs 2 = u6_2
 generalize vs 3 = u6_3
 generalize vs 4 = u6_4
 clear e5 e10 e6 e7 hC hn E6 hL vs L nb
 go_upto_region 6 with (fail)
 refine rg [Fq.st [.n S.fa, .n S.fb, .n S.fc], Fq.is (.int .i64 0), Fq.any, Fq.is (.int .i64 0)] [none, none, some (2, Fq.st [.n S.fa, .n S.fb, .n S.fc]), none] [] E (fun hp => ⟨?_, ?_, ?_, ?_, tv⟩) ?_
 ·exact lS 0 6 hp (mq 0 rfl) zAo (sqo 5)
 ·exact zAb hp fo tv (sqo 7)
 ·exact sO 0 0 hp (mq 2 rfl) zA8 (sqo 2)
 ·exact zAi hp fo tv (sqi 1)
 intro L vs w7 nb hL hC hn E7
 have e1 := wXi hC 1
 have e3 := wXi hC 3
 have E := E7; try simp only [LM, zAc] at E
 rw [zAd hL]
 simp only [SP, Nat.zero_add, Nat.reduceAdd]
 rw [e1, e3]
 generalize vs 0 = u7_0
 clear e1 e3 hC hn E7 hL vs L nb
 have hE := HS.out
 have hN2 := HN.out
 clear HC HN HRE HS
 rw [hN2] at hE
 obtain ⟨_, _, hccr, hffr⟩ := zBn (E.box 2 rfl)
 have hPr := hffr
 obtain ⟨r_p0, r_q0, _, rfl, _r_n0, r_p1, r_q1, _, rfl, _r_n1, r_p2, r_q2, _, rfl, _r_n2, rfl⟩ := hffr
 have cr0 := hccr 0 (by simp)
 have cr1 := hccr 1 (by simp)
 have cr2 := hccr 2 (by simp)
 have cr3 := hccr 3 (by simp)
 have cr4 := hccr 4 (by simp)
 have cr5 := hccr 5 (by simp)
 simp only [List.getD_cons_zero, List.getD_cons_succ] at cr0 cr1 cr2 cr3 cr4 cr5
 clear hccr
 clear ha hb hc BN BS
 rw [hE] at hPr
 go_wp2
 refine bodyPost_ret (v := .tuple #[.agg #[r_p0, r_q0, r_p1, r_q1, r_p2, r_q2], .int .i64 0]) ?_ rfl ⟨_, rfl, E.below, _, _, rfl, ⟨_, rfl, hPr⟩, rfl⟩
 simp [results, Try.results41, go_sem, cr0, cr1, cr2, cr3, cr4, cr5]

theorem zKf {w : World} {v : Value} {a b c : Int} (h : (Fq.st [.n a, .n b, .n c]).P v w) (ha : ab a < pw 5) (hb : ab b < pw 5) (hc : ab c < pw 5) :
  Calls Try.prog 41 #[v] w fun e w' => ∃ v', e = .returned v' ∧ Below w.heap.size w w' ∧ (Fq.tup2 (Fq.st [.n (invT a b c).fa, .n (invT a b c).fb, .n (invT a b c).fc]) (Fq.is (.int .i64 (redE a b c)))).P v' w' := by
 unfold invT
 by_cases he : redE a b c = 0
 ·rw [if_pos he, he]; exact zKg h ha hb hc he
 ·rw [if_neg he]; exact zKe h ha hb hc he

set_option maxRecDepth 100000 in
set_option maxHeartbeats 4000000 in
theorem exQTurn {w : World} {z s t : Int} (hz : 0 ≤ z ∧ z ≤ 255) (es : s = z % 8 - 3) (et : t = z / 8 % 8 - 4) :
  Calls Try.prog 33 #[.int .u8 z] w fun e w' => ∃ v', e = .returned v' ∧ Below w.heap.size w w' ∧ (Fq.st [.n s, .n (s * t - 1), .n 1, .n t]).P v' w' := by
 obtain ⟨r, hr⟩ : ∃ r, r = z % 8 := ⟨_, rfl⟩
 obtain ⟨d, hd⟩ : ∃ d, d = z / 8 := ⟨_, rfl⟩
 obtain ⟨q, hq⟩ : ∃ q, q = d % 8 := ⟨_, rfl⟩
 have hr0 : 0 ≤ r ∧ r < 8 := by omega
 have hd0 : 0 ≤ d ∧ d < 32 := by omega
 have hq0 : 0 ≤ q ∧ q < 8 := by omega
 have es2 : s = r - 3 := by rw [es, hr]
 have et2 : t = q - 4 := by rw [et, hq, hd]
 have C0 : Hid (Int.tmod z 8 = r) := by show _ = _; rw [Int.tmod_eq_emod_of_nonneg (by omega), hr]
 have C1 : Hid (Int.tdiv z 8 = d) := by show _ = _; rw [Int.tdiv_eq_ediv_of_nonneg (by omega), hd]
 have C2 : Hid (Int.tmod d 8 = q) := by show _ = _; rw [Int.tmod_eq_emod_of_nonneg (by omega), hq]
 have D0 : Hid (IntKind.u8.wrap r = r) := by show _ = _; simp [IntKind.wrap, IntKind.bits, IntKind.signed]; omega
 have D1 : Hid (IntKind.u8.wrap d = d) := by show _ = _; simp [IntKind.wrap, IntKind.bits, IntKind.signed]; omega
 have D2 : Hid (IntKind.u8.wrap q = q) := by show _ = _; simp [IntKind.wrap, IntKind.bits, IntKind.signed]; omega
 have I0 : Hid (IntKind.i64.wrap r = r) := IntWalk.i64_in _ (by omega)
 have I1 : Hid (IntKind.i64.wrap q = q) := IntWalk.i64_in _ (by omega)
 have E0 : Hid (IntKind.i64.wrap (r - 3) = s) := by show _ = _; rw [es2]; exact IntWalk.i64_in _ (by omega)
 have E1 : Hid (IntKind.i64.wrap (q - 4) = t) := by show _ = _; rw [et2]; exact IntWalk.i64_in _ (by omega)
 have RS1 : Hid (-9223372036854775808 ≤ s ∧ s ≤ 9223372036854775807) := by show _ ∧ _; omega
 have RT1 : Hid (-9223372036854775808 ≤ t ∧ t ≤ 9223372036854775807) := by show _ ∧ _; omega
 have BS : Hid (ab s < pw 3) := zAj RS1.out.1 RS1.out.2
 have BT : Hid (ab t < pw 3) := zAj RT1.out.1 RT1.out.2
 have BV : Hid (ab (s * t - 1) < pw 8) := zDd (zAy BS.out BT.out) (zAj (x := 1) (by decide) (by decide)) (by omega) (by omega)
 clear hr hd hq hr0 hd0 hq0 es2 et2 es et hz
 obtain ⟨w1, b1, hw1, hb1, hs1, E⟩ := zB9 w (F := Fq.st [.n 0, .n 0, .n 0, .n 0]) (us := [.bool false, .slice none 0 0, .bool false, .slice none 0 0, .bool false, .slice none 0 0, .bool false, .slice none 0 0]) 36 rfl (by simp) ((Fits.tame (zB3 w))) (zH8 _)
 go_enter Try.func33, Try.ntmps33
 go_upto_region 1 with (fail)
 rw [← hw1]
 rw [← hb1]
 clear hw1 hb1 hs1
 refine rg [Fq.is (.int .u8 z), Fq.is (.int .u8 r), Fq.is (.int .i64 r), Fq.is (.int .i64 s), Fq.st [.n 1, .n s, .n 0, .n 1], Fq.any, Fq.any] [none] [⟨5, 6, 8, Fq.st [.n 0, .n 0, .n 0, .n 0], Fq.st [.n 1, .n s, .n 0, .n 1], none⟩] E (fun hp => ⟨?_, ?_, ?_, ?_, ?_, ?_, ?_, tv⟩) ?_
 ·exact zAb hp fo tv (sqo 0)
 ·exact zAf (F := fun v _ => v = .int .u8 z) hp fo tv (sqi 0) (fun ρ w hc h => ⟨.int .u8 r, by simp [execOp, go_sem, h, hc, C0.out, D0.out], rfl⟩)
 ·exact zAf (F := fun v _ => v = .int .u8 r) hp fo tv (sqi 1) (fun ρ w hc h => ⟨.int .i64 r, by simp [execOp, go_sem, h, I0.out], rfl⟩)
 ·exact zAf (F := fun v _ => v = .int .i64 r) hp fo tv (sqi 2) (fun ρ w hc h => ⟨.int .i64 s, by simp [execOp, go_sem, h, hc, E0.out], rfl⟩)
 ·exact zC1 (F := (Fq.is (.int .i64 1)).P) (G := (Fq.is (.int .i64 s)).P) (F3 := (Fq.is (.int .i64 0)).P) (F4 := (Fq.is (.int .i64 1)).P) hp fo tv (zE2) (zAh (fun _ => rfl)) (sqi 3) (zAh (fun _ => rfl)) (zAh (fun _ => rfl)) (fun v v' u u' w h h' g g' => (by subst h h' g g'; exact zE7 (by decide) RS1.out (by decide) (by decide)))
 ·exact aS hp (mq 0 rfl) zB3 zDu
 ·exact sS 4 hp (mq 0 rfl) zBx
 intro L vs w2 nb hL hC hn E2
 have e0 := wXi hC 0
 have e1 := wXi hC 1
 have e2 := wXi hC 2
 have e3 := wXi hC 3
 have e5 : vs 5 = .pointer (some ⟨nb 5, 0, none⟩) := hn _ (mq 0 rfl)
 have E := E2; try simp only [LM, zAc] at E
 rw [zAd hL]
 simp only [SP, Nat.zero_add, Nat.reduceAdd]
 rw [e0, e1, e2, e3, e5]
 generalize nb 5 = b2_5 at E ⊢
 generalize vs 4 = u2_4
 clear e0 e1 e2 e3 e5 hC hn E2 hL vs L nb
 clear C0 I0 E0
 go_upto_region 2 with (fail)
 refine rg [Fq.st [.n 1, .n s, .n 0, .n 1], Fq.st [.n 0, .n (-1), .n 1, .n 0], Fq.st [.n s, .n (-1), .n 1, .n 0], Fq.is (.int .u8 z), Fq.is (.int .u8 d), Fq.is (.int .u8 q), Fq.is (.int .i64 q), Fq.is (.int .i64 t), Fq.st [.n 1, .n t, .n 0, .n 1], Fq.st [.n s, .n (s * t - 1), .n 1, .n t], Fq.any] [none, some (10, Fq.st [.n s, .n (s * t - 1), .n 1, .n t])] [] E (fun hp => ⟨?_, ?_, ?_, ?_, ?_, ?_, ?_, ?_, ?_, ?_, ?_, tv⟩) ?_
 ·exact lS 0 8 hp (mq 0 rfl) zBw (sqo 3)
 ·exact zC1 (F := (Fq.is (.int .i64 0)).P) (G := (Fq.is (.int .i64 (-1))).P) (F3 := (Fq.is (.int .i64 1)).P) (F4 := (Fq.is (.int .i64 0)).P) hp fo tv (zE2) (zAh (fun _ => rfl)) (zAh (fun _ => rfl)) (zAh (fun _ => rfl)) (zAh (fun _ => rfl)) (fun v v' u u' w h h' g g' => (by subst h h' g g'; exact zE7 (by decide) (by decide) (by decide) (by decide)))
 ·exact wXb (Fq.st [.n 1, .n s, .n 0, .n 1]) (Fq.st [.n 0, .n (-1), .n 1, .n 0]) hp zE3 (sqi 0) (sqi 1) fun v v' w h h' => (by have hh := zE8 h h' (Int.lt_of_lt_of_le (zAj (by decide) (by decide)) (zAa (by omega))) (Int.lt_of_lt_of_le BS.out (zAa (by omega))) (Int.lt_of_lt_of_le (zAj (by decide) (by decide)) (zAa (by omega))) (Int.lt_of_lt_of_le (zAj (by decide) (by decide)) (zAa (by omega))) (Int.lt_of_lt_of_le (zAj (by decide) (by decide)) (zAa (by omega))) (Int.lt_of_lt_of_le (zAj (by decide) (by decide)) (zAa (by omega))) (Int.lt_of_lt_of_le (zAj (by decide) (by decide)) (zAa (by omega))) (Int.lt_of_lt_of_le (zAj (by decide) (by decide)) (zAa (by omega))); rw [show (((1 * 0) + (s * 1)) : Int) = s by omega, show (((1 * (-1)) + (s * 0)) : Int) = (-1) by omega, show (((0 * 0) + (1 * 1)) : Int) = 1 by omega, show (((0 * (-1)) + (1 * 0)) : Int) = 0 by omega] at hh; exact hh)
 ·exact zAb hp fo tv (sqo 0)
 ·exact zAf (F := fun v _ => v = .int .u8 z) hp fo tv (sqi 3) (fun ρ w hc h => ⟨.int .u8 d, by simp [execOp, go_sem, h, hc, C1.out, D1.out], rfl⟩)
 ·exact zAf (F := fun v _ => v = .int .u8 d) hp fo tv (sqi 4) (fun ρ w hc h => ⟨.int .u8 q, by simp [execOp, go_sem, h, hc, C2.out, D2.out], rfl⟩)
 ·exact zAf (F := fun v _ => v = .int .u8 q) hp fo tv (sqi 5) (fun ρ w hc h => ⟨.int .i64 q, by simp [execOp, go_sem, h, I1.out], rfl⟩)
 ·exact zAf (F := fun v _ => v = .int .i64 q) hp fo tv (sqi 6) (fun ρ w hc h => ⟨.int .i64 t, by simp [execOp, go_sem, h, hc, E1.out], rfl⟩)
 ·exact zC1 (F := (Fq.is (.int .i64 1)).P) (G := (Fq.is (.int .i64 t)).P) (F3 := (Fq.is (.int .i64 0)).P) (F4 := (Fq.is (.int .i64 1)).P) hp fo tv (zE2) (zAh (fun _ => rfl)) (sqi 7) (zAh (fun _ => rfl)) (zAh (fun _ => rfl)) (fun v v' u u' w h h' g g' => (by subst h h' g g'; exact zE7 (by decide) RT1.out (by decide) (by decide)))
 ·exact wXb (Fq.st [.n s, .n (-1), .n 1, .n 0]) (Fq.st [.n 1, .n t, .n 0, .n 1]) hp zE3 (sqi 2) (sqi 8) fun v v' w h h' => (by have hh := zE8 h h' (Int.lt_of_lt_of_le BS.out (zAa (by omega))) (Int.lt_of_lt_of_le (zAj (by decide) (by decide)) (zAa (by omega))) (Int.lt_of_lt_of_le (zAj (by decide) (by decide)) (zAa (by omega))) (Int.lt_of_lt_of_le (zAj (by decide) (by decide)) (zAa (by omega))) (Int.lt_of_lt_of_le (zAj (by decide) (by decide)) (zAa (by omega))) (Int.lt_of_lt_of_le BT.out (zAa (by omega))) (Int.lt_of_lt_of_le (zAj (by decide) (by decide)) (zAa (by omega))) (Int.lt_of_lt_of_le (zAj (by decide) (by decide)) (zAa (by omega))); rw [show (((s * 1) + ((-1) * 0)) : Int) = s by omega, show (((s * t) + ((-1) * 1)) : Int) = (s * t - 1) by omega, show (((1 * 1) + (0 * 0)) : Int) = 1 by omega, show (((1 * t) + (0 * 1)) : Int) = t by omega] at hh; exact hh)
 ·exact sO 0 9 hp (mq 1 rfl) zBx (sqo 2)
 intro L vs w3 nb hL hC hn E3
 have e3 := wXi hC 3
 have e4 := wXi hC 4
 have e5 := wXi hC 5
 have e6 := wXi hC 6
 have e7 := wXi hC 7
 have E := E3; try simp only [LM, zAc] at E
 rw [zAd hL]
 simp only [SP, Nat.zero_add, Nat.reduceAdd]
 rw [e3, e4, e5, e6, e7]
 generalize vs 0 = u3_0
 generalize vs 1 = u3_1
 generalize vs 2 = u3_2
 generalize vs 8 = u3_8
 generalize vs 9 = u3_9
 clear e3 e4 e5 e6 e7 hC hn E3 hL vs L nb
 clear C1 D1 C2 D2 I1 E1 RS1 RT1
 obtain ⟨_, _, hc0, hf0⟩ := zBn (E.box 1 rfl)
 have hP0 := hf0
 obtain ⟨r0_p0, r0_q0, _, rfl, _r0_n0, r0_p1, r0_q1, _, rfl, _r0_n1, r0_p2, r0_q2, _, rfl, _r0_n2, r0_p3, r0_q3, _, rfl, _r0_n3, rfl⟩ := hf0
 have c0_0 := hc0 0 (by simp)
 have c0_1 := hc0 1 (by simp)
 have c0_2 := hc0 2 (by simp)
 have c0_3 := hc0 3 (by simp)
 have c0_4 := hc0 4 (by simp)
 have c0_5 := hc0 5 (by simp)
 have c0_6 := hc0 6 (by simp)
 have c0_7 := hc0 7 (by simp)
 simp only [List.getD_cons_zero, List.getD_cons_succ] at c0_0 c0_1 c0_2 c0_3 c0_4 c0_5 c0_6 c0_7
 clear hc0
 clear BS BT BV
 go_wp2
 refine bodyPost_ret (v := .agg #[r0_p0, r0_q0, r0_p1, r0_q1, r0_p2, r0_q2, r0_p3, r0_q3]) ?_ rfl ⟨_, rfl, E.below, ⟨_, rfl, hP0⟩⟩
 simp [results, Try.results33, go_sem, c0_0, c0_1, c0_2, c0_3, c0_4, c0_5, c0_6, c0_7]

def Fq.odd7 (n1 : Bool) (a1 : Option Addr) (k1 c1 : Nat) (xs1 : List Int) (n2 : Bool) (a2 : Option Addr) (k2 c2 : Nat) (xs2 : List Int) (n3 : Bool) (a3 : Option Addr) (k3 c3 : Nat) (xs3 : List Int) (n4 : Bool) (a4 : Option Addr) (k4 c4 : Nat) (xs4 : List Int) (n5 : Bool) (a5 : Option Addr) (k5 c5 : Nat) (xs5 : List Int) (n6 : Bool) (a6 : Option Addr) (k6 c6 : Nat) (xs6 : List Int) (n7 : Bool) (a7 : Option Addr) (k7 c7 : Nat) (xs7 : List Int) : Fq :=
 ⟨fun v w => v = .agg #[.bool n1, .slice a1 k1 c1, .bool n2, .slice a2 k2 c2, .bool n3, .slice a3 k3 c3, .bool n4, .slice a4 k4 c4, .bool n5, .slice a5 k5 c5, .bool n6, .slice a6 k6 c6, .bool n7, .slice a7 k7 c7] ∧ Sl w a1 k1 c1 xs1 ∧ Sl w a2 k2 c2 xs2 ∧ Sl w a3 k3 c3 xs3 ∧ Sl w a4 k4 c4 xs4 ∧ Sl w a5 k5 c5 xs5 ∧ Sl w a6 k6 c6 xs6 ∧ Sl w a7 k7 c7 xs7,
  fun h hb => ⟨h.1, h.2.1.mono hb, h.2.2.1.mono hb, h.2.2.2.1.mono hb, h.2.2.2.2.1.mono hb, h.2.2.2.2.2.1.mono hb, h.2.2.2.2.2.2.1.mono hb, h.2.2.2.2.2.2.2.mono hb⟩, fun h ha ht hl => ⟨h.1, h.2.1.putAt ha ht hl, h.2.2.1.putAt ha ht hl, h.2.2.2.1.putAt ha ht hl, h.2.2.2.2.1.putAt ha ht hl, h.2.2.2.2.2.1.putAt ha ht hl, h.2.2.2.2.2.2.1.putAt ha ht hl, h.2.2.2.2.2.2.2.putAt ha ht hl⟩⟩
theorem zJl (n1 : Bool) (a1 : Option Addr) (k1 c1 : Nat) (n2 : Bool) (a2 : Option Addr) (k2 c2 : Nat) (n3 : Bool) (a3 : Option Addr) (k3 c3 : Nat) (n4 : Bool) (a4 : Option Addr) (k4 c4 : Nat) (n5 : Bool) (a5 : Option Addr) (k5 c5 : Nat) (n6 : Bool) (a6 : Option Addr) (k6 c6 : Nat) (n7 : Bool) (a7 : Option Addr) (k7 c7 : Nat) : Tame [.bool n1, .slice a1 k1 c1, .bool n2, .slice a2 k2 c2, .bool n3, .slice a3 k3 c3, .bool n4, .slice a4 k4 c4, .bool n5, .slice a5 k5 c5, .bool n6, .slice a6 k6 c6, .bool n7, .slice a7 k7 c7] := by
 intro u hu q e
 simp at hu
 rcases hu with rfl | rfl | rfl | rfl | rfl | rfl | rfl | rfl | rfl | rfl | rfl | rfl | rfl | rfl <;> cases e
section
variable {n1 n2 n3 n4 n5 n6 n7 : Bool} {a1 a2 a3 a4 a5 a6 a7 : Option Addr} {k1 c1 k2 c2 k3 c3 k4 c4 k5 c5 k6 c6 k7 c7 : Nat} {xs1 xs2 xs3 xs4 xs5 xs6 xs7 : List Int}
theorem zGj {us : List Value} {w : World} (hl : us.length = 14) (h : (Fq.odd7 n1 a1 k1 c1 xs1 n2 a2 k2 c2 xs2 n3 a3 k3 c3 xs3 n4 a4 k4 c4 xs4 n5 a5 k5 c5 xs5 n6 a6 k6 c6 xs6 n7 a7 k7 c7 xs7).P (.agg us.toArray) w) : us = [.bool n1, .slice a1 k1 c1, .bool n2, .slice a2 k2 c2, .bool n3, .slice a3 k3 c3, .bool n4, .slice a4 k4 c4, .bool n5, .slice a5 k5 c5, .bool n6, .slice a6 k6 c6, .bool n7, .slice a7 k7 c7] ∧ Sl w a1 k1 c1 xs1 ∧ Sl w a2 k2 c2 xs2 ∧ Sl w a3 k3 c3 xs3 ∧ Sl w a4 k4 c4 xs4 ∧ Sl w a5 k5 c5 xs5 ∧ Sl w a6 k6 c6 xs6 ∧ Sl w a7 k7 c7 xs7 := by
 obtain ⟨e, h1⟩ := h
 injection e with e
 exact ⟨by simpa using congrArg Array.toList e, h1⟩
theorem ld_oq0 {us : List Value} {w : World} (hl : us.length = 14) (h : (Fq.odd7 n1 a1 k1 c1 xs1 n2 a2 k2 c2 xs2 n3 a3 k3 c3 xs3 n4 a4 k4 c4 xs4 n5 a5 k5 c5 xs5 n6 a6 k6 c6 xs6 n7 a7 k7 c7 xs7).P (.agg us.toArray) w) : (Fq.raw n1 a1 k1 c1 xs1).P (.agg #[us.getD 0 undef, us.getD (0 + 1) undef]) w := by
 obtain ⟨rfl, h1, h2, h3, h4, h5, h6, h7⟩ := zGj hl h
 exact ⟨rfl, h1⟩
theorem ld_oq1 {us : List Value} {w : World} (hl : us.length = 14) (h : (Fq.odd7 n1 a1 k1 c1 xs1 n2 a2 k2 c2 xs2 n3 a3 k3 c3 xs3 n4 a4 k4 c4 xs4 n5 a5 k5 c5 xs5 n6 a6 k6 c6 xs6 n7 a7 k7 c7 xs7).P (.agg us.toArray) w) : (Fq.raw n2 a2 k2 c2 xs2).P (.agg #[us.getD 2 undef, us.getD (2 + 1) undef]) w := by
 obtain ⟨rfl, h1, h2, h3, h4, h5, h6, h7⟩ := zGj hl h
 exact ⟨rfl, h2⟩
theorem ld_oq2 {us : List Value} {w : World} (hl : us.length = 14) (h : (Fq.odd7 n1 a1 k1 c1 xs1 n2 a2 k2 c2 xs2 n3 a3 k3 c3 xs3 n4 a4 k4 c4 xs4 n5 a5 k5 c5 xs5 n6 a6 k6 c6 xs6 n7 a7 k7 c7 xs7).P (.agg us.toArray) w) : (Fq.raw n3 a3 k3 c3 xs3).P (.agg #[us.getD 4 undef, us.getD (4 + 1) undef]) w := by
 obtain ⟨rfl, h1, h2, h3, h4, h5, h6, h7⟩ := zGj hl h
 exact ⟨rfl, h3⟩
end
theorem zLy : rowB 28 14 = true := by kernel_rfl
section
variable {os : List Oper} {Q : Exit → Act → World → Prop} {a : Act} {p : Pq} {B B0 : Nat} {w0 : World}
variable {i s : Nat} {d : Option Tmp} {ty : TypeId} {ps : String} {af : Array Edge} {gd : Option (Nat × Bool)}
theorem zLn {o : Ob} {T : Nat} {x : Operand} (hp : p.Ok B B0) (hF : p.Free i) (hg : GdQ os a p B B0 w0 af gd) (ho : o ∈ p.old) (hk : o.F1 = o.F0 ∨ zBe os 9 o.k i = true) (hT : rowB T o.m = true)
  (hx : SrcQ os a p B B0 w0 af x fun u _ => u = .pointer (some ⟨o.b, 0, none⟩)) (hC : ∀ (us : List Value) (w : World), us.length = o.m → o.F0.P (.agg us.toArray) w → (p.c i).P (.agg us.toArray) w) :
  zAm os Q a p B B0 w0 i { dst := d, op := .load T x, type := ty, pos := ps, after := af, guard := gd } := by
 refine zBf hp hF hg fun L vs w hG hL hc hd => ?_
 obtain ⟨us, hl, h0, hat, ht, hP⟩ := zDy ho hk hG hL hc
 have e := hx L vs w hG hd
 obtain ⟨⟨dd, hu, hd'⟩, hi⟩ := rowB_of hT
 refine ⟨.agg us.toArray, ?_, hC us w hl hP⟩
 have hr : w.rangeAt o.b 0 us := by
  intro j v hv
  have hj := (List.getElem?_eq_some_iff.1 hv).1
  rw [Nat.zero_add, (hat _ (by omega)).1, List.getD, hv]
  rfl
 have := run_loadVar_mid (P := Try.prog) w o.b 0 T _ dd hr hu hd' (by rw [hl]; exact hi)
 generalize (lay os.toArray L vs os.toArray.size a).eval = ρ at e
 simp only [execOp, e, Instr.loadAt, Instr.sureAddr, Sem.run_bind, Sem.run_pure, Result.andThen_ok, this]
end
set_option maxRecDepth 100000 in
set_option maxHeartbeats 4000000 in
theorem exQAny {w : World} {n1 n2 n3 n4 n5 n6 n7 : Bool} {a1 a2 a3 a4 a5 a6 a7 : Option Addr} {k1 c1 k2 c2 k3 c3 k4 c4 k5 c5 k6 c6 k7 c7 : Nat} {xs1 xs2 xs3 xs4 xs5 xs6 xs7 : List Int} (h1 : Sl w a1 k1 c1 xs1) (hk1 : k1 ≤ 9223372036854775807) (h2 : Sl w a2 k2 c2 xs2) (hk2 : k2 ≤ 9223372036854775807) (h3 : Sl w a3 k3 c3 xs3) (hk3 : k3 ≤ 9223372036854775807) (h4 : Sl w a4 k4 c4 xs4) (h5 : Sl w a5 k5 c5 xs5) (h6 : Sl w a6 k6 c6 xs6) (h7 : Sl w a7 k7 c7 xs7) :
  Calls Try.prog 10 #[.agg #[.bool n1, .slice a1 k1 c1, .bool n2, .slice a2 k2 c2, .bool n3, .slice a3 k3 c3, .bool n4, .slice a4 k4 c4, .bool n5, .slice a5 k5 c5, .bool n6, .slice a6 k6 c6, .bool n7, .slice a7 k7 c7]] w fun e w' => ∃ v', e = .returned v' ∧ Below w.heap.size w w' ∧ (Fq.st [.n (sgn n1 (val (xs1.take 2))), .n (sgn n2 (val (xs2.take 2))), .n (sgn n3 (val (xs3.take 2)))]).P v' w' := by
 obtain ⟨o1, eo1⟩ : ∃ z, z = sgn n1 (val (xs1.take 2)) := ⟨_, rfl⟩
 have Bo1 : Hid (ab o1 < pw 5) := by show _ < _; rw [eo1]; exact Int.lt_of_lt_of_le (Num.ofMade h1.digs) (zAa (by omega))
 have Eo1 := hidd eo1
 have HK1 := hidd hk1
 obtain ⟨o2, eo2⟩ : ∃ z, z = sgn n2 (val (xs2.take 2)) := ⟨_, rfl⟩
 have Bo2 : Hid (ab o2 < pw 5) := by show _ < _; rw [eo2]; exact Int.lt_of_lt_of_le (Num.ofMade h2.digs) (zAa (by omega))
 have Eo2 := hidd eo2
 have HK2 := hidd hk2
 obtain ⟨o3, eo3⟩ : ∃ z, z = sgn n3 (val (xs3.take 2)) := ⟨_, rfl⟩
 have Bo3 : Hid (ab o3 < pw 5) := by show _ < _; rw [eo3]; exact Int.lt_of_lt_of_le (Num.ofMade h3.digs) (zAa (by omega))
 have Eo3 := hidd eo3
 have HK3 := hidd hk3
 clear eo1 eo2 eo3 hk1 hk2 hk3
 obtain ⟨w1, b1, hw1, hb1, hs1, E⟩ := zB9 w (F := Fq.odd7 n1 a1 k1 c1 xs1 n2 a2 k2 c2 xs2 n3 a3 k3 c3 xs3 n4 a4 k4 c4 xs4 n5 a5 k5 c5 xs5 n6 a6 k6 c6 xs6 n7 a7 k7 c7 xs7) (us := [.bool n1, .slice a1 k1 c1, .bool n2, .slice a2 k2 c2, .bool n3, .slice a3 k3 c3, .bool n4, .slice a4 k4 c4, .bool n5, .slice a5 k5 c5, .bool n6, .slice a6 k6 c6, .bool n7, .slice a7 k7 c7]) 28 rfl (by simp) (zJl _ _ _ _ _ _ _ _ _ _ _ _ _ _ _ _ _ _ _ _ _ _ _ _ _ _ _ _) (show (Fq.odd7 n1 a1 k1 c1 xs1 n2 a2 k2 c2 xs2 n3 a3 k3 c3 xs3 n4 a4 k4 c4 xs4 n5 a5 k5 c5 xs5 n6 a6 k6 c6 xs6 n7 a7 k7 c7 xs7).P _ w from ⟨rfl, h1, h2, h3, h4, h5, h6, h7⟩)
 obtain ⟨w2, b2, hw2, hb2, hs2, E⟩ := fO E hs1 33 zBd
 go_enter Try.func10, Try.ntmps10
 go_upto_region 1 with (fail)
 rw [← hw1]
 rw [← hw2]
 rw [← hb2]
 rw [← hb1]
 clear hw1 hw2 hb1 hb2 hs2 hs1
 refine rg [ip b1 0, ip b1 0, Fq.raw n1 a1 k1 c1 xs1, Fq.num o1, ip b1 0, ip b1 2, Fq.raw n2 a2 k2 c2 xs2, Fq.num o2, ip b1 0, ip b1 4, Fq.raw n3 a3 k3 c3 xs3, Fq.num o3, Fq.st [.n o1, .n o2, .n o3], Fq.any] [some (13, Fq.st [.n o1, .n o2, .n o3]), none] [] E (fun hp => ⟨?_, ?_, ?_, ?_, ?_, ?_, ?_, ?_, ?_, ?_, ?_, ?_, ?_, ?_, tv⟩) ?_
 ·exact qa b1 0 0 hp (sqo 1)
 ·exact zAf (F := fun v _ => v = .pointer (some ⟨b1, 0, none⟩)) hp fo tv (sqi 0) (fun ρ w hc h => ⟨.pointer (some ⟨b1, 0, none⟩), by simp [execOp, go_sem, h, hc], rfl⟩)
 ·exact zGu (off := 0) hp fo tv (mq 1 rfl) (.inl rfl) (Nat.le_of_ble_eq_true rfl) (sqi 1) (fun us w hl h => ld_oq0 hl h)
 ·exact zBs (F := (Fq.raw n1 a1 k1 c1 xs1).P) (G := (Fq.is (.int .i64 2)).P) hp fo tv (zF1) (sqi 2) (zAh (fun _ => rfl)) (fun v v' w h h' => (by rw [Eo1.out]; exact zF9 (j := 2) h h' HK1.out (by omega)))
 ·exact qa b1 0 0 hp (sqo 1)
 ·exact zAf (F := fun v _ => v = .pointer (some ⟨b1, 0, none⟩)) hp fo tv (sqi 4) (fun ρ w hc h => ⟨.pointer (some ⟨b1, 2, none⟩), by simp [execOp, go_sem, h, hc], rfl⟩)
 ·exact zGu (off := 2) hp fo tv (mq 1 rfl) (.inl rfl) (Nat.le_of_ble_eq_true rfl) (sqi 5) (fun us w hl h => ld_oq1 hl h)
 ·exact zBs (F := (Fq.raw n2 a2 k2 c2 xs2).P) (G := (Fq.is (.int .i64 2)).P) hp fo tv (zF1) (sqi 6) (zAh (fun _ => rfl)) (fun v v' w h h' => (by rw [Eo2.out]; exact zF9 (j := 2) h h' HK2.out (by omega)))
 ·exact qa b1 0 0 hp (sqo 1)
 ·exact zAf (F := fun v _ => v = .pointer (some ⟨b1, 0, none⟩)) hp fo tv (sqi 8) (fun ρ w hc h => ⟨.pointer (some ⟨b1, 4, none⟩), by simp [execOp, go_sem, h, hc], rfl⟩)
 ·exact zGu (off := 4) hp fo tv (mq 1 rfl) (.inl rfl) (Nat.le_of_ble_eq_true rfl) (sqi 9) (fun us w hl h => ld_oq2 hl h)
 ·exact zBs (F := (Fq.raw n3 a3 k3 c3 xs3).P) (G := (Fq.is (.int .i64 2)).P) hp fo tv (zF1) (sqi 10) (zAh (fun _ => rfl)) (fun v v' w h h' => (by rw [Eo3.out]; exact zF9 (j := 2) h h' HK3.out (by omega)))
 ·exact zEi (z0 := o1) (z1 := o2) (z2 := o3) hp fo tv (sqi 3) (sqi 7) (sqi 11) (fun v w h => h)
 ·exact sO 0 12 hp (mq 0 rfl) zA8 (sqo 2)
 intro L vs w3 nb hL hC hn E3
 have e0 := wXi hC 0
 have e1 := wXi hC 1
 have e4 := wXi hC 4
 have e5 := wXi hC 5
 have e8 := wXi hC 8
 have e9 := wXi hC 9
 have E := E3; try simp only [LM, zAc] at E
 rw [zAd hL]
 simp only [SP, Nat.zero_add, Nat.reduceAdd]
 rw [e0, e1, e4, e5, e8, e9]
 generalize vs 2 = u3_2
 generalize vs 3 = u3_3
 generalize vs 6 = u3_6
 generalize vs 7 = u3_7
 generalize vs 10 = u3_10
 generalize vs 11 = u3_11
 generalize vs 12 = u3_12
 clear e0 e1 e4 e5 e8 e9 hC hn E3 hL vs L nb
 have eo1 := Eo1.out
 have eo2 := Eo2.out
 have eo3 := Eo3.out
 clear Eo1 Eo2 Eo3 HK1 HK2 HK3
 obtain ⟨_, _, hc0, hf0⟩ := zBn (E.box 0 rfl)
 have hP0 := hf0
 obtain ⟨r0_p0, r0_q0, _, rfl, _r0_n0, r0_p1, r0_q1, _, rfl, _r0_n1, r0_p2, r0_q2, _, rfl, _r0_n2, rfl⟩ := hf0
 have c0_0 := hc0 0 (by simp)
 have c0_1 := hc0 1 (by simp)
 have c0_2 := hc0 2 (by simp)
 have c0_3 := hc0 3 (by simp)
 have c0_4 := hc0 4 (by simp)
 have c0_5 := hc0 5 (by simp)
 simp only [List.getD_cons_zero, List.getD_cons_succ] at c0_0 c0_1 c0_2 c0_3 c0_4 c0_5
 clear hc0
 clear Bo1 Bo2 Bo3
 rw [eo1, eo2, eo3] at hP0
 go_wp2
 refine bodyPost_ret (v := .agg #[r0_p0, r0_q0, r0_p1, r0_q1, r0_p2, r0_q2]) ?_ rfl ⟨_, rfl, E.below, ⟨_, rfl, hP0⟩⟩
 simp [results, Try.results10, go_sem, c0_0, c0_1, c0_2, c0_3, c0_4, c0_5]

theorem zJy (args : Array Value) (w : World) : (callFunc 9 args).run Try.prog w = .ok (.enter 9 args) w := zAq Try.func9 (by kernel_rfl) rfl args w
theorem redT_eq {a b c p q r s a' b' c' : Int} (ha : ab a < pw 5) (hb : ab b < pw 5) (hc : ab c < pw 5) (h : redE a b c = 0) (hu : Und a b c p q r s a' b' c') (hr : Rdf a' b' c') : (redT a b c).fa = a' ∧ (redT a b c).fb = b' ∧ (redT a b c).fc = c' := by
 obtain ⟨h1, h2⟩ := redT_in ha hb hc h
 exact Und.same hu h1 hr h2
theorem lit5 {z : Int} (h : -9223372036854775808 ≤ z) (h' : z ≤ 9223372036854775807) : ab z < pw 5 := Int.lt_of_lt_of_le (zAj h h') (zAa (by omega))
theorem red_ex : redE 10 34 29 = 0 ∧ ((redT 10 34 29).fa = 1 ∧ (redT 10 34 29).fb = 0 ∧ (redT 10 34 29).fc = 1) ∧ (redT 10 34 29).x1 * (redT 10 34 29).x4 - (redT 10 34 29).x2 * (redT 10 34 29).x3 = 1 := by
 have h : redE 10 34 29 = 0 := zFm (by decide) (by decide)
 have ha : ab (10 : Int) < pw 5 := lit5 (by decide) (by decide)
 have hb : ab (34 : Int) < pw 5 := lit5 (by decide) (by decide)
 have hc : ab (29 : Int) < pw 5 := lit5 (by decide) (by decide)
 exact ⟨h, redT_eq (p := -2) (q := 5) (r := 1) (s := -3) ha hb hc h ⟨by decide, by decide, by decide, by decide⟩ ⟨by decide, by decide, by decide, by decide, by decide⟩, (redT_in ha hb hc h).1.d⟩
theorem inv_ex : redE 2 1 3 = 0 ∧ ((invT 2 1 3).fa = 2 ∧ (invT 2 1 3).fb = -1 ∧ (invT 2 1 3).fc = 3) := by
 have h : redE 2 1 3 = 0 := zFm (by decide) (by decide)
 refine ⟨h, ?_⟩
 unfold invT
 rw [if_pos h]
 exact redT_eq (lit5 (by decide) (by decide)) (lit5 (by decide) (by decide)) (lit5 (by decide) (by decide)) (zI9 h) (Und.one 2 (-1) 3) ⟨by decide, by decide, by decide, by decide, by decide⟩
theorem ind_ex : redE 1 0 (-2) = 5 ∧ redT 1 0 (-2) = ⟨0, 0, 0, 0, 0, 0, 0⟩ := by
 have h : redE 1 0 (-2) = 5 := by decide
 exact ⟨h, zG0 (by rw [h]; decide)⟩
set_option maxRecDepth 100000 in
set_option maxHeartbeats 4000000 in
theorem zJ4 (w : World) :
  Calls Try.prog 9 #[] w fun e w' => ∃ v', e = .returned v' ∧ Below w.heap.size w w' ∧ v' = .bool true := by
 obtain ⟨S, hS⟩ : ∃ S, S = redT 10 34 29 := ⟨_, rfl⟩
 have hre := red_ex
 rw [← hS] at hre
 have HS := hidd hS
 have HR0 := hidd hre.1
 have HRA := hidd hre.2.1.1
 have HRB := hidd hre.2.1.2.1
 have HRC := hidd hre.2.1.2.2
 have HRD := hidd hre.2.2
 have BS := hidd (redT_RB (a := 10) (b := 34) (c := 29) (lit5 (by decide) (by decide)) (lit5 (by decide) (by decide)) (lit5 (by decide) (by decide)))
 rw [← hS] at BS
 clear hS hre
 go_enter Try.func9, Try.ntmps9
 go_upto_region 1 with (fail)
 have E := Fr.start w
 refine rg [Fq.st [.n 2, .n 1, .n 3], Fq.any, Fq.any] [] [⟨1, 2, 6, Fq.st [.n 0, .n 0, .n 0], Fq.st [.n 2, .n 1, .n 3], none⟩] E (fun hp => ⟨?_, ?_, ?_, tv⟩) ?_
 ·exact zCn (F := (Fq.is (.int .i64 2)).P) (G := (Fq.is (.int .i64 1)).P) (F3 := (Fq.is (.int .i64 3)).P) hp fo tv (zCw) (zAh (fun _ => rfl)) (zAh (fun _ => rfl)) (zAh (fun _ => rfl)) (fun v v' u w h h' g => (by subst h h' g; exact zCx (by decide) (by decide) (by decide)))
 ·exact aS hp (mq 0 rfl) zBd zCf
 ·exact sS 0 hp (mq 0 rfl) zA8
 intro L vs w1 nb hL hC hn E1
 have e1 : vs 1 = .pointer (some ⟨nb 1, 0, none⟩) := hn _ (mq 0 rfl)
 have E := E1; try simp only [LM, zAc] at E
 rw [zAd hL]
 simp only [SP, Nat.zero_add, Nat.reduceAdd]
 rw [e1]
 generalize nb 1 = b1_1 at E ⊢
 generalize vs 0 = u1_0
 clear e1 hC hn E1 hL vs L nb
 go_upto_region 2 with (fail)
 refine rg [Fq.st [.n 10, .n 34, .n 29], Fq.tup3 (Fq.st [.n 1, .n 0, .n 1]) (Fq.st [.n S.x1, .n S.x2, .n S.x3, .n S.x4]) (Fq.is (.int .i64 0)), Fq.tup3 (Fq.st [.n 1, .n 0, .n 1]) (Fq.st [.n S.x1, .n S.x2, .n S.x3, .n S.x4]) (Fq.is (.int .i64 0)), Fq.st [.n 1, .n 0, .n 1], Fq.st [.n S.x1, .n S.x2, .n S.x3, .n S.x4], Fq.is (.int .i64 0), Fq.any, Fq.any, Fq.any, Fq.any, Fq.is (.int .i64 0)] [none] [⟨6, 8, 6, Fq.st [.n 0, .n 0, .n 0], Fq.st [.n 1, .n 0, .n 1], none⟩, ⟨7, 9, 8, Fq.st [.n 0, .n 0, .n 0, .n 0], Fq.st [.n S.x1, .n S.x2, .n S.x3, .n S.x4], none⟩] E (fun hp => ⟨?_, ?_, ?_, ?_, ?_, ?_, ?_, ?_, ?_, ?_, ?_, tv⟩) ?_
 ·exact zCn (F := (Fq.is (.int .i64 10)).P) (G := (Fq.is (.int .i64 34)).P) (F3 := (Fq.is (.int .i64 29)).P) hp fo tv (zCw) (zAh (fun _ => rfl)) (zAh (fun _ => rfl)) (zAh (fun _ => rfl)) (fun v v' u w h h' g => (by subst h h' g; exact zCx (by decide) (by decide) (by decide)))
 ·exact wXa (Fq.st [.n 10, .n 34, .n 29]) hp zF3 (sqi 0) fun v w h => (by have hh := zF7 h (lit5 (by decide) (by decide)) (lit5 (by decide) (by decide)) (lit5 (by decide) (by decide)); rw [← HS.out, HR0.out, HRA.out, HRB.out, HRC.out] at hh; exact hh)
 ·exact zAb hp fo tv (sqi 1)
 ·exact zA6 hp fo tv (sqi 2) (fun v1 v2 v3 w h1 h2 h3 => ⟨_, rfl, h1⟩)
 ·exact zA6 hp fo tv (sqi 2) (fun v1 v2 v3 w h1 h2 h3 => ⟨_, rfl, h2⟩)
 ·exact zA6 hp fo tv (sqi 2) (fun v1 v2 v3 w h1 h2 h3 => ⟨_, rfl, h3⟩)
 ·exact aS hp (mq 0 rfl) zBd zCf
 ·exact aS hp (mq 1 rfl) zB3 zDu
 ·exact sS 3 hp (mq 0 rfl) zA8
 ·exact sS 4 hp (mq 1 rfl) zBx
 ·exact zAi hp fo tv (sqi 5)
 intro L vs w2 nb hL hC hn E2
 have e5 := wXi hC 5
 have e10 := wXi hC 10
 have e6 : vs 6 = .pointer (some ⟨nb 6, 0, none⟩) := hn _ (mq 0 rfl)
 have e7 : vs 7 = .pointer (some ⟨nb 7, 0, none⟩) := hn _ (mq 1 rfl)
 have E := E2; try simp only [LM, zAc] at E
 rw [zAd hL]
 simp only [SP, Nat.zero_add, Nat.reduceAdd]
 rw [e5, e10, e6, e7]
 generalize nb 6 = b2_6 at E ⊢
 generalize nb 7 = b2_7 at E ⊢
 generalize vs 0 = u2_0
 generalize vs 1 = u2_1
 generalize vs 2 = u2_2
 generalize vs 3 = u2_3
 generalize vs 4 = u2_4
 clear e5 e10 e6 e7 hC hn E2 hL vs L nb
 go_upto_region 3 with (fail)
 refine rg [Fq.st [.n 2, .n 1, .n 3], Fq.tup2 (Fq.st [.n 2, .n (-1), .n 3]) (Fq.is (.int .i64 0)), Fq.tup2 (Fq.st [.n 2, .n (-1), .n 3]) (Fq.is (.int .i64 0)), Fq.st [.n 2, .n (-1), .n 3], Fq.is (.int .i64 0), Fq.any, Fq.any, Fq.is (.int .i64 0)] N3 [⟨5, 6, 6, Fq.st [.n 0, .n 0, .n 0], Fq.st [.n 2, .n (-1), .n 3], none⟩] E (fun hp => ⟨?_, ?_, ?_, ?_, ?_, ?_, ?_, ?_, tv⟩) ?_
 ·exact lS 0 6 hp (mq 2 rfl) zAo (sqo 1)
 ·exact wXa (Fq.st [.n 2, .n 1, .n 3]) hp zJ1 (sqi 0) fun v w h => (by have hh := zKf h (lit5 (by decide) (by decide)) (lit5 (by decide) (by decide)) (lit5 (by decide) (by decide)); rw [inv_ex.1, inv_ex.2.1, inv_ex.2.2.1, inv_ex.2.2.2] at hh; exact hh)
 ·exact zAb hp fo tv (sqi 1)
 ·exact zDa hp fo tv (sqi 2) (fun v1 v2 w h1 h2 => ⟨_, rfl, h1⟩)
 ·exact zDa hp fo tv (sqi 2) (fun v1 v2 w h1 h2 => ⟨_, rfl, h2⟩)
 ·exact aS hp (mq 0 rfl) zBd zCf
 ·exact sS 3 hp (mq 0 rfl) zA8
 ·exact zAi hp fo tv (sqi 4)
 intro L vs w3 nb hL hC hn E3
 have e4 := wXi hC 4
 have e7 := wXi hC 7
 have e5 : vs 5 = .pointer (some ⟨nb 5, 0, none⟩) := hn _ (mq 0 rfl)
 have E := E3; try simp only [LM, zAc] at E
 rw [zAd hL]
 simp only [SP, Nat.zero_add, Nat.reduceAdd]
 rw [e4, e7, e5]
 generalize nb 5 = b3_5 at E ⊢
 generalize vs 0 = u3_0
 generalize vs 1 = u3_1
 generalize vs 2 = u3_2
 generalize vs 3 = u3_3
 clear e4 e7 e5 hC hn E3 hL vs L nb
 go_upto_region 4 with (fail)
 have B4 : Hid (ab ((-23)) < pw 3) := zA7 (by decide)
 refine rg [Fq.num (-23), Fq.tup2 (Fq.st [.n 1, .n 1, .n 6]) (Fq.is (.int .i64 0)), Fq.tup2 (Fq.st [.n 1, .n 1, .n 6]) (Fq.is (.int .i64 0)), Fq.st [.n 1, .n 1, .n 6], Fq.is (.int .i64 0), Fq.any, Fq.any, Fq.is (.int .i64 0)] N4 [⟨5, 6, 6, Fq.st [.n 0, .n 0, .n 0], Fq.st [.n 1, .n 1, .n 6], none⟩] E (fun hp => ⟨?_, ?_, ?_, ?_, ?_, ?_, ?_, ?_, tv⟩) ?_
 ·exact zAl (F := (Fq.is (.int .i64 (-23))).P) hp fo tv (zBp) (zAh (fun _ => rfl)) (fun v w h => (by subst h; exact rOfK w (-23) (by omega) (by omega)))
 ·exact wXa (Fq.num (-23)) hp zF2 (sqi 0) fun v w h => (by have hh := zH4 h (Int.lt_of_lt_of_le B4.out (zAa (by omega))) (by decide) (by decide); rw [show ((-23 : Int) % 4) = 1 by decide, show (-((-23 : Int) / 4)) = 6 by decide] at hh; exact hh)
 ·exact zAb hp fo tv (sqi 1)
 ·exact zDa hp fo tv (sqi 2) (fun v1 v2 w h1 h2 => ⟨_, rfl, h1⟩)
 ·exact zDa hp fo tv (sqi 2) (fun v1 v2 w h1 h2 => ⟨_, rfl, h2⟩)
 ·exact aS hp (mq 0 rfl) zBd zCf
 ·exact sS 3 hp (mq 0 rfl) zA8
 ·exact zAi hp fo tv (sqi 4)
 intro L vs w5 nb hL hC hn E5
 have e4 := wXi hC 4
 have e7 := wXi hC 7
 have e5 : vs 5 = .pointer (some ⟨nb 5, 0, none⟩) := hn _ (mq 0 rfl)
 have E := E5; try simp only [LM, zAc] at E
 rw [zAd hL]
 simp only [SP, Nat.zero_add, Nat.reduceAdd]
 rw [e4, e7, e5]
 generalize nb 5 = b5_5 at E ⊢
 generalize vs 0 = u5_0
 generalize vs 1 = u5_1
 generalize vs 2 = u5_2
 generalize vs 3 = u5_3
 clear e4 e7 e5 hC hn E5 hL vs L nb
 go_upto_region 5 with (fail)
 have B6 : Hid (ab ((-20)) < pw 3) := zA7 (by decide)
 refine rg [Fq.num (-20), Fq.tup2 (Fq.st [.n 1, .n 0, .n 5]) (Fq.is (.int .i64 0)), Fq.tup2 (Fq.st [.n 1, .n 0, .n 5]) (Fq.is (.int .i64 0)), Fq.st [.n 1, .n 0, .n 5], Fq.is (.int .i64 0), Fq.any, Fq.any, Fq.is (.int .i64 0)] N5 [⟨5, 6, 6, Fq.st [.n 0, .n 0, .n 0], Fq.st [.n 1, .n 0, .n 5], none⟩] E (fun hp => ⟨?_, ?_, ?_, ?_, ?_, ?_, ?_, ?_, tv⟩) ?_
 ·exact zAl (F := (Fq.is (.int .i64 (-20))).P) hp fo tv (zBp) (zAh (fun _ => rfl)) (fun v w h => (by subst h; exact rOfK w (-20) (by omega) (by omega)))
 ·exact wXa (Fq.num (-20)) hp zF2 (sqi 0) fun v w h => (by have hh := zH4 h (Int.lt_of_lt_of_le B6.out (zAa (by omega))) (by decide) (by decide); rw [show ((-20 : Int) % 4) = 0 by decide, show (-((-20 : Int) / 4)) = 5 by decide] at hh; exact hh)
 ·exact zAb hp fo tv (sqi 1)
 ·exact zDa hp fo tv (sqi 2) (fun v1 v2 w h1 h2 => ⟨_, rfl, h1⟩)
 ·exact zDa hp fo tv (sqi 2) (fun v1 v2 w h1 h2 => ⟨_, rfl, h2⟩)
 ·exact aS hp (mq 0 rfl) zBd zCf
 ·exact sS 3 hp (mq 0 rfl) zA8
 ·exact zAi hp fo tv (sqi 4)
 intro L vs w7 nb hL hC hn E7
 have e4 := wXi hC 4
 have e7 := wXi hC 7
 have e5 : vs 5 = .pointer (some ⟨nb 5, 0, none⟩) := hn _ (mq 0 rfl)
 have E := E7; try simp only [LM, zAc] at E
 rw [zAd hL]
 simp only [SP, Nat.zero_add, Nat.reduceAdd]
 rw [e4, e7, e5]
 generalize nb 5 = b7_5 at E ⊢
 generalize vs 0 = u7_0
 generalize vs 1 = u7_1
 generalize vs 2 = u7_2
 generalize vs 3 = u7_3
 clear e4 e7 e5 hC hn E7 hL vs L nb
 go_upto_region 6 with (fail)
 have B8 : Hid (ab ((9)) < pw 3) := zA7 (by decide)
 refine rg [Fq.num (9), Fq.tup2 (Fq.st [.n 0, .n 0, .n 0]) (Fq.is (.int .i64 5)), Fq.tup2 (Fq.st [.n 0, .n 0, .n 0]) (Fq.is (.int .i64 5)), Fq.st [.n 0, .n 0, .n 0], Fq.is (.int .i64 5), Fq.any, Fq.any, Fq.is (.int .i64 5)] N6 [⟨5, 6, 6, Fq.st [.n 0, .n 0, .n 0], Fq.st [.n 0, .n 0, .n 0], none⟩] E (fun hp => ⟨?_, ?_, ?_, ?_, ?_, ?_, ?_, ?_, tv⟩) ?_
 ·exact zAl (F := (Fq.is (.int .i64 9)).P) hp fo tv (zBp) (zAh (fun _ => rfl)) (fun v w h => (by subst h; exact rOfK w (9) (by omega) (by omega)))
 ·exact wXa (Fq.num (9)) hp zF2 (sqi 0) fun v w h => zKs h (Int.lt_of_lt_of_le B8.out (zAa (by omega))) (by decide) (by decide)
 ·exact zAb hp fo tv (sqi 1)
 ·exact zDa hp fo tv (sqi 2) (fun v1 v2 w h1 h2 => ⟨_, rfl, h1⟩)
 ·exact zDa hp fo tv (sqi 2) (fun v1 v2 w h1 h2 => ⟨_, rfl, h2⟩)
 ·exact aS hp (mq 0 rfl) zBd zCf
 ·exact sS 3 hp (mq 0 rfl) zA8
 ·exact zAi hp fo tv (sqi 4)
 intro L vs w9 nb hL hC hn E9
 have e4 := wXi hC 4
 have e7 := wXi hC 7
 have e5 : vs 5 = .pointer (some ⟨nb 5, 0, none⟩) := hn _ (mq 0 rfl)
 have E := E9; try simp only [LM, zAc] at E
 rw [zAd hL]
 simp only [SP, Nat.zero_add, Nat.reduceAdd]
 rw [e4, e7, e5]
 generalize nb 5 = b9_5 at E ⊢
 generalize vs 0 = u9_0
 generalize vs 1 = u9_1
 generalize vs 2 = u9_2
 generalize vs 3 = u9_3
 clear e4 e7 e5 hC hn E9 hL vs L nb
 go_upto_region 7 with (fail)
 refine rg [Fq.st [.n 1, .n 0, .n (-2)], Fq.tup3 (Fq.st [.n 0, .n 0, .n 0]) (Fq.st [.n 0, .n 0, .n 0, .n 0]) (Fq.is (.int .i64 5)), Fq.tup3 (Fq.st [.n 0, .n 0, .n 0]) (Fq.st [.n 0, .n 0, .n 0, .n 0]) (Fq.is (.int .i64 5)), Fq.st [.n 0, .n 0, .n 0], Fq.st [.n 0, .n 0, .n 0, .n 0], Fq.is (.int .i64 5), Fq.any, Fq.any, Fq.any, Fq.any, Fq.is (.int .i64 5)] N7 [⟨6, 8, 6, Fq.st [.n 0, .n 0, .n 0], Fq.st [.n 0, .n 0, .n 0], none⟩, ⟨7, 9, 8, Fq.st [.n 0, .n 0, .n 0, .n 0], Fq.st [.n 0, .n 0, .n 0, .n 0], none⟩] E (fun hp => ⟨?_, ?_, ?_, ?_, ?_, ?_, ?_, ?_, ?_, ?_, ?_, tv⟩) ?_
 ·exact zCn (F := (Fq.is (.int .i64 1)).P) (G := (Fq.is (.int .i64 0)).P) (F3 := (Fq.is (.int .i64 (-2))).P) hp fo tv (zCw) (zAh (fun _ => rfl)) (zAh (fun _ => rfl)) (zAh (fun _ => rfl)) (fun v v' u w h h' g => (by subst h h' g; exact zCx (by decide) (by decide) (by decide)))
 ·exact wXa (Fq.st [.n 1, .n 0, .n (-2)]) hp zF3 (sqi 0) fun v w h => (by have hh := zF7 h (lit5 (by decide) (by decide)) (lit5 (by decide) (by decide)) (lit5 (by decide) (by decide)); rw [ind_ex.1, ind_ex.2] at hh; exact hh)
 ·exact zAb hp fo tv (sqi 1)
 ·exact zA6 hp fo tv (sqi 2) (fun v1 v2 v3 w h1 h2 h3 => ⟨_, rfl, h1⟩)
 ·exact zA6 hp fo tv (sqi 2) (fun v1 v2 v3 w h1 h2 h3 => ⟨_, rfl, h2⟩)
 ·exact zA6 hp fo tv (sqi 2) (fun v1 v2 v3 w h1 h2 h3 => ⟨_, rfl, h3⟩)
 ·exact aS hp (mq 0 rfl) zBd zCf
 ·exact aS hp (mq 1 rfl) zB3 zDu
 ·exact sS 3 hp (mq 0 rfl) zA8
 ·exact sS 4 hp (mq 1 rfl) zBx
 ·exact zAi hp fo tv (sqi 5)
 intro L vs w10 nb hL hC hn E10
 have e5 := wXi hC 5
 have e10 := wXi hC 10
 have e6 : vs 6 = .pointer (some ⟨nb 6, 0, none⟩) := hn _ (mq 0 rfl)
 have e7 : vs 7 = .pointer (some ⟨nb 7, 0, none⟩) := hn _ (mq 1 rfl)
 have E := E10; try simp only [LM, zAc] at E
 rw [zAd hL]
 simp only [SP, Nat.zero_add, Nat.reduceAdd]
 rw [e5, e10, e6, e7]
 generalize nb 6 = b10_6 at E ⊢
 generalize nb 7 = b10_7 at E ⊢
 generalize vs 0 = u10_0
 generalize vs 1 = u10_1
 generalize vs 2 = u10_2
 generalize vs 3 = u10_3
 generalize vs 4 = u10_4
 clear e5 e10 e6 e7 hC hn E10 hL vs L nb
 go_upto_region 8 with (fail)
 refine rg [Fq.is (.int .i64 0), yF, yF, Fq.is (.int .i64 0), yF, yF, yF, Fq.is (.int .i64 0), yF, yF, yF, Fq.is (.int .i64 0), yF, yF, yF, Fq.is (.int .i64 5), yF, yF, yF, Fq.is (.int .i64 5), yF, yF, yF, Fq.st [.n (-1), .n 0, .n (-1)], Fq.is (.int .i64 1), yF, yF, yF, Fq.st [.n 2, .n 1, .n 3], Fq.is (.int .i64 0), yF, yF] N9 [] E (fun hp => ⟨?_, ?_, ?_, ?_, ?_, ?_, ?_, ?_, ?_, ?_, ?_, ?_, ?_, ?_, ?_, ?_, ?_, ?_, ?_, ?_, ?_, ?_, ?_, ?_, ?_, ?_, ?_, ?_, ?_, ?_, ?_, ?_, tv⟩) ?_
 ·exact zAb hp fo tv (sqo 4)
 ·exact zAf (F := fun v _ => v = .int .i64 0) hp fo tv (sqi 0) (fun ρ w hc h => ⟨.bool false, by simp [execOp, go_sem, h, hc], rfl⟩)
 ·exact zAb hp fo tv (sqi 1)
 ·exact zAb hp fo gqi (sqo 6)
 ·exact zAf (F := fun v _ => v = .int .i64 0) hp fo gqi (sqi 3) (fun ρ w hc h => ⟨.bool false, by simp [execOp, go_sem, h, hc], rfl⟩)
 ·exact zAg (F := fun v _ => v = .bool false) (G := fun v _ => v = .bool false) hp fo tv (sqi 2) (sqi 4) (fun ρ w hc h h' => ⟨_, by simp [execOp, go_sem, h, h'], rfl⟩)
 ·exact zAb hp fo tv (sqi 5)
 ·exact zAb hp fo gqi (sqo 8)
 ·exact zAf (F := fun v _ => v = .int .i64 0) hp fo gqi (sqi 7) (fun ρ w hc h => ⟨.bool false, by simp [execOp, go_sem, h, hc], rfl⟩)
 ·exact zAg (F := fun v _ => v = .bool false) (G := fun v _ => v = .bool false) hp fo tv (sqi 6) (sqi 8) (fun ρ w hc h h' => ⟨_, by simp [execOp, go_sem, h, h'], rfl⟩)
 ·exact zAb hp fo tv (sqi 9)
 ·exact zAb hp fo gqi (sqo 10)
 ·exact zAf (F := fun v _ => v = .int .i64 0) hp fo gqi (sqi 11) (fun ρ w hc h => ⟨.bool false, by simp [execOp, go_sem, h, hc], rfl⟩)
 ·exact zAg (F := fun v _ => v = .bool false) (G := fun v _ => v = .bool false) hp fo tv (sqi 10) (sqi 12) (fun ρ w hc h h' => ⟨_, by simp [execOp, go_sem, h, h'], rfl⟩)
 ·exact zAb hp fo tv (sqi 13)
 ·exact zAb hp fo gqi (sqo 12)
 ·exact zAf (F := fun v _ => v = .int .i64 5) hp fo gqi (sqi 15) (fun ρ w hc h => ⟨.bool false, by simp [execOp, go_sem, h, hc], rfl⟩)
 ·exact zAg (F := fun v _ => v = .bool false) (G := fun v _ => v = .bool false) hp fo tv (sqi 14) (sqi 16) (fun ρ w hc h h' => ⟨_, by simp [execOp, go_sem, h, h'], rfl⟩)
 ·exact zAb hp fo tv (sqi 17)
 ·exact zAb hp fo gqi (sqo 15)
 ·exact zAf (F := fun v _ => v = .int .i64 5) hp fo gqi (sqi 19) (fun ρ w hc h => ⟨.bool false, by simp [execOp, go_sem, h, hc], rfl⟩)
 ·exact zAg (F := fun v _ => v = .bool false) (G := fun v _ => v = .bool false) hp fo tv (sqi 18) (sqi 20) (fun ρ w hc h h' => ⟨_, by simp [execOp, go_sem, h, h'], rfl⟩)
 ·exact zAb hp fo tv (sqi 21)
 ·exact zCn (F := (Fq.is (.int .i64 (-1))).P) (G := (Fq.is (.int .i64 0)).P) (F3 := (Fq.is (.int .i64 (-1))).P) hp fo gqi (zCw) (zAh (fun _ => rfl)) (zAh (fun _ => rfl)) (zAh (fun _ => rfl)) (fun v v' u w h h' g => (by subst h h' g; exact zCx (by decide) (by decide) (by decide)))
 ·exact zAl (F := (Fq.st [.n (-1), .n 0, .n (-1)]).P) hp fo gqi (zCi) (sqi 23) (fun v w h => zCk h (Int.lt_of_lt_of_le (zAj (by decide) (by decide)) (zAa (by omega))) (Int.lt_of_lt_of_le (zAj (by decide) (by decide)) (zAa (by omega))) (Int.lt_of_lt_of_le (zAj (by decide) (by decide)) (zAa (by omega))) (by decide))
 ·exact zAf (F := fun v _ => v = .int .i64 1) hp fo gqi (sqi 24) (fun ρ w hc h => ⟨.bool false, by simp [execOp, go_sem, h, hc], rfl⟩)
 ·exact zAg (F := fun v _ => v = .bool false) (G := fun v _ => v = .bool false) hp fo tv (sqi 22) (sqi 25) (fun ρ w hc h h' => ⟨_, by simp [execOp, go_sem, h, h'], rfl⟩)
 ·exact zAb hp fo tv (sqi 26)
 ·exact lG 0 6 hp gqi (mq 8 rfl) zAo (sqo 1) fun v w h => h
 ·exact zAl (F := (Fq.st [.n 2, .n 1, .n 3]).P) hp fo gqi (zCi) (sqi 28) (fun v w h => zCk h (Int.lt_of_lt_of_le (zAj (by decide) (by decide)) (zAa (by omega))) (Int.lt_of_lt_of_le (zAj (by decide) (by decide)) (zAa (by omega))) (Int.lt_of_lt_of_le (zAj (by decide) (by decide)) (zAa (by omega))) (by decide))
 ·exact zAf (F := fun v _ => v = .int .i64 0) hp fo gqi (sqi 29) (fun ρ w hc h => ⟨.bool false, by simp [execOp, go_sem, h, hc], rfl⟩)
 ·exact zAg (F := fun v _ => v = .bool false) (G := fun v _ => v = .bool false) hp fo tv (sqi 27) (sqi 30) (fun ρ w hc h h' => ⟨_, by simp [execOp, go_sem, h, h'], rfl⟩)
 intro L vs w11 nb hL hC hn E11
 have e0 := wXi hC 0
 have e1 := wXi hC 1
 have e2 := wXi hC 2
 have e3 := wXi hC 3
 have e4 := wXi hC 4
 have e5 := wXi hC 5
 have e6 := wXi hC 6
 have e7 := wXi hC 7
 have e8 := wXi hC 8
 have e9 := wXi hC 9
 have e10 := wXi hC 10
 have e11 := wXi hC 11
 have e12 := wXi hC 12
 have e13 := wXi hC 13
 have e14 := wXi hC 14
 have e15 := wXi hC 15
 have e16 := wXi hC 16
 have e17 := wXi hC 17
 have e18 := wXi hC 18
 have e19 := wXi hC 19
 have e20 := wXi hC 20
 have e21 := wXi hC 21
 have e22 := wXi hC 22
 have e24 := wXi hC 24
 have e25 := wXi hC 25
 have e26 := wXi hC 26
 have e27 := wXi hC 27
 have e29 := wXi hC 29
 have e30 := wXi hC 30
 have e31 := wXi hC 31
 have E := E11; try simp only [LM, zAc] at E
 rw [zAd hL]
 simp only [SP, Nat.zero_add, Nat.reduceAdd]
 rw [e0, e1, e2, e3, e4, e5, e6, e7, e8, e9, e10, e11, e12, e13, e14, e15, e16, e17, e18, e19, e20, e21, e22, e24, e25, e26, e27, e29, e30, e31]
 generalize vs 23 = u11_23
 generalize vs 28 = u11_28
 clear e0 e1 e2 e3 e4 e5 e6 e7 e8 e9 e10 e11 e12 e13 e14 e15 e16 e17 e18 e19 e20 e21 e22 e24 e25 e26 e27 e29 e30 e31 hC hn E11 hL vs L nb
 go_upto_region 10 with (fail)
 have B12 : Hid (ab ((1)) < pw 3) := zA7 (by decide)
 refine rg [Fq.st [.n 2, .n 1, .n 3], Fq.num (-23), Fq.num (-23), yT, yT, Fq.st [.n 2, .n 1, .n 3], yT, yT, yT, Fq.st [.n 2, .n (-2), .n 3], yF, yT, yT, yT, Fq.st [.n 1, .n 0, .n 1], Fq.st [.n 1, .n 0, .n 1], yT, yT, yT, Fq.st [.n S.x1, .n S.x2, .n S.x3, .n S.x4], Fq.num 1, Fq.num (1), yT, yT, yT, Fq.st [.n 2, .n (-1), .n 3], Fq.st [.n 2, .n (-1), .n 3], yT, yT, yT, Fq.st [.n 1, .n 1, .n 6], Fq.st [.n 1, .n 1, .n 6], yT, yT, yT, Fq.st [.n 1, .n 0, .n 5], Fq.st [.n 1, .n 0, .n 5], yT, yT, yT] N9 [] E (fun hp => ⟨?_, ?_, ?_, ?_, ?_, ?_, ?_, ?_, ?_, ?_, ?_, ?_, ?_, ?_, ?_, ?_, ?_, ?_, ?_, ?_, ?_, ?_, ?_, ?_, ?_, ?_, ?_, ?_, ?_, ?_, ?_, ?_, ?_, ?_, ?_, ?_, ?_, ?_, ?_, ?_, tv⟩) ?_
 ·exact lS 0 6 hp (mq 8 rfl) zAo (sqo 1)
 ·exact wXa (Fq.st [.n 2, .n 1, .n 3]) hp zCj (sqi 0) fun v w h => (by have hh := zCl h (Int.lt_of_lt_of_le (zAj (by decide) (by decide)) (zAa (by omega))) (Int.lt_of_lt_of_le (zAj (by decide) (by decide)) (zAa (by omega))) (Int.lt_of_lt_of_le (zAj (by decide) (by decide)) (zAa (by omega))); rw [show ((1 : Int) * 1 - 4 * (2 * 3)) = -23 by decide] at hh; exact hh)
 ·exact zAl (F := (Fq.is (.int .i64 (-23))).P) hp fo tv (zBp) (zAh (fun _ => rfl)) (fun v w h => (by subst h; exact rOfK w (-23) (by omega) (by omega)))
 ·exact wXb (Fq.num (-23)) (Fq.num (-23)) hp zB1 (sqi 1) (sqi 2) fun v v' w h h' => zB2 h h' (by decide)
 ·exact zAb hp fo tv (sqi 3)
 ·exact lG 0 6 hp gqi (mq 8 rfl) zAo (sqo 1) fun v w h => h
 ·exact zAl (F := (Fq.st [.n 2, .n 1, .n 3]).P) hp fo gqi (zHx) (sqi 5) (fun v w h => zH5 h (Int.lt_of_lt_of_le (zAj (by decide) (by decide)) (zAa (by omega))) (Int.lt_of_lt_of_le (zAj (by decide) (by decide)) (zAa (by omega))) (Int.lt_of_lt_of_le (zAj (by decide) (by decide)) (zAa (by omega))) (by decide))
 ·exact zAg (F := fun v _ => v = .bool true) (G := fun v _ => v = .bool true) hp fo tv (sqi 4) (sqi 6) (fun ρ w hc h h' => ⟨_, by simp [execOp, go_sem, h, h'], rfl⟩)
 ·exact zAb hp fo tv (sqi 7)
 ·exact zCn (F := (Fq.is (.int .i64 2)).P) (G := (Fq.is (.int .i64 (-2))).P) (F3 := (Fq.is (.int .i64 3)).P) hp fo gqi (zCw) (zAh (fun _ => rfl)) (zAh (fun _ => rfl)) (zAh (fun _ => rfl)) (fun v v' u w h h' g => (by subst h h' g; exact zCx (by decide) (by decide) (by decide)))
 ·exact zAl (F := (Fq.st [.n 2, .n (-2), .n 3]).P) hp fo gqi (zHx) (sqi 9) (fun v w h => zH5 h (Int.lt_of_lt_of_le (zAj (by decide) (by decide)) (zAa (by omega))) (Int.lt_of_lt_of_le (zAj (by decide) (by decide)) (zAa (by omega))) (Int.lt_of_lt_of_le (zAj (by decide) (by decide)) (zAa (by omega))) (by decide))
 ·exact zAf (F := fun v _ => v = .bool false) hp fo gqi (sqi 10) (fun ρ w _ h => ⟨.bool true, by simp [execOp, go_sem, h], rfl⟩)
 ·exact zAg (F := fun v _ => v = .bool true) (G := fun v _ => v = .bool true) hp fo tv (sqi 8) (sqi 11) (fun ρ w hc h h' => ⟨_, by simp [execOp, go_sem, h, h'], rfl⟩)
 ·exact zAb hp fo tv (sqi 12)
 ·exact lG 0 6 hp gqi (mq 6 rfl) zAo (sqo 2) fun v w h => h
 ·exact zCn (F := (Fq.is (.int .i64 1)).P) (G := (Fq.is (.int .i64 0)).P) (F3 := (Fq.is (.int .i64 1)).P) hp fo gqi (zCw) (zAh (fun _ => rfl)) (zAh (fun _ => rfl)) (zAh (fun _ => rfl)) (fun v v' u w h h' g => (by subst h h' g; exact zCx (by decide) (by decide) (by decide)))
 ·exact zBs (F := (Fq.st [.n 1, .n 0, .n 1]).P) (G := (Fq.st [.n 1, .n 0, .n 1]).P) hp fo gqi (zE1) (sqi 14) (sqi 15) (fun v v' w h h' => zE6 h h' (by decide))
 ·exact zAg (F := fun v _ => v = .bool true) (G := fun v _ => v = .bool true) hp fo tv (sqi 13) (sqi 16) (fun ρ w hc h h' => ⟨_, by simp [execOp, go_sem, h, h'], rfl⟩)
 ·exact zAb hp fo tv (sqi 17)
 ·exact lG 0 8 hp gqi (mq 7 rfl) zBw (sqo 3) fun v w h => h
 ·exact zAl (F := (Fq.st [.n S.x1, .n S.x2, .n S.x3, .n S.x4]).P) hp fo gqi (zJ0) (sqi 19) (fun v w h => (by have hh := exQDet h (Int.lt_of_lt_of_le BS.out.2.1 (zAa (by omega))) (Int.lt_of_lt_of_le BS.out.2.2.1 (zAa (by omega))) (Int.lt_of_lt_of_le BS.out.2.2.2.1 (zAa (by omega))) (Int.lt_of_lt_of_le BS.out.2.2.2.2 (zAa (by omega))); rw [HRD.out] at hh; exact hh))
 ·exact zAl (F := (Fq.is (.int .i64 1)).P) hp fo gqi (zBp) (zAh (fun _ => rfl)) (fun v w h => (by subst h; exact rOfK w (1) (by omega) (by omega)))
 ·exact zBs (F := (Fq.num 1).P) (G := (Fq.num (1)).P) hp fo gqi (zB1) (sqi 20) (sqi 21) (fun v v' w h h' => zB2 h h' (by decide))
 ·exact zAg (F := fun v _ => v = .bool true) (G := fun v _ => v = .bool true) hp fo tv (sqi 18) (sqi 22) (fun ρ w hc h h' => ⟨_, by simp [execOp, go_sem, h, h'], rfl⟩)
 ·exact zAb hp fo tv (sqi 23)
 ·exact lG 0 6 hp gqi (mq 5 rfl) zAo (sqo 5) fun v w h => h
 ·exact zCn (F := (Fq.is (.int .i64 2)).P) (G := (Fq.is (.int .i64 (-1))).P) (F3 := (Fq.is (.int .i64 3)).P) hp fo gqi (zCw) (zAh (fun _ => rfl)) (zAh (fun _ => rfl)) (zAh (fun _ => rfl)) (fun v v' u w h h' g => (by subst h h' g; exact zCx (by decide) (by decide) (by decide)))
 ·exact zBs (F := (Fq.st [.n 2, .n (-1), .n 3]).P) (G := (Fq.st [.n 2, .n (-1), .n 3]).P) hp fo gqi (zE1) (sqi 25) (sqi 26) (fun v v' w h h' => zE6 h h' (by decide))
 ·exact zAg (F := fun v _ => v = .bool true) (G := fun v _ => v = .bool true) hp fo tv (sqi 24) (sqi 27) (fun ρ w hc h h' => ⟨_, by simp [execOp, go_sem, h, h'], rfl⟩)
 ·exact zAb hp fo tv (sqi 28)
 ·exact lG 0 6 hp gqi (mq 4 rfl) zAo (sqo 7) fun v w h => h
 ·exact zCn (F := (Fq.is (.int .i64 1)).P) (G := (Fq.is (.int .i64 1)).P) (F3 := (Fq.is (.int .i64 6)).P) hp fo gqi (zCw) (zAh (fun _ => rfl)) (zAh (fun _ => rfl)) (zAh (fun _ => rfl)) (fun v v' u w h h' g => (by subst h h' g; exact zCx (by decide) (by decide) (by decide)))
 ·exact zBs (F := (Fq.st [.n 1, .n 1, .n 6]).P) (G := (Fq.st [.n 1, .n 1, .n 6]).P) hp fo gqi (zE1) (sqi 30) (sqi 31) (fun v v' w h h' => zE6 h h' (by decide))
 ·exact zAg (F := fun v _ => v = .bool true) (G := fun v _ => v = .bool true) hp fo tv (sqi 29) (sqi 32) (fun ρ w hc h h' => ⟨_, by simp [execOp, go_sem, h, h'], rfl⟩)
 ·exact zAb hp fo tv (sqi 33)
 ·exact lG 0 6 hp gqi (mq 3 rfl) zAo (sqo 9) fun v w h => h
 ·exact zCn (F := (Fq.is (.int .i64 1)).P) (G := (Fq.is (.int .i64 0)).P) (F3 := (Fq.is (.int .i64 5)).P) hp fo gqi (zCw) (zAh (fun _ => rfl)) (zAh (fun _ => rfl)) (zAh (fun _ => rfl)) (fun v v' u w h h' g => (by subst h h' g; exact zCx (by decide) (by decide) (by decide)))
 ·exact zBs (F := (Fq.st [.n 1, .n 0, .n 5]).P) (G := (Fq.st [.n 1, .n 0, .n 5]).P) hp fo gqi (zE1) (sqi 35) (sqi 36) (fun v v' w h h' => zE6 h h' (by decide))
 ·exact zAg (F := fun v _ => v = .bool true) (G := fun v _ => v = .bool true) hp fo tv (sqi 34) (sqi 37) (fun ρ w hc h h' => ⟨_, by simp [execOp, go_sem, h, h'], rfl⟩)
 ·exact zAi hp fo tv (sqi 38)
 intro L vs w13 nb hL hC hn E13
 have e3 := wXi hC 3
 have e4 := wXi hC 4
 have e6 := wXi hC 6
 have e7 := wXi hC 7
 have e8 := wXi hC 8
 have e10 := wXi hC 10
 have e11 := wXi hC 11
 have e12 := wXi hC 12
 have e13 := wXi hC 13
 have e16 := wXi hC 16
 have e17 := wXi hC 17
 have e18 := wXi hC 18
 have e22 := wXi hC 22
 have e23 := wXi hC 23
 have e24 := wXi hC 24
 have e27 := wXi hC 27
 have e28 := wXi hC 28
 have e29 := wXi hC 29
 have e32 := wXi hC 32
 have e33 := wXi hC 33
 have e34 := wXi hC 34
 have e37 := wXi hC 37
 have e38 := wXi hC 38
 have e39 := wXi hC 39
 have E := E13; try simp only [LM, zAc] at E
 rw [zAd hL]
 simp only [SP, Nat.zero_add, Nat.reduceAdd]
 rw [e3, e4, e6, e7, e8, e10, e11, e12, e13, e16, e17, e18, e22, e23, e24, e27, e28, e29, e32, e33, e34, e37, e38, e39]
 generalize vs 0 = u13_0
 generalize vs 1 = u13_1
 generalize vs 2 = u13_2
 generalize vs 5 = u13_5
 generalize vs 9 = u13_9
 generalize vs 14 = u13_14
 generalize vs 15 = u13_15
 generalize vs 19 = u13_19
 generalize vs 20 = u13_20
 generalize vs 21 = u13_21
 generalize vs 25 = u13_25
 generalize vs 26 = u13_26
 generalize vs 30 = u13_30
 generalize vs 31 = u13_31
 generalize vs 35 = u13_35
 generalize vs 36 = u13_36
 clear e3 e4 e6 e7 e8 e10 e11 e12 e13 e16 e17 e18 e22 e23 e24 e27 e28 e29 e32 e33 e34 e37 e38 e39 hC hn E13 hL vs L nb
 clear HS HR0 HRA HRB HRC HRD
 clear B4 B6 B8 B12 BS
 go_wp2
 refine bodyPost_ret (v := .bool true) ?_ rfl ⟨_, rfl, E.below, rfl⟩
 simp [results, Try.results9, go_sem]

theorem zFk {a b c x y : Int} {k j K : Nat} (ha : ab a < pw k) (hb : ab b < pw k) (hc : ab c < pw k) (hx : ab x < pw j) (hy : ab y < pw j) (hK : k + 2 * j + 2 ≤ K) : ab (qv a b c x y) < pw K := by
 unfold qv
 exact zAw (zAw (m := k + 2 * j + 1) (zAy ha (zAy hx hx)) (zAy hb (zAy hx hy)) (by omega) (by omega)) (zAy hc (zAy hy hy)) (by omega) (by omega)
theorem qm_abK {a b c p q r s : Int} {k j K : Nat} (ha : ab a < pw k) (hb : ab b < pw k) (hc : ab c < pw k) (hp : ab p < pw j) (hq : ab q < pw j) (hr : ab r < pw j) (hs : ab s < pw j) (hK : k + 2 * j + 6 ≤ K) : ab (qm a b c p q r s) < pw K := by
 have h1 := zAy ha (zAy hp hq)
 have h2 := zAy hc (zAy hr hs)
 have h3 := zAw (m := k + 2 * j + 1) h1 h2 (by omega) (by omega)
 have h4 : ab (2 : Int) < pw 3 := zAj (by decide) (by decide)
 have h5 := zAy h4 h3
 have h6 := zAw (m := 2 * j + 1) (zAy hp hs) (zAy hq hr) (by omega) (by omega)
 have h7 := zAy hb h6
 unfold qm
 exact zAw h5 h7 (by omega) (by omega)
theorem act_disc (a b c p q r s : Int) : qm a b c p q r s * qm a b c p q r s - 4 * (qv a b c p r * qv a b c q s) = (b * b - 4 * (a * c)) * ((p * s - q * r) * (p * s - q * r)) := by
 unfold qv qm
 exact zGv a b c p q r s
theorem zEm {x y : Int} {m n : Nat} (hx : x.natAbs ≤ m) (hy : y.natAbs ≤ n) : (x * y).natAbs ≤ m * n := by
 rw [Int.natAbs_mul]
 exact Nat.mul_le_mul hx hy
theorem turn_bd {z s t : Int} (es : s = z % 8 - 3) (et : t = z / 8 % 8 - 4) : s.natAbs ≤ 4 ∧ t.natAbs ≤ 4 ∧ (s * t - 1).natAbs ≤ 17 := by
 have h1 : s.natAbs ≤ 4 := by omega
 have h2 : t.natAbs ≤ 4 := by omega
 have h3 := zEm h1 h2
 exact ⟨h1, h2, by omega⟩
theorem turns_bd {s t s' t' : Int} (h1 : s.natAbs ≤ 4) (h2 : t.natAbs ≤ 4) (h3 : (s * t - 1).natAbs ≤ 17) (g1 : s'.natAbs ≤ 4) (g2 : t'.natAbs ≤ 4) (g3 : (s' * t' - 1).natAbs ≤ 17) : ((s * s') + ((s * t - 1) * 1)).natAbs ≤ 500 ∧ ((s * (s' * t' - 1)) + ((s * t - 1) * t')).natAbs ≤ 500 ∧ ((1 * s') + (t * 1)).natAbs ≤ 500 ∧ ((1 * (s' * t' - 1)) + (t * t')).natAbs ≤ 500 := by
 have a1 := zEm h1 g1
 have a2 := zEm h1 g3
 have a3 := zEm h3 g2
 have a4 := zEm h2 g2
 omega
theorem turns_det (s t s' t' : Int) : ((s * s') + ((s * t - 1) * 1)) * ((1 * (s' * t' - 1)) + (t * t')) - ((s * (s' * t' - 1)) + ((s * t - 1) * t')) * ((1 * s') + (t * 1)) = 1 := by
 have h := qf_det s (s * t - 1) 1 t s' (s' * t' - 1) 1 t'
 rw [h]
 have e1 : s * t - (s * t - 1) * 1 = 1 := by omega
 have e2 : s' * t' - (s' * t' - 1) * 1 = 1 := by omega
 rw [e1, e2]
 rfl
theorem zBu {x : Int} (h : x.natAbs ≤ 2000) : ab x < pw 3 := zAj (by omega) (by omega)
theorem dvd_cont {a b c d : Int} : d ∣ cont a b c ↔ d ∣ a ∧ d ∣ b ∧ d ∣ c := by
 unfold cont
 constructor
 ·intro h
  have h1 := Int.dvd_trans h (Int.gcd_dvd_left _ _)
  exact ⟨Int.dvd_trans h1 (Int.gcd_dvd_left _ _), Int.dvd_trans h1 (Int.gcd_dvd_right _ _), Int.dvd_trans h (Int.gcd_dvd_right _ _)⟩
 ·rintro ⟨h1, h2, h3⟩
  exact Int.dvd_coe_gcd (Int.dvd_coe_gcd h1 h2) h3
theorem zHq (a b c : Int) : 0 ≤ cont a b c := by unfold cont; omega
theorem zHt {d a b c x y z : Int} (h1 : d ∣ a) (h2 : d ∣ b) (h3 : d ∣ c) : d ∣ a * x + b * y + c * z := Int.dvd_add (Int.dvd_add (Int.dvd_mul_of_dvd_left h1) (Int.dvd_mul_of_dvd_left h2)) (Int.dvd_mul_of_dvd_left h3)
theorem zHu {a b c p q r s d : Int} (h1 : d ∣ a) (h2 : d ∣ b) (h3 : d ∣ c) : d ∣ qv a b c p r ∧ d ∣ qm a b c p q r s ∧ d ∣ qv a b c q s := by
 refine ⟨zHt h1 h2 h3, ?_, zHt h1 h2 h3⟩
 unfold qm
 exact Int.dvd_add (Int.dvd_mul_of_dvd_right (Int.dvd_add (Int.dvd_mul_of_dvd_left h1) (Int.dvd_mul_of_dvd_left h3))) (Int.dvd_mul_of_dvd_left h2)
theorem zJu {a b c p q r s : Int} (hd : (p * s - q * r) * (p * s - q * r) = 1) : qv (qv a b c p r) (qm a b c p q r s) (qv a b c q s) s (-r) = a ∧ qm (qv a b c p r) (qm a b c p q r s) (qv a b c q s) s (-q) (-r) p = b ∧ qv (qv a b c p r) (qm a b c p q r s) (qv a b c q s) (-q) p = c := by
 have h1 := zGw a b c p q r s
 have h2 := zI5 a b c p q r s
 have h3 := zI6 a b c p q r s
 rw [hd, Int.mul_one] at h1 h2 h3
 refine ⟨h1, ?_, h3⟩
 unfold qm qv
 exact h2
theorem zHr {a b c p q r s : Int} (hd : (p * s - q * r) * (p * s - q * r) = 1) : cont (qv a b c p r) (qm a b c p q r s) (qv a b c q s) = cont a b c := by
 obtain ⟨e1, e2, e3⟩ := zJu (a := a) (b := b) (c := c) hd
 have h0 := dvd_cont.1 (Int.dvd_refl (cont a b c))
 have g0 := dvd_cont.1 (Int.dvd_refl (cont (qv a b c p r) (qm a b c p q r s) (qv a b c q s)))
 have h1 := dvd_cont.2 (zHu (p := p) (q := q) (r := r) (s := s) h0.1 h0.2.1 h0.2.2)
 have g1 := zHu (p := s) (q := -q) (r := -r) (s := p) g0.1 g0.2.1 g0.2.2
 rw [e1, e2, e3] at g1
 exact Int.dvd_antisymm (zHq ..) (zHq ..) (dvd_cont.2 g1) h1
theorem det_sq {p q r s e : Int} (h : p * s - q * r = e) (he : e = 1 ∨ e = -1) : (p * s - q * r) * (p * s - q * r) = 1 := by
 rw [h]
 rcases he with rfl | rfl <;> rfl
theorem zFx {a b c p q r s : Int} (hd : (p * s - q * r) * (p * s - q * r) = 1) : qm a b c p q r s * qm a b c p q r s - 4 * (qv a b c p r * qv a b c q s) = b * b - 4 * (a * c) := by
 rw [act_disc, hd, Int.mul_one]
theorem qv_neg (a b c x y : Int) : qv (-a) (-b) (-c) x y = -qv a b c x y := by
 unfold qv
 rw [Int.neg_mul, Int.neg_mul, Int.neg_mul]
 omega
theorem zKx {a b c x y : Int} (hd : b * b - 4 * (a * c) < 0) (hn : ¬ (x = 0 ∧ y = 0)) : qv a b c x y < 0 ↔ a < 0 := by
 have hne := zGa hd
 rcases Int.lt_or_gt_of_ne hne with h | h
 ·have := qv_pos (a := -a) (b := -b) (c := -c) (x := x) (y := y) (by omega) (by rw [Int.neg_mul_neg, Int.neg_mul_neg]; exact hd) hn
  rw [qv_neg] at this
  omega
 ·have := qv_pos (x := x) (y := y) h hd hn
  omega
theorem zHo {a b c p q r s : Int} (hd : (p * s - q * r) * (p * s - q * r) = 1) : chkF (qv a b c p r) (qm a b c p q r s) (qv a b c q s) = chkF a b c := by
 have e := zFx (a := a) (b := b) (c := c) hd
 unfold chkF
 rw [e]
 by_cases hdn : b * b - 4 * (a * c) < 0
 ·have hs := zKx (x := p) (y := r) hdn (fun ⟨h1, h2⟩ => by subst h1 h2; rw [Int.zero_mul, Int.mul_zero] at hd; exact absurd hd (by decide))
  simp only [hs]
 ·have h1 : ¬ (b * b - 4 * (a * c) < 0 ∧ qv a b c p r < 0) := fun x => hdn x.1
  have h2 : ¬ (b * b - 4 * (a * c) < 0 ∧ a < 0) := fun x => hdn x.1
  rw [if_neg h1, if_neg h2]
theorem zFo (x y : Int) : (3 * x) * (3 * y) = 9 * (x * y) := by
 rw [Int.mul_assoc, Int.mul_left_comm x 3 y, ← Int.mul_assoc]
 rfl
theorem zL8 (a b c : Int) : (3 * b) * (3 * b) - 4 * ((3 * a) * (3 * c)) = 9 * (b * b - 4 * (a * c)) := by
 have e1 : (3 * b) * (3 * b) = 9 * (b * b) := zFo _ _
 have e2 : (3 * a) * (3 * c) = 9 * (a * c) := zFo _ _
 rw [e1, e2]
 omega
theorem sqB_nine (D : Int) : sqB (9 * D) = sqB D := by
 cases h : sqB D with
 | true =>
  obtain ⟨k, hk⟩ := sqB_iff.1 h
  exact sqB_iff.2 ⟨3 * k, by rw [zFo, hk]⟩
 | false =>
  refine Bool.eq_false_iff.2 fun h2 => ?_
  obtain ⟨k, hk⟩ := sqB_iff.1 h2
  have h3 : (k * k) % 3 = 0 := by rw [hk]; omega
  have h4 : k % 3 = 0 := by
   rw [Int.mul_emod] at h3
   have : k % 3 = 0 ∨ k % 3 = 1 ∨ k % 3 = 2 := by omega
   rcases this with e | e | e
   ·exact e
   ·rw [e] at h3; exact absurd h3 (by decide)
   ·rw [e] at h3; exact absurd h3 (by decide)
  obtain ⟨q, hq⟩ : ∃ q, k = 3 * q := ⟨k / 3, by omega⟩
  subst hq
  have e : (3 * q) * (3 * q) = 9 * (q * q) := zFo _ _
  rw [e] at hk
  rw [sqB_iff.2 ⟨q, by omega⟩] at h
  cases h
theorem chk_three (a b c : Int) : chkF (3 * a) (3 * b) (3 * c) = chkF a b c := by
 unfold chkF
 rw [zL8, sqB_nine]
 have h1 : (9 * (b * b - 4 * (a * c)) < 0 ∧ 3 * a < 0) ↔ (b * b - 4 * (a * c) < 0 ∧ a < 0) := by omega
 simp only [h1]
theorem zLd (a b c : Int) : decide (cont (3 * a) (3 * b) (3 * c) = 1) = false := by
 refine decide_eq_false fun h => ?_
 have h1 : (3 : Int) ∣ cont (3 * a) (3 * b) (3 * c) := dvd_cont.2 ⟨⟨a, rfl⟩, ⟨b, rfl⟩, ⟨c, rfl⟩⟩
 rw [h] at h1
 omega
set_option maxRecDepth 100000 in
set_option maxHeartbeats 4000000 in
theorem zJo (w : World) (n1 : Bool) (a1 : Option Addr) (k1 c1 : Nat) (xs1 : List Int) (h1 : Sl w a1 k1 c1 xs1) (hk1 : k1 ≤ 9223372036854775807) (n2 : Bool) (a2 : Option Addr) (k2 c2 : Nat) (xs2 : List Int) (h2 : Sl w a2 k2 c2 xs2) (hk2 : k2 ≤ 9223372036854775807) (n3 : Bool) (a3 : Option Addr) (k3 c3 : Nat) (xs3 : List Int) (h3 : Sl w a3 k3 c3 xs3) (hk3 : k3 ≤ 9223372036854775807) (n4 : Bool) (a4 : Option Addr) (k4 c4 : Nat) (xs4 : List Int) (h4 : Sl w a4 k4 c4 xs4) (hk4 : k4 ≤ 9223372036854775807) (n5 : Bool) (a5 : Option Addr) (k5 c5 : Nat) (xs5 : List Int) (h5 : Sl w a5 k5 c5 xs5) (hk5 : k5 ≤ 9223372036854775807) (n6 : Bool) (a6 : Option Addr) (k6 c6 : Nat) (xs6 : List Int) (h6 : Sl w a6 k6 c6 xs6) (hk6 : k6 ≤ 9223372036854775807) (n7 : Bool) (a7 : Option Addr) (k7 c7 : Nat) (xs7 : List Int) (h7 : Sl w a7 k7 c7 xs7) (hk7 : k7 ≤ 9223372036854775807) (z y : Int) (hz : 0 ≤ z ∧ z ≤ 255) (hy : 0 ≤ y ∧ y ≤ 255) {v' : Value} (h' : (Fq.st [.v (.int .u8 z), .v (.int .u8 y)]).P v' w) :
  Calls Try.prog 6 #[.agg #[.bool n1, .slice a1 k1 c1, .bool n2, .slice a2 k2 c2, .bool n3, .slice a3 k3 c3, .bool n4, .slice a4 k4 c4, .bool n5, .slice a5 k5 c5, .bool n6, .slice a6 k6 c6, .bool n7, .slice a7 k7 c7], v'] w fun e w' => ∃ v', e = .returned v' ∧ Below w.heap.size w w' ∧ v' = .bool true := by
 obtain ⟨a, ea⟩ : ∃ z, z = sgn n1 (val (xs1.take 2)) := ⟨_, rfl⟩
 have Ba : Hid (ab a < pw 3) := by show _ < _; rw [ea]; exact Int.lt_of_lt_of_le (Num.ofMade h1.digs) (zAa (by omega))
 have Ea := hidd ea
 have HK1 := hidd hk1
 clear ea hk1
 obtain ⟨b, eb⟩ : ∃ z, z = sgn n2 (val (xs2.take 2)) := ⟨_, rfl⟩
 have Bb : Hid (ab b < pw 3) := by show _ < _; rw [eb]; exact Int.lt_of_lt_of_le (Num.ofMade h2.digs) (zAa (by omega))
 have Eb := hidd eb
 have HK2 := hidd hk2
 clear eb hk2
 obtain ⟨c, ec⟩ : ∃ z, z = sgn n3 (val (xs3.take 2)) := ⟨_, rfl⟩
 have Bc : Hid (ab c < pw 3) := by show _ < _; rw [ec]; exact Int.lt_of_lt_of_le (Num.ofMade h3.digs) (zAa (by omega))
 have Ec := hidd ec
 have HK3 := hidd hk3
 clear ec hk3
 obtain ⟨s, es⟩ : ∃ x, x = z % 8 - 3 := ⟨_, rfl⟩
 obtain ⟨t, et⟩ : ∃ x, x = z / 8 % 8 - 4 := ⟨_, rfl⟩
 obtain ⟨s1, es1⟩ : ∃ x, x = y % 8 - 3 := ⟨_, rfl⟩
 obtain ⟨t1, et1⟩ : ∃ x, x = y / 8 % 8 - 4 := ⟨_, rfl⟩
 obtain ⟨t1a, t1b, t1c⟩ := turn_bd es et
 obtain ⟨t2a, t2b, t2c⟩ := turn_bd es1 et1
 obtain ⟨r1, r2, r3, r4⟩ := turns_bd t1a t1b t1c t2a t2b t2c
 have rd := turns_det s t s1 t1
 obtain ⟨p1, ep1⟩ : ∃ x, x = ((s * s1) + ((s * t - 1) * 1)) := ⟨_, rfl⟩
 obtain ⟨p2, ep2⟩ : ∃ x, x = ((s * (s1 * t1 - 1)) + ((s * t - 1) * t1)) := ⟨_, rfl⟩
 obtain ⟨p3, ep3⟩ : ∃ x, x = ((1 * s1) + (t * 1)) := ⟨_, rfl⟩
 obtain ⟨p4, ep4⟩ : ∃ x, x = ((1 * (s1 * t1 - 1)) + (t * t1)) := ⟨_, rfl⟩
 rw [← ep1, ← ep2, ← ep3, ← ep4] at rd
 rw [← ep1] at r1
 rw [← ep2] at r2
 rw [← ep3] at r3
 rw [← ep4] at r4
 obtain ⟨q1, eq1⟩ : ∃ x, x = ((p1 * 1) + (p2 * 0)) := ⟨_, rfl⟩
 obtain ⟨q2, eq2⟩ : ∃ x, x = ((p1 * 0) + (p2 * (-1))) := ⟨_, rfl⟩
 obtain ⟨q3, eq3⟩ : ∃ x, x = ((p3 * 1) + (p4 * 0)) := ⟨_, rfl⟩
 obtain ⟨q4, eq4⟩ : ∃ x, x = ((p3 * 0) + (p4 * (-1))) := ⟨_, rfl⟩
 have d1 : (p1 * p4 - p2 * p3) * (p1 * p4 - p2 * p3) = 1 := det_sq rd (.inl rfl)
 have d2 : (q1 * q4 - q2 * q3) * (q1 * q4 - q2 * q3) = 1 := det_sq (e := -1) (by rw [show q1 = p1 by omega, show q2 = -p2 by omega, show q3 = p3 by omega, show q4 = -p4 by omega, Int.mul_neg, Int.neg_mul]; omega) (.inr rfl)
 have Bs : Hid (ab s < pw 3) := zBu (by omega)
 have Bt : Hid (ab t < pw 3) := zBu (by omega)
 have Bs1 : Hid (ab s1 < pw 3) := zBu (by omega)
 have Bt1 : Hid (ab t1 < pw 3) := zBu (by omega)
 have Bp1 : Hid (ab p1 < pw 3) := zBu (by omega)
 have Bp2 : Hid (ab p2 < pw 3) := zBu (by omega)
 have Bp3 : Hid (ab p3 < pw 3) := zBu (by omega)
 have Bp4 : Hid (ab p4 < pw 3) := zBu (by omega)
 have Bq1 : Hid (ab q1 < pw 3) := zBu (by omega)
 have Bq2 : Hid (ab q2 < pw 3) := zBu (by omega)
 have Bq3 : Hid (ab q3 < pw 3) := zBu (by omega)
 have Bq4 : Hid (ab q4 < pw 3) := zBu (by omega)
 have Bu : Hid (ab (s * t - 1) < pw 3) := zBu (by omega)
 have Bu1 : Hid (ab (s1 * t1 - 1) < pw 3) := zBu (by omega)
 have Es := hidd es
 have Et := hidd et
 have Es1 := hidd es1
 have Et1 := hidd et1
 have Ep1 := hidd ep1
 have Ep2 := hidd ep2
 have Ep3 := hidd ep3
 have Ep4 := hidd ep4
 have Eq1 := hidd eq1
 have Eq2 := hidd eq2
 have Eq3 := hidd eq3
 have Eq4 := hidd eq4
 have HZ1 := hidd hz
 have HZ2 := hidd hy
 have D1 := hidd d1
 have D2 := hidd d2
 clear es et es1 et1 t1a t1b t1c t2a t2b t2c r1 r2 r3 r4 rd ep1 ep2 ep3 ep4 eq1 eq2 eq3 eq4 d1 d2 hz hy
 obtain ⟨A, eA⟩ : ∃ z, z = (qv a b c p1 p3) := ⟨_, rfl⟩
 have BA : Hid (ab A < pw 11) := by show _ < _; rw [eA]; exact (zFk (k := 3) (j := 3) (Int.lt_of_lt_of_le Ba.out (zAa (by omega))) (Int.lt_of_lt_of_le Bb.out (zAa (by omega))) (Int.lt_of_lt_of_le Bc.out (zAa (by omega))) (Int.lt_of_lt_of_le Bp1.out (zAa (by omega))) (Int.lt_of_lt_of_le Bp3.out (zAa (by omega))) (by omega))
 have EA := hidd eA
 clear eA
 obtain ⟨B, eB⟩ : ∃ z, z = (qm a b c p1 p2 p3 p4) := ⟨_, rfl⟩
 have BB : Hid (ab B < pw 15) := by show _ < _; rw [eB]; exact (qm_abK (k := 3) (j := 3) (Int.lt_of_lt_of_le Ba.out (zAa (by omega))) (Int.lt_of_lt_of_le Bb.out (zAa (by omega))) (Int.lt_of_lt_of_le Bc.out (zAa (by omega))) (Int.lt_of_lt_of_le Bp1.out (zAa (by omega))) (Int.lt_of_lt_of_le Bp2.out (zAa (by omega))) (Int.lt_of_lt_of_le Bp3.out (zAa (by omega))) (Int.lt_of_lt_of_le Bp4.out (zAa (by omega))) (by omega))
 have EB := hidd eB
 clear eB
 obtain ⟨C, eC⟩ : ∃ z, z = (qv a b c p2 p4) := ⟨_, rfl⟩
 have BC : Hid (ab C < pw 11) := by show _ < _; rw [eC]; exact (zFk (k := 3) (j := 3) (Int.lt_of_lt_of_le Ba.out (zAa (by omega))) (Int.lt_of_lt_of_le Bb.out (zAa (by omega))) (Int.lt_of_lt_of_le Bc.out (zAa (by omega))) (Int.lt_of_lt_of_le Bp2.out (zAa (by omega))) (Int.lt_of_lt_of_le Bp4.out (zAa (by omega))) (by omega))
 have EC := hidd eC
 clear eC
 obtain ⟨G, eG⟩ : ∃ z, z = (qv a b c q1 q3) := ⟨_, rfl⟩
 have BG : Hid (ab G < pw 11) := by show _ < _; rw [eG]; exact (zFk (k := 3) (j := 3) (Int.lt_of_lt_of_le Ba.out (zAa (by omega))) (Int.lt_of_lt_of_le Bb.out (zAa (by omega))) (Int.lt_of_lt_of_le Bc.out (zAa (by omega))) (Int.lt_of_lt_of_le Bq1.out (zAa (by omega))) (Int.lt_of_lt_of_le Bq3.out (zAa (by omega))) (by omega))
 have EG := hidd eG
 clear eG
 obtain ⟨H, eH⟩ : ∃ z, z = (qm a b c q1 q2 q3 q4) := ⟨_, rfl⟩
 have BH : Hid (ab H < pw 15) := by show _ < _; rw [eH]; exact (qm_abK (k := 3) (j := 3) (Int.lt_of_lt_of_le Ba.out (zAa (by omega))) (Int.lt_of_lt_of_le Bb.out (zAa (by omega))) (Int.lt_of_lt_of_le Bc.out (zAa (by omega))) (Int.lt_of_lt_of_le Bq1.out (zAa (by omega))) (Int.lt_of_lt_of_le Bq2.out (zAa (by omega))) (Int.lt_of_lt_of_le Bq3.out (zAa (by omega))) (Int.lt_of_lt_of_le Bq4.out (zAa (by omega))) (by omega))
 have EH := hidd eH
 clear eH
 obtain ⟨J, eJ⟩ : ∃ z, z = (qv a b c q2 q4) := ⟨_, rfl⟩
 have BJ : Hid (ab J < pw 11) := by show _ < _; rw [eJ]; exact (zFk (k := 3) (j := 3) (Int.lt_of_lt_of_le Ba.out (zAa (by omega))) (Int.lt_of_lt_of_le Bb.out (zAa (by omega))) (Int.lt_of_lt_of_le Bc.out (zAa (by omega))) (Int.lt_of_lt_of_le Bq2.out (zAa (by omega))) (Int.lt_of_lt_of_le Bq4.out (zAa (by omega))) (by omega))
 have EJ := hidd eJ
 clear eJ
 obtain ⟨D, eD⟩ : ∃ x, x = b * b - 4 * (a * c) := ⟨_, rfl⟩
 obtain ⟨tt, ett⟩ : ∃ x, x = decide (cont a b c = 1) := ⟨_, rfl⟩
 obtain ⟨ce, ece⟩ : ∃ x, x = chkF a b c := ⟨_, rfl⟩
 have ED := hidd eD
 have BD : Hid (ab D < pw 40) := by show _ < _; rw [eD]; exact zC6 (Int.lt_of_lt_of_le Ba.out (zAa (by omega))) (Int.lt_of_lt_of_le Bb.out (zAa (by omega))) (Int.lt_of_lt_of_le Bc.out (zAa (by omega)))
 have G1 : Hid (B * B - 4 * (A * C) = D) := by show _ = _; rw [EA.out, EB.out, EC.out, eD]; exact zFx D1.out
 have G2 : Hid (H * H - 4 * (G * J) = D) := by show _ = _; rw [EG.out, EH.out, EJ.out, eD]; exact zFx D2.out
 have C0 := hidd ett.symm
 have C1 : Hid (decide (cont A B C = 1) = tt) := by show _ = _; rw [EA.out, EB.out, EC.out, zHr D1.out]; exact ett.symm
 have C2 : Hid (decide (cont G H J = 1) = tt) := by show _ = _; rw [EG.out, EH.out, EJ.out, zHr D2.out]; exact ett.symm
 have K0 := hidd ece.symm
 have K1 : Hid (chkF A B C = ce) := by show _ = _; rw [EA.out, EB.out, EC.out, zHo D1.out]; exact ece.symm
 have K2 : Hid (chkF G H J = ce) := by show _ = _; rw [EG.out, EH.out, EJ.out, zHo D2.out]; exact ece.symm
 have K3 : Hid (chkF (3 * a) (3 * b) (3 * c) = ce) := by show _ = _; rw [chk_three]; exact ece.symm
 clear eD ett ece
 obtain ⟨_, rfl, hf1⟩ := h'
 have hF1 := hf1
 obtain ⟨_, rfl, _, _, rfl, _, rfl⟩ := hf1
 obtain ⟨w1, b1, hw1, hb1, hs1, E⟩ := zB9 w (F := Fq.odd7 n1 a1 k1 c1 xs1 n2 a2 k2 c2 xs2 n3 a3 k3 c3 xs3 n4 a4 k4 c4 xs4 n5 a5 k5 c5 xs5 n6 a6 k6 c6 xs6 n7 a7 k7 c7 xs7) (us := [.bool n1, .slice a1 k1 c1, .bool n2, .slice a2 k2 c2, .bool n3, .slice a3 k3 c3, .bool n4, .slice a4 k4 c4, .bool n5, .slice a5 k5 c5, .bool n6, .slice a6 k6 c6, .bool n7, .slice a7 k7 c7]) 28 rfl (by simp) (zJl _ _ _ _ _ _ _ _ _ _ _ _ _ _ _ _ _ _ _ _ _ _ _ _ _ _ _ _) (show (Fq.odd7 n1 a1 k1 c1 xs1 n2 a2 k2 c2 xs2 n3 a3 k3 c3 xs3 n4 a4 k4 c4 xs4 n5 a5 k5 c5 xs5 n6 a6 k6 c6 xs6 n7 a7 k7 c7 xs7).P _ w from ⟨rfl, h1, h2, h3, h4, h5, h6, h7⟩)
 obtain ⟨w2, b2, hw2, hb2, hs2, E⟩ := fS E hs1 65 hF1
 go_enter Try.func6, Try.ntmps6
 go_upto_region 1 with (fail)
 rw [← hw1]
 rw [← hw2]
 rw [← hb2]
 rw [← hb1]
 clear hw1 hw2 hb1 hb2 hs2 hs1
 refine rg [yT, yT] N2 [] E (fun hp => ⟨?_, ?_, tv⟩) ?_
 ·exact q_call0 hp fo tv (zJy) (fun w => zJ4 w)
 ·exact zAi hp fo tv (sqi 0)
 intro L vs w3 nb hL hC hn E3
 have e0 := wXi hC 0
 have e1 := wXi hC 1
 have E := E3; try simp only [LM, zAc] at E
 rw [zAd hL]
 simp only [SP, Nat.zero_add, Nat.reduceAdd]
 rw [e0, e1]
 clear e0 e1 hC hn E3 hL vs L nb
 go_upto_region 2 with (fail)
 refine rg [yT, yF] N2 [] E (fun hp => ⟨?_, ?_, tv⟩) ?_
 ·exact zAb hp fo tv (sqo 5)
 ·exact zAf (F := fun v _ => v = .bool true) hp fo tv (sqi 0) (fun ρ w _ h => ⟨.bool false, by simp [execOp, go_sem, h], rfl⟩)
 intro L vs w4 nb hL hC hn E4
 have e0 := wXi hC 0
 have e1 := wXi hC 1
 have E := E4; try simp only [LM, zAc] at E
 rw [zAd hL]
 simp only [SP, Nat.zero_add, Nat.reduceAdd]
 rw [e0, e1]
 clear e0 e1 hC hn E4 hL vs L nb
 go_upto_region 4 with (fail)
 refine rg [Fq.odd7 n1 a1 k1 c1 xs1 n2 a2 k2 c2 xs2 n3 a3 k3 c3 xs3 n4 a4 k4 c4 xs4 n5 a5 k5 c5 xs5 n6 a6 k6 c6 xs6 n7 a7 k7 c7 xs7, Fq.st [.n a, .n b, .n c], Fq.any, Fq.any] N2 [⟨2, 3, 6, Fq.st [.n 0, .n 0, .n 0], Fq.st [.n a, .n b, .n c], none⟩] E (fun hp => ⟨?_, ?_, ?_, ?_, tv⟩) ?_
 ·exact zLn hp fo tv (mq 1 rfl) (.inl rfl) zLy (sqo 2) (fun us w hl h => h)
 ·exact wXa (Fq.odd7 n1 a1 k1 c1 xs1 n2 a2 k2 c2 xs2 n3 a3 k3 c3 xs3 n4 a4 k4 c4 xs4 n5 a5 k5 c5 xs5 n6 a6 k6 c6 xs6 n7 a7 k7 c7 xs7) hp zJz (sqi 0) fun v w h => (by obtain ⟨rfl, h1, h2, h3, h4, h5, h6, h7⟩ := h; rw [Ea.out, Eb.out, Ec.out]; exact exQAny h1 HK1.out h2 HK2.out h3 HK3.out h4 h5 h6 h7)
 ·exact aS hp (mq 0 rfl) zBd zCf
 ·exact sS 1 hp (mq 0 rfl) zA8
 intro L vs w5 nb hL hC hn E5
 have e2 : vs 2 = .pointer (some ⟨nb 2, 0, none⟩) := hn _ (mq 0 rfl)
 have E := E5; try simp only [LM, zAc] at E
 rw [zAd hL]
 simp only [SP, Nat.zero_add, Nat.reduceAdd]
 rw [e2]
 generalize nb 2 = b5_2 at E ⊢
 generalize vs 0 = u5_0
 generalize vs 1 = u5_1
 clear e2 hC hn E5 hL vs L nb
 go_upto_region 5 with (fail)
 have B6 : Hid (ab ((s * s1)) < pw 6) := zAn Bs.out Bs1.out (by omega)
 have B7 : Hid (ab (((s * t - 1) * 1)) < pw 6) := zAn Bu.out (zAj (by decide) (by decide)) (by omega)
 have B8 : Hid (ab (((s * s1) + ((s * t - 1) * 1))) < pw 7) := zAw B6.out B7.out (by omega) (by omega)
 have B9 : Hid (ab ((s * (s1 * t1 - 1))) < pw 6) := zAn Bs.out Bu1.out (by omega)
 have B10 : Hid (ab (((s * t - 1) * t1)) < pw 6) := zAn Bu.out Bt1.out (by omega)
 have B11 : Hid (ab (((s * (s1 * t1 - 1)) + ((s * t - 1) * t1))) < pw 7) := zAw B9.out B10.out (by omega) (by omega)
 have B12 : Hid (ab ((1 * s1)) < pw 6) := zAn (zAj (by decide) (by decide)) Bs1.out (by omega)
 have B13 : Hid (ab ((t * 1)) < pw 6) := zAn Bt.out (zAj (by decide) (by decide)) (by omega)
 have B14 : Hid (ab (((1 * s1) + (t * 1))) < pw 7) := zAw B12.out B13.out (by omega) (by omega)
 have B15 : Hid (ab ((1 * (s1 * t1 - 1))) < pw 6) := zAn (zAj (by decide) (by decide)) Bu1.out (by omega)
 have B16 : Hid (ab ((t * t1)) < pw 6) := zAn Bt.out Bt1.out (by omega)
 have B17 : Hid (ab (((1 * (s1 * t1 - 1)) + (t * t1))) < pw 7) := zAw B15.out B16.out (by omega) (by omega)
 refine rg [ip b2 0, Fq.is (.int .u8 z), Fq.st [.n s, .n (s * t - 1), .n 1, .n t], ip b2 1, Fq.is (.int .u8 y), Fq.st [.n s1, .n (s1 * t1 - 1), .n 1, .n t1], Fq.st [.n p1, .n p2, .n p3, .n p4], Fq.any, Fq.any] N3 [⟨7, 8, 8, Fq.st [.n 0, .n 0, .n 0, .n 0], Fq.st [.n p1, .n p2, .n p3, .n p4], none⟩] E (fun hp => ⟨?_, ?_, ?_, ?_, ?_, ?_, ?_, ?_, ?_, tv⟩) ?_
 ·exact zAf (F := fun v _ => v = .pointer (some ⟨b2, 0, none⟩)) hp fo tv (sqo 3) (fun ρ w hc h => ⟨.pointer (some ⟨b2, 0, none⟩), by simp [execOp, go_sem, h, hc], rfl⟩)
 ·exact wXc 0 hp (mq 1 rfl) (sqi 0)
 ·exact wXa (Fq.is (.int .u8 z)) hp zHw (sqi 1) fun v w h => (by subst h; exact exQTurn HZ1.out Es.out Et.out)
 ·exact zAf (F := fun v _ => v = .pointer (some ⟨b2, 0, none⟩)) hp fo tv (sqo 3) (fun ρ w hc h => ⟨.pointer (some ⟨b2, 1, none⟩), by simp [execOp, go_sem, h, hc], rfl⟩)
 ·exact wXc 1 hp (mq 1 rfl) (sqi 3)
 ·exact wXa (Fq.is (.int .u8 y)) hp zHw (sqi 4) fun v w h => (by subst h; exact exQTurn HZ2.out Es1.out Et1.out)
 ·exact wXb (Fq.st [.n s, .n (s * t - 1), .n 1, .n t]) (Fq.st [.n s1, .n (s1 * t1 - 1), .n 1, .n t1]) hp zE3 (sqi 2) (sqi 5) fun v v' w h h' => (by have hh := zE8 h h' (Int.lt_of_lt_of_le Bs.out (zAa (by omega))) (Int.lt_of_lt_of_le Bu.out (zAa (by omega))) (Int.lt_of_lt_of_le (zAj (by decide) (by decide)) (zAa (by omega))) (Int.lt_of_lt_of_le Bt.out (zAa (by omega))) (Int.lt_of_lt_of_le Bs1.out (zAa (by omega))) (Int.lt_of_lt_of_le Bu1.out (zAa (by omega))) (Int.lt_of_lt_of_le (zAj (by decide) (by decide)) (zAa (by omega))) (Int.lt_of_lt_of_le Bt1.out (zAa (by omega))); rw [← Ep1.out, ← Ep2.out, ← Ep3.out, ← Ep4.out] at hh; exact hh)
 ·exact aS hp (mq 0 rfl) zB3 zDu
 ·exact sS 6 hp (mq 0 rfl) zBx
 intro L vs w18 nb hL hC hn E18
 have e0 := wXi hC 0
 have e1 := wXi hC 1
 have e3 := wXi hC 3
 have e4 := wXi hC 4
 have e7 : vs 7 = .pointer (some ⟨nb 7, 0, none⟩) := hn _ (mq 0 rfl)
 have E := E18; try simp only [LM, zAc] at E
 rw [zAd hL]
 simp only [SP, Nat.zero_add, Nat.reduceAdd]
 rw [e0, e1, e3, e4, e7]
 generalize nb 7 = b18_7 at E ⊢
 generalize vs 2 = u18_2
 generalize vs 5 = u18_5
 generalize vs 6 = u18_6
 clear e0 e1 e3 e4 e7 hC hn E18 hL vs L nb
 go_upto_region 6 with (fail)
 have B19 : Hid (ab ((p1 * 1)) < pw 6) := zAn Bp1.out (zAj (by decide) (by decide)) (by omega)
 have B20 : Hid (ab ((p2 * 0)) < pw 6) := zAn Bp2.out (zAj (by decide) (by decide)) (by omega)
 have B21 : Hid (ab (((p1 * 1) + (p2 * 0))) < pw 7) := zAw B19.out B20.out (by omega) (by omega)
 have B22 : Hid (ab ((p1 * 0)) < pw 6) := zAn Bp1.out (zAj (by decide) (by decide)) (by omega)
 have B23 : Hid (ab ((p2 * (-1))) < pw 6) := zAn Bp2.out (zAj (by decide) (by decide)) (by omega)
 have B24 : Hid (ab (((p1 * 0) + (p2 * (-1)))) < pw 7) := zAw B22.out B23.out (by omega) (by omega)
 have B25 : Hid (ab ((p3 * 1)) < pw 6) := zAn Bp3.out (zAj (by decide) (by decide)) (by omega)
 have B26 : Hid (ab ((p4 * 0)) < pw 6) := zAn Bp4.out (zAj (by decide) (by decide)) (by omega)
 have B27 : Hid (ab (((p3 * 1) + (p4 * 0))) < pw 7) := zAw B25.out B26.out (by omega) (by omega)
 have B28 : Hid (ab ((p3 * 0)) < pw 6) := zAn Bp3.out (zAj (by decide) (by decide)) (by omega)
 have B29 : Hid (ab ((p4 * (-1))) < pw 6) := zAn Bp4.out (zAj (by decide) (by decide)) (by omega)
 have B30 : Hid (ab (((p3 * 0) + (p4 * (-1)))) < pw 7) := zAw B28.out B29.out (by omega) (by omega)
 refine rg [Fq.st [.n p1, .n p2, .n p3, .n p4], Fq.st [.n 1, .n 0, .n 0, .n (-1)], Fq.st [.n q1, .n q2, .n q3, .n q4], Fq.any, Fq.any] N4 [⟨3, 4, 8, Fq.st [.n 0, .n 0, .n 0, .n 0], Fq.st [.n q1, .n q2, .n q3, .n q4], none⟩] E (fun hp => ⟨?_, ?_, ?_, ?_, ?_, tv⟩) ?_
 ·exact lS 0 8 hp (mq 0 rfl) zBw (sqo 7)
 ·exact zC1 (F := (Fq.is (.int .i64 1)).P) (G := (Fq.is (.int .i64 0)).P) (F3 := (Fq.is (.int .i64 0)).P) (F4 := (Fq.is (.int .i64 (-1))).P) hp fo tv (zE2) (zAh (fun _ => rfl)) (zAh (fun _ => rfl)) (zAh (fun _ => rfl)) (zAh (fun _ => rfl)) (fun v v' u u' w h h' g g' => (by subst h h' g g'; exact zE7 (by decide) (by decide) (by decide) (by decide)))
 ·exact wXb (Fq.st [.n p1, .n p2, .n p3, .n p4]) (Fq.st [.n 1, .n 0, .n 0, .n (-1)]) hp zE3 (sqi 0) (sqi 1) fun v v' w h h' => (by have hh := zE8 h h' (Int.lt_of_lt_of_le Bp1.out (zAa (by omega))) (Int.lt_of_lt_of_le Bp2.out (zAa (by omega))) (Int.lt_of_lt_of_le Bp3.out (zAa (by omega))) (Int.lt_of_lt_of_le Bp4.out (zAa (by omega))) (Int.lt_of_lt_of_le (zAj (by decide) (by decide)) (zAa (by omega))) (Int.lt_of_lt_of_le (zAj (by decide) (by decide)) (zAa (by omega))) (Int.lt_of_lt_of_le (zAj (by decide) (by decide)) (zAa (by omega))) (Int.lt_of_lt_of_le (zAj (by decide) (by decide)) (zAa (by omega))); rw [← Eq1.out, ← Eq2.out, ← Eq3.out, ← Eq4.out] at hh; exact hh)
 ·exact aS hp (mq 0 rfl) zB3 zDu
 ·exact sS 2 hp (mq 0 rfl) zBx
 intro L vs w31 nb hL hC hn E31
 have e3 : vs 3 = .pointer (some ⟨nb 3, 0, none⟩) := hn _ (mq 0 rfl)
 have E := E31; try simp only [LM, zAc] at E
 rw [zAd hL]
 simp only [SP, Nat.zero_add, Nat.reduceAdd]
 rw [e3]
 generalize nb 3 = b31_3 at E ⊢
 generalize vs 0 = u31_0
 generalize vs 1 = u31_1
 generalize vs 2 = u31_2
 clear e3 hC hn E31 hL vs L nb
 go_upto_region 7 with (fail)
 refine rg [Fq.st [.n a, .n b, .n c], Fq.st [.n p1, .n p2, .n p3, .n p4], Fq.st [.n A, .n B, .n C], Fq.st [.n a, .n b, .n c], Fq.st [.n q1, .n q2, .n q3, .n q4], Fq.st [.n G, .n H, .n J], Fq.any, Fq.any, Fq.any, Fq.any] N5 [⟨6, 8, 6, Fq.st [.n 0, .n 0, .n 0], Fq.st [.n A, .n B, .n C], none⟩, ⟨7, 9, 6, Fq.st [.n 0, .n 0, .n 0], Fq.st [.n G, .n H, .n J], none⟩] E (fun hp => ⟨?_, ?_, ?_, ?_, ?_, ?_, ?_, ?_, ?_, ?_, tv⟩) ?_
 ·exact lS 0 6 hp (mq 2 rfl) zAo (sqo 6)
 ·exact lS 0 8 hp (mq 1 rfl) zBw (sqo 7)
 ·exact wXb (Fq.st [.n a, .n b, .n c]) (Fq.st [.n p1, .n p2, .n p3, .n p4]) hp zE4 (sqi 0) (sqi 1) fun v v' w h h' => (by have hh := zE5 h h' (Int.lt_of_lt_of_le Ba.out (zAa (by omega))) (Int.lt_of_lt_of_le Bb.out (zAa (by omega))) (Int.lt_of_lt_of_le Bc.out (zAa (by omega))) (Int.lt_of_lt_of_le Bp1.out (zAa (by omega))) (Int.lt_of_lt_of_le Bp2.out (zAa (by omega))) (Int.lt_of_lt_of_le Bp3.out (zAa (by omega))) (Int.lt_of_lt_of_le Bp4.out (zAa (by omega))); rw [← EA.out, ← EB.out, ← EC.out] at hh; exact hh)
 ·exact lS 0 6 hp (mq 2 rfl) zAo (sqo 6)
 ·exact lS 0 8 hp (mq 0 rfl) zBw (sqo 8)
 ·exact wXb (Fq.st [.n a, .n b, .n c]) (Fq.st [.n q1, .n q2, .n q3, .n q4]) hp zE4 (sqi 3) (sqi 4) fun v v' w h h' => (by have hh := zE5 h h' (Int.lt_of_lt_of_le Ba.out (zAa (by omega))) (Int.lt_of_lt_of_le Bb.out (zAa (by omega))) (Int.lt_of_lt_of_le Bc.out (zAa (by omega))) (Int.lt_of_lt_of_le Bq1.out (zAa (by omega))) (Int.lt_of_lt_of_le Bq2.out (zAa (by omega))) (Int.lt_of_lt_of_le Bq3.out (zAa (by omega))) (Int.lt_of_lt_of_le Bq4.out (zAa (by omega))); rw [← EG.out, ← EH.out, ← EJ.out] at hh; exact hh)
 ·exact aS hp (mq 0 rfl) zBd zCf
 ·exact aS hp (mq 1 rfl) zBd zCf
 ·exact sS 2 hp (mq 0 rfl) zA8
 ·exact sS 5 hp (mq 1 rfl) zA8
 intro L vs w32 nb hL hC hn E32
 have e6 : vs 6 = .pointer (some ⟨nb 6, 0, none⟩) := hn _ (mq 0 rfl)
 have e7 : vs 7 = .pointer (some ⟨nb 7, 0, none⟩) := hn _ (mq 1 rfl)
 have E := E32; try simp only [LM, zAc] at E
 rw [zAd hL]
 simp only [SP, Nat.zero_add, Nat.reduceAdd]
 rw [e6, e7]
 generalize nb 6 = b32_6 at E ⊢
 generalize nb 7 = b32_7 at E ⊢
 generalize vs 0 = u32_0
 generalize vs 1 = u32_1
 generalize vs 2 = u32_2
 generalize vs 3 = u32_3
 generalize vs 4 = u32_4
 generalize vs 5 = u32_5
 clear e6 e7 hC hn E32 hL vs L nb
 go_upto_region 8 with (fail)
 refine rg [Fq.st [.n a, .n b, .n c], Fq.num D, Fq.st [.n A, .n B, .n C], Fq.num D, yT, yF, yF, Fq.st [.n a, .n b, .n c], Fq.num D, Fq.st [.n G, .n H, .n J], Fq.num D, yT, yF, yF, yF, Fq.st [.n a, .n b, .n c], Fq.is (.bool tt), Fq.st [.n A, .n B, .n C], Fq.is (.bool tt), yF, yF, yF, Fq.st [.n a, .n b, .n c], Fq.is (.bool tt), Fq.st [.n G, .n H, .n J], Fq.is (.bool tt), yF, yF] N7 [] E (fun hp => ⟨?_, ?_, ?_, ?_, ?_, ?_, ?_, ?_, ?_, ?_, ?_, ?_, ?_, ?_, ?_, ?_, ?_, ?_, ?_, ?_, ?_, ?_, ?_, ?_, ?_, ?_, ?_, ?_, tv⟩) ?_
 ·exact lS 0 6 hp (mq 4 rfl) zAo (sqo 6)
 ·exact wXa (Fq.st [.n a, .n b, .n c]) hp zCj (sqi 0) fun v w h => (by have hh := zCl h (Int.lt_of_lt_of_le Ba.out (zAa (by omega))) (Int.lt_of_lt_of_le Bb.out (zAa (by omega))) (Int.lt_of_lt_of_le Bc.out (zAa (by omega))); rw [← ED.out] at hh; exact hh)
 ·exact lS 0 6 hp (mq 0 rfl) zAo (sqo 9)
 ·exact wXa (Fq.st [.n A, .n B, .n C]) hp zCj (sqi 2) fun v w h => (by have hh := zCl h (Int.lt_of_lt_of_le BA.out (zAa (by omega))) (Int.lt_of_lt_of_le BB.out (zAa (by omega))) (Int.lt_of_lt_of_le BC.out (zAa (by omega))); rw [G1.out] at hh; exact hh)
 ·exact wXb (Fq.num D) (Fq.num D) hp zB1 (sqi 1) (sqi 3) fun v v' w h h' => zB2 h h' (decide_eq_true rfl)
 ·exact zAf (F := fun v _ => v = .bool true) hp fo tv (sqi 4) (fun ρ w _ h => ⟨.bool false, by simp [execOp, go_sem, h], rfl⟩)
 ·exact zAb hp fo tv (sqi 5)
 ·exact lG 0 6 hp gqi (mq 4 rfl) zAo (sqo 6) fun v w h => h
 ·exact zAl (F := (Fq.st [.n a, .n b, .n c]).P) hp fo gqi (zCj) (sqi 7) (fun v w h => (by have hh := zCl h (Int.lt_of_lt_of_le Ba.out (zAa (by omega))) (Int.lt_of_lt_of_le Bb.out (zAa (by omega))) (Int.lt_of_lt_of_le Bc.out (zAa (by omega))); rw [← ED.out] at hh; exact hh))
 ·exact lG 0 6 hp gqi (mq 1 rfl) zAo (sqo 10) fun v w h => h
 ·exact zAl (F := (Fq.st [.n G, .n H, .n J]).P) hp fo gqi (zCj) (sqi 9) (fun v w h => (by have hh := zCl h (Int.lt_of_lt_of_le BG.out (zAa (by omega))) (Int.lt_of_lt_of_le BH.out (zAa (by omega))) (Int.lt_of_lt_of_le BJ.out (zAa (by omega))); rw [G2.out] at hh; exact hh))
 ·exact zBs (F := (Fq.num D).P) (G := (Fq.num D).P) hp fo gqi (zB1) (sqi 8) (sqi 10) (fun v v' w h h' => zB2 h h' (decide_eq_true rfl))
 ·exact zAf (F := fun v _ => v = .bool true) hp fo gqi (sqi 11) (fun ρ w _ h => ⟨.bool false, by simp [execOp, go_sem, h], rfl⟩)
 ·exact zAg (F := fun v _ => v = .bool false) (G := fun v _ => v = .bool false) hp fo tv (sqi 6) (sqi 12) (fun ρ w hc h h' => ⟨_, by simp [execOp, go_sem, h, h'], rfl⟩)
 ·exact zAb hp fo tv (sqi 13)
 ·exact lG 0 6 hp gqi (mq 4 rfl) zAo (sqo 6) fun v w h => h
 ·exact zAl (F := (Fq.st [.n a, .n b, .n c]).P) hp fo gqi (zD2) (sqi 15) (fun v w h => zD3 h (Int.lt_of_lt_of_le Ba.out (zAa (by omega))) (Int.lt_of_lt_of_le Bb.out (zAa (by omega))) (Int.lt_of_lt_of_le Bc.out (zAa (by omega))) C0.out)
 ·exact lG 0 6 hp gqi (mq 0 rfl) zAo (sqo 9) fun v w h => h
 ·exact zAl (F := (Fq.st [.n A, .n B, .n C]).P) hp fo gqi (zD2) (sqi 17) (fun v w h => zD3 h (Int.lt_of_lt_of_le BA.out (zAa (by omega))) (Int.lt_of_lt_of_le BB.out (zAa (by omega))) (Int.lt_of_lt_of_le BC.out (zAa (by omega))) C1.out)
 ·exact zAg (F := fun v _ => v = .bool tt) (G := fun v _ => v = .bool tt) hp fo gqi (sqi 16) (sqi 18) (fun ρ w hc h h' => ⟨.bool false, by simp [execOp, go_sem, h, h'], rfl⟩)
 ·exact zAg (F := fun v _ => v = .bool false) (G := fun v _ => v = .bool false) hp fo tv (sqi 14) (sqi 19) (fun ρ w hc h h' => ⟨_, by simp [execOp, go_sem, h, h'], rfl⟩)
 ·exact zAb hp fo tv (sqi 20)
 ·exact lG 0 6 hp gqi (mq 4 rfl) zAo (sqo 6) fun v w h => h
 ·exact zAl (F := (Fq.st [.n a, .n b, .n c]).P) hp fo gqi (zD2) (sqi 22) (fun v w h => zD3 h (Int.lt_of_lt_of_le Ba.out (zAa (by omega))) (Int.lt_of_lt_of_le Bb.out (zAa (by omega))) (Int.lt_of_lt_of_le Bc.out (zAa (by omega))) C0.out)
 ·exact lG 0 6 hp gqi (mq 1 rfl) zAo (sqo 10) fun v w h => h
 ·exact zAl (F := (Fq.st [.n G, .n H, .n J]).P) hp fo gqi (zD2) (sqi 24) (fun v w h => zD3 h (Int.lt_of_lt_of_le BG.out (zAa (by omega))) (Int.lt_of_lt_of_le BH.out (zAa (by omega))) (Int.lt_of_lt_of_le BJ.out (zAa (by omega))) C2.out)
 ·exact zAg (F := fun v _ => v = .bool tt) (G := fun v _ => v = .bool tt) hp fo gqi (sqi 23) (sqi 25) (fun ρ w hc h h' => ⟨.bool false, by simp [execOp, go_sem, h, h'], rfl⟩)
 ·exact zAg (F := fun v _ => v = .bool false) (G := fun v _ => v = .bool false) hp fo tv (sqi 21) (sqi 26) (fun ρ w hc h h' => ⟨_, by simp [execOp, go_sem, h, h'], rfl⟩)
 intro L vs w33 nb hL hC hn E33
 have e4 := wXi hC 4
 have e5 := wXi hC 5
 have e6 := wXi hC 6
 have e11 := wXi hC 11
 have e12 := wXi hC 12
 have e13 := wXi hC 13
 have e14 := wXi hC 14
 have e16 := wXi hC 16
 have e18 := wXi hC 18
 have e19 := wXi hC 19
 have e20 := wXi hC 20
 have e21 := wXi hC 21
 have e23 := wXi hC 23
 have e25 := wXi hC 25
 have e26 := wXi hC 26
 have e27 := wXi hC 27
 have E := E33; try simp only [LM, zAc] at E
 rw [zAd hL]
 simp only [SP, Nat.zero_add, Nat.reduceAdd]
 rw [e4, e5, e6, e11, e12, e13, e14, e16, e18, e19, e20, e21, e23, e25, e26, e27]
 generalize vs 0 = u33_0
 generalize vs 1 = u33_1
 generalize vs 2 = u33_2
 generalize vs 3 = u33_3
 generalize vs 7 = u33_7
 generalize vs 8 = u33_8
 generalize vs 9 = u33_9
 generalize vs 10 = u33_10
 generalize vs 15 = u33_15
 generalize vs 17 = u33_17
 generalize vs 22 = u33_22
 generalize vs 24 = u33_24
 clear e4 e5 e6 e11 e12 e13 e14 e16 e18 e19 e20 e21 e23 e25 e26 e27 hC hn E33 hL vs L nb
 go_upto_region 10 with (fail)
 have B34 : Hid (ab ((3)) < pw 3) := zA7 (by decide)
 have B35 : Hid (ab (((3) * a)) < pw 6) := zAn B34.out Ba.out (by omega)
 have B36 : Hid (ab (((3) * b)) < pw 6) := zAn B34.out Bb.out (by omega)
 have B37 : Hid (ab (((3) * c)) < pw 6) := zAn B34.out Bc.out (by omega)
 refine rg [Fq.num (3), ip b5_2 0, Fq.num a, Fq.num ((3) * a), Fq.num (3), ip b5_2 2, Fq.num b, Fq.num ((3) * b), Fq.num (3), ip b5_2 4, Fq.num c, Fq.num ((3) * c), Fq.st [.n ((3) * a), .n ((3) * b), .n ((3) * c)], Fq.any, Fq.any] N7 [⟨13, 14, 6, Fq.st [.n 0, .n 0, .n 0], Fq.st [.n ((3) * a), .n ((3) * b), .n ((3) * c)], none⟩] E (fun hp => ⟨?_, ?_, ?_, ?_, ?_, ?_, ?_, ?_, ?_, ?_, ?_, ?_, ?_, ?_, ?_, tv⟩) ?_
 ·exact zAl (F := (Fq.is (.int .i64 3)).P) hp fo tv (zBp) (zAh (fun _ => rfl)) (fun v w h => (by subst h; exact rOfK w (3) (by omega) (by omega)))
 ·exact qa b5_2 0 0 hp (sqo 6)
 ·exact lN 0 2 hp (mq 4 rfl) zAe (sqi 1)
 ·exact wXb (Fq.num (3)) (Fq.num a) hp zD0 (sqi 0) (sqi 2) fun v v' w h h' => exK (RMulV h h') B35.out (by omega)
 ·exact zAl (F := (Fq.is (.int .i64 3)).P) hp fo tv (zBp) (zAh (fun _ => rfl)) (fun v w h => (by subst h; exact rOfK w (3) (by omega) (by omega)))
 ·exact qa b5_2 0 2 hp (sqo 6)
 ·exact lN 2 2 hp (mq 4 rfl) zAe (sqi 5)
 ·exact wXb (Fq.num (3)) (Fq.num b) hp zD0 (sqi 4) (sqi 6) fun v v' w h h' => exK (RMulV h h') B36.out (by omega)
 ·exact zAl (F := (Fq.is (.int .i64 3)).P) hp fo tv (zBp) (zAh (fun _ => rfl)) (fun v w h => (by subst h; exact rOfK w (3) (by omega) (by omega)))
 ·exact qa b5_2 0 4 hp (sqo 6)
 ·exact lN 4 2 hp (mq 4 rfl) zAe (sqi 9)
 ·exact wXb (Fq.num (3)) (Fq.num c) hp zD0 (sqi 8) (sqi 10) fun v v' w h h' => exK (RMulV h h') B37.out (by omega)
 ·exact zEi (z0 := ((3) * a)) (z1 := ((3) * b)) (z2 := ((3) * c)) hp fo tv (sqi 3) (sqi 7) (sqi 11) (fun v w h => h)
 ·exact aS hp (mq 0 rfl) zBd zCf
 ·exact sS 12 hp (mq 0 rfl) zA8
 intro L vs w38 nb hL hC hn E38
 have e1 := wXi hC 1
 have e5 := wXi hC 5
 have e9 := wXi hC 9
 have e13 : vs 13 = .pointer (some ⟨nb 13, 0, none⟩) := hn _ (mq 0 rfl)
 have E := E38; try simp only [LM, zAc] at E
 rw [zAd hL]
 simp only [SP, Nat.zero_add, Nat.reduceAdd]
 rw [e1, e5, e9, e13]
 generalize nb 13 = b38_13 at E ⊢
 generalize vs 0 = u38_0
 generalize vs 2 = u38_2
 generalize vs 3 = u38_3
 generalize vs 4 = u38_4
 generalize vs 6 = u38_6
 generalize vs 7 = u38_7
 generalize vs 8 = u38_8
 generalize vs 10 = u38_10
 generalize vs 11 = u38_11
 generalize vs 12 = u38_12
 clear e1 e5 e9 e13 hC hn E38 hL vs L nb
 go_upto_region 11 with (fail)
 refine rg [Fq.st [.n a, .n b, .n c], Fq.is (.int .i64 ce), Fq.st [.n A, .n B, .n C], Fq.is (.int .i64 ce), yT, yT, Fq.st [.n a, .n b, .n c], Fq.is (.int .i64 ce), Fq.st [.n G, .n H, .n J], Fq.is (.int .i64 ce), yT, yT, yT, Fq.st [.n ((3) * a), .n ((3) * b), .n ((3) * c)], yF, yT, yT, yT, Fq.st [.n ((3) * a), .n ((3) * b), .n ((3) * c)], Fq.is (.int .i64 ce), Fq.st [.n a, .n b, .n c], Fq.is (.int .i64 ce), yT, yT, yT, yT, yT, yT] N8 [] E (fun hp => ⟨?_, ?_, ?_, ?_, ?_, ?_, ?_, ?_, ?_, ?_, ?_, ?_, ?_, ?_, ?_, ?_, ?_, ?_, ?_, ?_, ?_, ?_, ?_, ?_, ?_, ?_, ?_, ?_, tv⟩) ?_
 ·exact lS 0 6 hp (mq 5 rfl) zAo (sqo 6)
 ·exact wXa (Fq.st [.n a, .n b, .n c]) hp zCi (sqi 0) fun v w h => zCk h (Int.lt_of_lt_of_le Ba.out (zAa (by omega))) (Int.lt_of_lt_of_le Bb.out (zAa (by omega))) (Int.lt_of_lt_of_le Bc.out (zAa (by omega))) K0.out
 ·exact lS 0 6 hp (mq 1 rfl) zAo (sqo 9)
 ·exact wXa (Fq.st [.n A, .n B, .n C]) hp zCi (sqi 2) fun v w h => zCk h (Int.lt_of_lt_of_le BA.out (zAa (by omega))) (Int.lt_of_lt_of_le BB.out (zAa (by omega))) (Int.lt_of_lt_of_le BC.out (zAa (by omega))) K1.out
 ·exact zAg (F := fun v _ => v = .int .i64 ce) (G := fun v _ => v = .int .i64 ce) hp fo tv (sqi 1) (sqi 3) (fun ρ w hc h h' => ⟨.bool true, by simp [execOp, go_sem, h, h'], rfl⟩)
 ·exact zAb hp fo tv (sqi 4)
 ·exact lG 0 6 hp gqi (mq 5 rfl) zAo (sqo 6) fun v w h => h
 ·exact zAl (F := (Fq.st [.n a, .n b, .n c]).P) hp fo gqi (zCi) (sqi 6) (fun v w h => zCk h (Int.lt_of_lt_of_le Ba.out (zAa (by omega))) (Int.lt_of_lt_of_le Bb.out (zAa (by omega))) (Int.lt_of_lt_of_le Bc.out (zAa (by omega))) K0.out)
 ·exact lG 0 6 hp gqi (mq 2 rfl) zAo (sqo 10) fun v w h => h
 ·exact zAl (F := (Fq.st [.n G, .n H, .n J]).P) hp fo gqi (zCi) (sqi 8) (fun v w h => zCk h (Int.lt_of_lt_of_le BG.out (zAa (by omega))) (Int.lt_of_lt_of_le BH.out (zAa (by omega))) (Int.lt_of_lt_of_le BJ.out (zAa (by omega))) K2.out)
 ·exact zAg (F := fun v _ => v = .int .i64 ce) (G := fun v _ => v = .int .i64 ce) hp fo gqi (sqi 7) (sqi 9) (fun ρ w hc h h' => ⟨.bool true, by simp [execOp, go_sem, h, h'], rfl⟩)
 ·exact zAg (F := fun v _ => v = .bool true) (G := fun v _ => v = .bool true) hp fo tv (sqi 5) (sqi 10) (fun ρ w hc h h' => ⟨_, by simp [execOp, go_sem, h, h'], rfl⟩)
 ·exact zAb hp fo tv (sqi 11)
 ·exact lG 0 6 hp gqi (mq 0 rfl) zAo (sqo 11) fun v w h => h
 ·exact zAl (F := (Fq.st [.n ((3) * a), .n ((3) * b), .n ((3) * c)]).P) hp fo gqi (zD2) (sqi 13) (fun v w h => zD3 h (Int.lt_of_lt_of_le B35.out (zAa (by omega))) (Int.lt_of_lt_of_le B36.out (zAa (by omega))) (Int.lt_of_lt_of_le B37.out (zAa (by omega))) (zLd ..))
 ·exact zAf (F := fun v _ => v = .bool false) hp fo gqi (sqi 14) (fun ρ w _ h => ⟨.bool true, by simp [execOp, go_sem, h], rfl⟩)
 ·exact zAg (F := fun v _ => v = .bool true) (G := fun v _ => v = .bool true) hp fo tv (sqi 12) (sqi 15) (fun ρ w hc h h' => ⟨_, by simp [execOp, go_sem, h, h'], rfl⟩)
 ·exact zAb hp fo tv (sqi 16)
 ·exact lG 0 6 hp gqi (mq 0 rfl) zAo (sqo 11) fun v w h => h
 ·exact zAl (F := (Fq.st [.n ((3) * a), .n ((3) * b), .n ((3) * c)]).P) hp fo gqi (zCi) (sqi 18) (fun v w h => zCk h (Int.lt_of_lt_of_le B35.out (zAa (by omega))) (Int.lt_of_lt_of_le B36.out (zAa (by omega))) (Int.lt_of_lt_of_le B37.out (zAa (by omega))) K3.out)
 ·exact lG 0 6 hp gqi (mq 5 rfl) zAo (sqo 6) fun v w h => h
 ·exact zAl (F := (Fq.st [.n a, .n b, .n c]).P) hp fo gqi (zCi) (sqi 20) (fun v w h => zCk h (Int.lt_of_lt_of_le Ba.out (zAa (by omega))) (Int.lt_of_lt_of_le Bb.out (zAa (by omega))) (Int.lt_of_lt_of_le Bc.out (zAa (by omega))) K0.out)
 ·exact zAg (F := fun v _ => v = .int .i64 ce) (G := fun v _ => v = .int .i64 ce) hp fo gqi (sqi 19) (sqi 21) (fun ρ w hc h h' => ⟨.bool true, by simp [execOp, go_sem, h, h'], rfl⟩)
 ·exact zAg (F := fun v _ => v = .bool true) (G := fun v _ => v = .bool true) hp fo tv (sqi 17) (sqi 22) (fun ρ w hc h h' => ⟨_, by simp [execOp, go_sem, h, h'], rfl⟩)
 ·exact zAb hp fo tv (sqi 23)
 ·exact zAb hp fo gqi (sqo 5)
 ·exact zAg (F := fun v _ => v = .bool true) (G := fun v _ => v = .bool true) hp fo tv (sqi 24) (sqi 25) (fun ρ w hc h h' => ⟨_, by simp [execOp, go_sem, h, h'], rfl⟩)
 ·exact zAi hp fo tv (sqi 26)
 intro L vs w39 nb hL hC hn E39
 have e1 := wXi hC 1
 have e3 := wXi hC 3
 have e4 := wXi hC 4
 have e5 := wXi hC 5
 have e7 := wXi hC 7
 have e9 := wXi hC 9
 have e10 := wXi hC 10
 have e11 := wXi hC 11
 have e12 := wXi hC 12
 have e14 := wXi hC 14
 have e15 := wXi hC 15
 have e16 := wXi hC 16
 have e17 := wXi hC 17
 have e19 := wXi hC 19
 have e21 := wXi hC 21
 have e22 := wXi hC 22
 have e23 := wXi hC 23
 have e24 := wXi hC 24
 have e25 := wXi hC 25
 have e26 := wXi hC 26
 have e27 := wXi hC 27
 have E := E39; try simp only [LM, zAc] at E
 rw [zAd hL]
 simp only [SP, Nat.zero_add, Nat.reduceAdd]
 rw [e1, e3, e4, e5, e7, e9, e10, e11, e12, e14, e15, e16, e17, e19, e21, e22, e23, e24, e25, e26, e27]
 generalize vs 0 = u39_0
 generalize vs 2 = u39_2
 generalize vs 6 = u39_6
 generalize vs 8 = u39_8
 generalize vs 13 = u39_13
 generalize vs 18 = u39_18
 generalize vs 20 = u39_20
 clear e1 e3 e4 e5 e7 e9 e10 e11 e12 e14 e15 e16 e17 e19 e21 e22 e23 e24 e25 e26 e27 hC hn E39 hL vs L nb
 clear Ea HK1 Eb HK2 Ec HK3 Es Et Es1 Et1 Ep1 Ep2 Ep3 Ep4 Eq1 Eq2 Eq3 Eq4 EA EB EC EG EH EJ HZ1 HZ2 D1 D2 ED G1 G2 C0 C1 C2 K0 K1 K2 K3
 clear B6 B7 B8 B9 B10 B11 B12 B13 B14 B15 B16 B17 B19 B20 B21 B22 B23 B24 B25 B26 B27 B28 B29 B30 B34 B35 B36 B37 Ba Bb Bc Bs Bt Bs1 Bt1 Bu Bu1 Bp1 Bp2 Bp3 Bp4 Bq1 Bq2 Bq3 Bq4 BA BB BC BG BH BJ BD
 go_wp2
 refine bodyPost_ret (v := .bool true) ?_ rfl ⟨_, rfl, E.below, rfl⟩
 simp [results, Try.results6, go_sem]

theorem zJp (w : World) (n1 : Bool) (a1 : Option Addr) (k1 c1 : Nat) (xs1 : List Int) (h1 : Sl w a1 k1 c1 xs1) (hk1 : k1 ≤ 9223372036854775807) (n2 : Bool) (a2 : Option Addr) (k2 c2 : Nat) (xs2 : List Int) (h2 : Sl w a2 k2 c2 xs2) (hk2 : k2 ≤ 9223372036854775807) (n3 : Bool) (a3 : Option Addr) (k3 c3 : Nat) (xs3 : List Int) (h3 : Sl w a3 k3 c3 xs3) (hk3 : k3 ≤ 9223372036854775807) (n4 : Bool) (a4 : Option Addr) (k4 c4 : Nat) (xs4 : List Int) (h4 : Sl w a4 k4 c4 xs4) (hk4 : k4 ≤ 9223372036854775807) (n5 : Bool) (a5 : Option Addr) (k5 c5 : Nat) (xs5 : List Int) (h5 : Sl w a5 k5 c5 xs5) (hk5 : k5 ≤ 9223372036854775807) (n6 : Bool) (a6 : Option Addr) (k6 c6 : Nat) (xs6 : List Int) (h6 : Sl w a6 k6 c6 xs6) (hk6 : k6 ≤ 9223372036854775807) (n7 : Bool) (a7 : Option Addr) (k7 c7 : Nat) (xs7 : List Int) (h7 : Sl w a7 k7 c7 xs7) (hk7 : k7 ≤ 9223372036854775807) (z y : Int) (hz : 0 ≤ z ∧ z ≤ 255) (hy : 0 ≤ y ∧ y ≤ 255) : Calls Try.prog 6 #[.agg #[.bool n1, .slice a1 k1 c1, .bool n2, .slice a2 k2 c2, .bool n3, .slice a3 k3 c3, .bool n4, .slice a4 k4 c4, .bool n5, .slice a5 k5 c5, .bool n6, .slice a6 k6 c6, .bool n7, .slice a7 k7 c7], .agg #[.int .u8 z, .int .u8 y]] w fun e w' => e = .returned (.bool true) ∧ Below w.heap.size w w' := by
 refine (zJo w n1 a1 k1 c1 xs1 h1 hk1 n2 a2 k2 c2 xs2 h2 hk2 n3 a3 k3 c3 xs3 h3 hk3 n4 a4 k4 c4 xs4 h4 hk4 n5 a5 k5 c5 xs5 h5 hk5 n6 a6 k6 c6 xs6 h6 hk6 n7 a7 k7 c7 xs7 h7 hk7 z y hz hy ⟨[.int .u8 z, .int .u8 y], rfl, _, rfl, rfl, _, rfl, rfl, rfl⟩).mono ?_
 rintro e w' ⟨v', rfl, hb, rfl⟩
 exact ⟨rfl, hb⟩

end Go.Proofs.Ytdhkhedhnolcjaa
